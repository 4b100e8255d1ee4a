import PyProof.Rows.All
import Wide.All
import OpenK.AllK
import Wide.FinOn
import HandS.ForMost
import HandS.Exc
import HandS.TryOnly
import HandS.ExcOwn
import HandS.WordsExc
import HandS.TryMany
import HandS.ExcInit
import HandS.ExcField
import HandS.ExcIs
import HandS.ExcValue
import HandS.More
import HandS.IsInst
import HandS.DeepEq
import HandS.Style
import HandS.Conv
import HandS.NoneIn
import HandS.Flow
import KE.KIsAll
import KE.KTryMore
import HandS.Defaults
import HandS.Zip
import HandS.Walk
import HandS.Replace
import HandS.ReplaceDef
import HandS.ReplaceLit
import KE.GoesMore
import KE.GoesEnum
import KE.GoesEnumKw
import OpenK.KMeth
import PyProof.Rows.CallKwBuiltin
import HandS.ClsMeth
import HandS.HeadNt
import HandS.LawCells
import HandS.HeadEnd
import HandS.Wide
import HandS.Property
import HandS.DictComp
import HandS.Finally
import KE.KStateDown
import Lean
import HandS.Head0
import HandS.Head1
import HandS.Head2
import HandS.HeadHook1
import HandS.HeadHook2
import PySem.Challenge.RW_handspaces_k22_marks_of_words
set_option Elab.async false
set_option linter.all false
set_option maxRecDepth 100000
set_option maxHeartbeats 2000000
namespace VX
open PySem PySem.Spec PyProof.Rows L2
/-! ### ints: a power of a greater base -/
def CPw (i j : Int) : Prop := 0 ≤ j ∧ (Builtin.Int.intBits i : Int) * j ≤ 2 ^ 27
theorem op_pw {X : Cx} : OpR X (binaryOp .Pow) (rI CPw fun i j => .int (i ^ j.toNat)) :=
  opI fun _ _ _ _ _ _ _ c q => pow_int c.1 c.2 q
/-! ### repr of data -/
inductive DX (K : PySem.W.Frag) (H : Hp) : V → PyData → Prop where
  | dp {v : V} {d : PyData} (h : Dp K H v d) : DX K H v d
  | dk {a : Addr} {x : Str} {i : Int} (h : H a = some (.dK [(Sum.inr x, .int i)])) : DX K H (.ref a) (.dict [(.str x, .int i)])
structure Shown (K : PySem.W.Frag) (H : Hp) (v : V) (d : PyData) : Prop where
  dx : DX K H v d
  sh : d.showable = true
  dep : d.depth ≤ 8
  sz : d.shown.length ≤ sizeLine
theorem kv_one {kvs : List (Key × V)} {vs : List (Key × Value)} {x : Str} {i : Int} (r : KV kvs vs) (e : kvs = [(Sum.inr x, V.int i)]) : ∃ t, vs = [(Sum.inr x, Value.int i t)] := by
  subst e
  cases r with
  | cons h t =>
    cases t
    rename_i b
    obtain ⟨k, u⟩ := b
    obtain ⟨h1, h2⟩ := h
    obtain ⟨t, h2⟩ := h2
    dsimp only at h1 h2
    subst h1 h2
    exact ⟨t, rfl⟩
theorem DX.reads {X : Cx} {pins : List (Addr × Obj)} {σ : L2.St} {H : Hp} {s : Shared} (I : Inv X pins σ H s) {d : PyData} {v : V} {u : Value} (h : DX X.K H v d) (r : RelV v u) :
    ∃ as, Reads s.heap u d as ∧ (d.hasDict = true → sysModules ∉ as) := by
  cases h with
  | dp h =>
    obtain ⟨as, q⟩ := Dp.reads I d v u h r
    refine ⟨as, q, fun hd => ?_⟩
    exfalso
    have no : ∀ (d : PyData) (v : V), Dp X.K H v d → d.hasDict = false := by
      intro d
      refine PyData.rec (motive_1 := fun d => ∀ v, Dp X.K H v d → d.hasDict = false) (motive_2 := fun ds => ∀ vs, DpAll X.K H vs ds → PyData.hasDictAll ds = false)
        (motive_3 := fun _ => True) (motive_4 := fun _ => True) ?_ ?_ ?_ ?_ ?_ ?_ ?_ ?_ ?_ ?_ ?_ ?_ d
      all_goals first
        | (intros; simp only [PyData.hasDict]; done)
        | (intro xs ih v h; simp only [PyData.hasDict]; cases h with | lst _ ha => exact ih _ ha)
        | (intro xs ih v h; simp only [PyData.hasDict]; cases h with | tup _ ha => exact ih _ ha)
        | (intro xs ih v h; cases h; done)
        | (intro vs h; simp only [PyData.hasDictAll]; done)
        | (intro x xs ih1 ih2 vs h; cases h with | cons h1 h2 => simp only [PyData.hasDictAll, ih1 _ h1, ih2 _ h2, Bool.or_self])
        | (intros; trivial)
    rw [no d v h] at hd
    cases hd
  | @dk a x i h =>
    cases (show u = Value.ref a from r)
    obtain ⟨_, ns, vs, rv, o, es, ep, e, ex, hd, hk, hp, _⟩ := (show ObjOk X.prog X.w H s.heap a (.dK [(Sum.inr x, .int i)]) from I.hok a _ h)
    obtain ⟨t, rfl⟩ := kv_one rv rfl
    obtain ⟨l⟩ := es
    cases hp with
    | @cons en kv tl tk h1 h2 h3 =>
      cases h3
      obtain ⟨t', ek⟩ := Value.isStrOf_shape (x := x) (v := en.key) (show Value.isStrOf x en.key = true from h1)
      have ev : en.val = Value.int i t := h2
      refine ⟨[a] ++ ([] ++ []) ++ ([] ++ []), Reads.dict (as := [] ++ []) (bs := [] ++ []) e ex.1 hd (ReadsAll.cons ?_ .nil) (ReadsAll.cons ?_ .nil), fun _ => ?_⟩
      · show Reads s.heap en.key (.str x) []
        rw [ek]; exact Reads.str x t'
      · show Reads s.heap en.val (.int i) []
        rw [ev]; exact Reads.int i t
      · intro m
        have e' : sysModules = a := by simpa using m
        rw [← e'] at ns
        exact absurd ns (by simp)
theorem call_repr {X : Cx} (hg : X.A.guards = some []) (hu : X.A.units + 64 < cLine) : CallR X (.builtin "repr") (fun xs H Q => ∃ v d, xs = [v] ∧ Shown X.K H v d ∧ Q (.str d.shown) H) := by
  intro pins s σ H xs us Q I r h
  obtain ⟨v, d, rfl, S, q⟩ := h
  obtain ⟨u, rfl, ru⟩ := vals1 r
  obtain ⟨as, R, hs⟩ := S.dx.reads I ru
  have leaf : ∀ {z : Str} {s' : Shared}, s' = { s with toks := s.toks + 1 } → Q (.str z) H → EP X pins σ Q (.str z s.toks) s' := fun {z s'} e q => by
    subst e
    exact ⟨.str z, H, I.tok _, ⟨_, rfl⟩, q⟩
  have sh := S.sh
  have sz := S.sz
  have dp := S.dep
  clear S ru r
  cases R with
  | none => exact P.repr_of_none (leaf rfl (by simpa only [PyData.shown] using q))
  | bool b => exact P.repr_of_bool (leaf rfl (by simpa only [PyData.shown] using q))
  | int i t => exact P.repr_of_int (by simpa [PyData.showable] using sh) (leaf rfl (by simpa only [PyData.shown] using q))
  | str x t => exact P.repr_of_str (leaf rfl (by simpa only [PyData.shown] using q)) (by simpa only [PyData.shown] using sz)
  | list a b c e => exact repr_of_reads' (Reads.list a b c e) sh hs hg (by omega) (fun _ _ z => z) (fun h' u tk k => ⟨.str _, H, I.kept k, ⟨_, rfl⟩, q⟩) sz
  | tuple a b c e => exact repr_of_reads' (Reads.tuple a b c e) sh hs hg (by omega) (fun _ _ z => z) (fun h' u tk k => ⟨.str _, H, I.kept k, ⟨_, rfl⟩, q⟩) sz
  | dict a b c e f => exact repr_of_reads' (Reads.dict a b c e f) sh hs hg (by omega) (fun _ _ z => z) (fun h' u tk k => ⟨.str _, H, I.kept k, ⟨_, rfl⟩, q⟩) sz
/-! ### lists of the very same things -/
def OneV (v : V) : Prop := flatB v = true ∨ ∃ c, v = .ref c
theorem one_eq {A : Around} {s : Shared} {v : V} {u u' : Value} (o : OneV v) (r : RelV v u) (r' : RelV v u') : SeqAt.EqAt A s u u' true := by
  rcases o with o | ⟨c, rfl⟩
  · exact eqAt_same r r' o
  · cases (show u = Value.ref c from r)
    cases (show u' = Value.ref c from r')
    exact SeqAt.EqAt.same _
theorem all_one {A : Around} {s : Shared} : ∀ {xs : List V} {us ws : List Value}, (∀ v ∈ xs, OneV v) → Vals xs us → Vals xs ws → ∀ j (h1 : j < us.length) (h2 : j < ws.length), SeqAt.EqAt A s us[j] ws[j] true
  | [], _, _, _, .nil, .nil, j, h1, _ => absurd h1 (Nat.not_lt_zero j)
  | x :: xs, _, _, o, .cons a b, .cons a' b', 0, _, _ => one_eq (o x List.mem_cons_self) a a'
  | x :: xs, _, _, o, .cons a b, .cons a' b', j + 1, h1, h2 => all_one (fun v hv => o v (List.mem_cons_of_mem _ hv)) b b' j (Nat.lt_of_succ_lt_succ h1) (Nat.lt_of_succ_lt_succ h2)
def rSame (K : PySem.W.Frag) (b : Bool) : R2 := fun x y H Q => ∃ p q xs, x = .ref p ∧ y = .ref q ∧ SqL K H p xs ∧ SqL K H q xs ∧ (∀ v ∈ xs, OneV v) ∧ Q (.bl b) H
theorem op_neSame {X : Cx} (hu : X.A.units < cLine) : OpR X (compareOp .NotEq) (rSame X.K false) := by
  intro pins s σ H x y v u Q I rx ry h
  obtain ⟨p, q, xs, rfl, rfl, hp, hq, ho, hQ⟩ := h
  cases (show v = Value.ref p from rx)
  cases (show u = Value.ref q from ry)
  obtain ⟨us, r1, p1, _⟩ := I.list hp
  obtain ⟨ws, r2, p2, _⟩ := I.list hq
  have hsz : us.toArray.size = ws.toArray.size := by
    rw [List.size_toArray, List.size_toArray, ← r1.length, ← r2.length]
  refine SeqAt.RcNeAt.lists (e := fun _ => true) p1.isList p2.isList hsz hu (fun j h1 h2 => ?_) _ _ _ _ ?_
  · have k := all_one (A := X.A.in1) (s := s) ho r1 r2 j (by simpa using h1) (by simpa using h2)
    simpa using k
  · rw [show ((List.range us.toArray.size).all fun _ => true) = true from List.all_eq_true.mpr fun _ _ => rfl]
    exact ⟨.bl false, H, I, rfl, hQ⟩
theorem op_eqSame {X : Cx} (hu : X.A.units < cLine) : OpR X (compareOp .Eq) (rSame X.K true) := by
  intro pins s σ H x y v u Q I rx ry h
  obtain ⟨p, q, xs, rfl, rfl, hp, hq, ho, hQ⟩ := h
  cases (show v = Value.ref p from rx)
  cases (show u = Value.ref q from ry)
  obtain ⟨us, r1, p1, _⟩ := I.list hp
  obtain ⟨ws, r2, p2, _⟩ := I.list hq
  have hsz : us.toArray.size = ws.toArray.size := by
    rw [List.size_toArray, List.size_toArray, ← r1.length, ← r2.length]
  refine SeqAt.RcAt.lists (e := fun _ => true) p1.isList p2.isList hsz hu (fun j h1 h2 => ?_) _ _ _ _ ?_
  · have k := all_one (A := X.A.in1) (s := s) ho r1 r2 j (by simpa using h1) (by simpa using h2)
    simpa using k
  · rw [show ((List.range us.toArray.size).all fun _ => true) = true from List.all_eq_true.mpr fun _ _ => rfl]
    exact ⟨.bl true, H, I, rfl, hQ⟩
end VX

set_option Elab.async false
set_option linter.all false
set_option maxRecDepth 100000
set_option maxHeartbeats 4000000
/-! exceptions as values -/
namespace VX
open PySem PySem.Spec PyProof.Rows L2
section
variable {X : Cx} {pins : List (Addr × Obj)} {σ : L2.St} {H : Hp} {s s' : Shared}
/-- the same state, the heap grown -/
theorem Inv.up (I : L2.Inv X pins σ H s) (k : ∀ b o, s.heap.get? b = some o → s'.heap.get? b = some o) (ho : s'.os = s.os) (hb : AllBare s'.gens) : L2.Inv X pins σ H s' :=
  I.call' (ch := []) ho (Un.kept k) (I.hok.kept k) hb fun b z => absurd z (by simp)
/-- the same state, the heap grown by one thing that is tracked from now on -/
theorem Inv.upA {a : Addr} {o : HO} (I : L2.Inv X pins σ H s) (k : ∀ b o, s.heap.get? b = some o → s'.heap.get? b = some o) (n : s.heap.get? a = none) (na : H a = none) (new : ObjOk X.prog X.w (upd H a o) s'.heap a o) (ho : s'.os = s.os) (hb : AllBare s'.gens) :
    L2.Inv X pins σ (upd H a o) s' :=
  I.call' (ch := []) ho (Un.laidN k n na) (I.hok.laidN k na new) hb fun b z => absurd z (by simp)
end
/-- an exception that stands at a, of the class cls, its own dict d -/
def ExD (cls : Value) (d : Option Addr) (a : Addr) : HO := .ext fun h => ∃ (oe : Obj) (vs : Array Value), h.get? a = some oe ∧ Zc cls d oe ∧ oe.data = .fields vs
theorem exD_ok {P : Program} {w : World} {H : Hp} {h : Heap} {a : Addr} {cls : Value} {d : Option Addr} {oe : Obj} {vs : Array Value} (e : h.get? a = some oe) (z : Zc cls d oe) (q : oe.data = .fields vs) : ObjOk P w H h a (ExD cls d a) :=
  ⟨⟨oe, vs, e, z, q⟩, ⟨oe, e⟩, fun _ _ ⟨o, v, p, r⟩ k => ⟨o, v, k o p, r⟩⟩
/-- C(..), the exception itself -/
theorem pe_exV {X : Cx} {e : Expr} {t : L2.St → Hp → XK → Prop} (he : PMk X e t) : PE X e (fun σ H Q => t σ H fun cls d H1 => ∀ a, H1 a = none → Q (.ref a) (upd H1 a (ExD cls d a))) := by
  refine ⟨fun pins s σ H Q I h => ?_⟩
  refine thn (he pins s σ H _ I h) fun u s1 hu => ?_
  obtain ⟨a, oe, vs, sI, H', cls, d, rfl, J, k, n, ha, hz, hd, _, na, os, ag, _, q⟩ := hu
  exact ⟨.ref a, _, Inv.upA J k n na (exD_ok ha hz hd) os ag, rfl, q a na⟩
/-- C(..).n -/
theorem pe_exGet {X : Cx} {e : Expr} {n : Str} {pos : Pos} {t : L2.St → Hp → XK → Prop} (he : PMk X e t) (hb : attributeBase e n X.env (eval e X.env) = eval e X.env := by rfl) :
    PE X (.Attribute e n pos) (fun σ H Q => t σ H fun cls d H1 => ∃ (C dd : Addr) (fs : List (Str × V)) (v : V), cls = .ref C ∧ d = some dd ∧ XfC X.K C ∧ PySem.W.findIn X.K (.ref C) n = some none ∧ H1 dd = some (.xd fs) ∧ fs.lookup n = some v ∧ Q v H1) := by
  refine ⟨fun pins s σ H Q I h => ?_⟩
  refine attr_of hb (thn (he pins s σ H _ I h) fun u s1 hu => ?_)
  obtain ⟨a, oe, vs, sI, H', cls, d, rfl, J, k, n0, ha, hz, hd, _, na, os, ag, _, C, dd, fs, v, rfl, rfl, T, hno, hx, hl, q⟩ := hu
  have J1 := Inv.up (s' := s1) J k os ag
  obtain ⟨mA, hns, hr⟩ := (show ObjOk X.prog X.w H' s1.heap dd (.xd fs) from J1.hok dd _ hx)
  obtain ⟨od, ho, hlk⟩ := lookIn_ns hns
  obtain ⟨u, hu, ru⟩ := RelO.some_of (v := v) (o := mA n) (by rw [← hl]; exact hr n)
  have it : PySem.W.InstAt s1.heap a oe C (some od) := ⟨ha, hz.1, by unfold PySem.W.notCls; rw [hd] <;> rfl, by rw [hz.2]; exact ho⟩
  exact HandSPX.exc_get J1.kIn it T.ga T.gg T.exC (PySem.W.findObj_own T.hdC hno rfl (by rw [hlk, hu])) (handed_of ru) ⟨v, H', J1.tok _, ru, q⟩
end VX

set_option Elab.async false
set_option linter.all false
set_option maxRecDepth 100000
set_option maxHeartbeats 4000000
/-! isinstance of an exception that may have its own dict -/
namespace VX
open PySem PySem.Spec PySem.Calls PyProof.Rows PySem.W
section
variable {pg : Program} {wd : World} {B : Around} {Er : Value → Shared → Prop} {st : Shared} {F : Frag} {y D : Addr} {oy : Obj} {od : Option Obj}
theorem bindsAt {C : Addr} {nm : Str} {a g : Value} (hc : (clsIn F C).isSome = true) (h1 : findIn F (.ref C) nm = some (some a)) (h2 : specialIn F a "__get__" = some (some g)) (h3 : takesIn F a = some true) : findObj F C od nm = some (.bind g a) := by
  cases e : clsIn F C with
  | none => rw [e] at hc; cases hc
  | some cd => simp [findObj, e, h1, h2, h3]
structure ExIs (F : Frag) (D : Addr) : Prop where
  xc : L2.ExcC F D
theorem clsSome (h : hasDictIn F D = true) : (clsIn F D).isSome = true := by
  obtain ⟨cd, hc, _⟩ := any_some h
  rw [hc]; rfl
theorem class_of_exc {Q : Option Value → Shared → Prop} (T : L2.ExcC F D) (X : F.In st.heap) (I : InstAt st.heap y oy D od) (h : Q (some (.ref D)) { st with toks := st.toks + 1 }) : wpAny (model pg wd) B (getAttr? (.ref y) "__class__") Q Er st := by
  have fb : findObj F D od "__class__" = some (.bind (.builtin "getset_descriptor.__get__") (.builtin "object.__class__")) := bindsAt (clsSome T.hd) T.ha T.hn T.ht
  obtain ⟨hp, gs, dr, tk, os⟩ := st
  have a0 := I.type (M := model pg wd)
  have a1 := looks_findIn (M := model pg wd) X T.hg
  have a2 := looks_findIn (M := model pg wd) X T.hk
  have a3 := looks_find (M := model pg wd) X I fb
  have sb : Looks (model pg wd) hp (isInstance (.ref y) (.type "BaseException")) true := a0.andThen (looks_subIn X T.hs)
  have ne : (Value.builtin "BaseException.__getattribute__" == Value.builtin "object.__getattribute__") = false := by decide +kernel
  have nf : (onTheHeap (Value.ref D) && Value.builtin "BaseException.__getattribute__" == Value.builtin "object.__getattribute__") = false := by rw [ne]; rfl
  unfold getAttr? getAttrBy? getAttrBy
  refine wpAny_bind (wpAny_mkText (wpAny_bind (wpAny_attempt (wpAny_holding (wpAny_bind (a0.at (wpAny_bind (a1.at ?z1))))))))
  case z1 =>
    show wpAny _ _ (if (onTheHeap (Value.ref D) && Value.builtin "BaseException.__getattribute__" == Value.builtin "object.__getattribute__") = true then _ else _) _ _ _
    rw [nf, if_neg Bool.false_ne_true]; unfold getAttrByItsOwn hookBefore
    refine wpAny_bind ?z2
    case z2 =>
      rw [if_pos (show onTheHeap (Value.ref D) = true from rfl)]; refine a2.at (wpAny_bind (wpAny_attempt (wpAny_holding ?z3)))
      case z3 =>
        unfold callGetattribute; rw [show (false && onTheHeap (Value.builtin "BaseException.__getattribute__")) = false from rfl, if_neg Bool.false_ne_true]
        unfold boundAndCalled; rw [PySem.F.excAttr_ValueError.ga.bind (.ref y)]
        refine wpAny_bind (wpAny_pure ?z4)
        case z4 =>
          show wpAny _ _ (call (.builtin "BaseException.__getattribute__") [.ref y, .str "__class__" tk]) _ _ _
          refine wpAny_call (codeAny_call_builtin PySem.F.excAttr_ValueError.ga.plain PySem.F.entry_bexc_ga ?z5)
          case z5 =>
            refine @check_slot (model pg wd) _ _ ⟨hp, gs, dr, tk + 1, os⟩ "BaseException.__getattribute__" "BaseException" "__getattribute__" (.ref y) [.str "__class__" tk] [] _ (by decide +kernel) (by decide +kernel) sb (PySem.F.args_bexc_ga (.ref y) (.str "__class__" tk)) ?z6
            case z6 =>
              unfold Builtin.«object.__getattribute__»
              refine wpAny_bind (wpAny_of_eq (a := ((Value.ref y : Value), [Value.str "__class__" tk])) (by first | rfl | (simp only [slotArgs]; rfl)) (wpAny_bind (wpAny_pure (wpAny_bind (a0.at (wpAny_bind (a3.at ?z7)))))))
              case z7 =>
                show wpAny _ _ (holding [Value.builtin "object.__class__"] (call (.builtin "getset_descriptor.__get__") [.builtin "object.__class__", .ref y, .ref D]) >>= ret) _ _ _
                refine wpAny_bind (wpAny_holding (wpAny_call (class_get (s := ⟨hp, gs, dr, tk + 1, os⟩) (ox := oy) (od := od) X I T.hm (wpAny_pure ?z8))))
                case z8 =>
                  show wpAny _ _ (handedOut (.ref D)) _ _ _
                  rw [handedOut_of (v := .ref D) rfl]
                  first | exact wpAny_pure (wpAny_pure h) | exact wpAny_pure h | exact wpAny_pure (wpAny_bind (wpAny_pure (wpAny_pure h)))
theorem kitx_exd (T : L2.ExcC F D) : KitX F (.ref y) (.ref D) (fun h => ∃ oy od, InstAt h y oy D od) where
  ty := fun _ _ _ ⟨_, _, I⟩ => I.type
  it := fun M h X _ A Q E s k q => by
    have z := clsSome T.hd
    unfold clsIn at z
    split at z
    · rename_i hk
      unfold isType loadHead
      exact wpAny_bind (wpAny_loadPart (k _ _ (X _ _ hk)) (wpAny_pure q))
    · cases z
  ne := fun h tp dd its n sl X htp => by
    cases e : (Value.ref D == Value.ref tp) with
    | false => rfl
    | true =>
      have e2 : D = tp := Value.ref.inj (beq_iff_eq.mp e)
      subst e2
      have z := clsSome T.hd
      unfold clsIn at z
      split at z
      · rename_i hk
        exact nomatch (X _ _ hk).symm.trans htp
      · cases z
  ca := fun X ⟨_, _, I⟩ q => class_of_exc T X I q
end
end VX
namespace VX
open PySem PySem.Spec PyProof.Rows L2
/-- isinstance(e, c) of such an exception -/
def rIsX (K : PySem.W.Frag) : List V → Hp → VK → Prop := fun xs H Q => ∃ (a D : Addr) (d : Option Addr) (c : V) (cv : Value) (b : Bool), xs = [.ref a, c] ∧ ExcC K D ∧ H a = some (ExD (.ref D) d a) ∧ (∀ dd, d = some dd → ∃ o, H dd = some o) ∧ ClsV c cv ∧ PySem.W.kitOne K (.ref D) cv = some b ∧ Q (.bl b) H
theorem call_isX {X : Cx} : CallR X (.builtin "isinstance") (rIsX X.K) := by
  intro pins s σ H xs us Q I r h
  obtain ⟨a, D, d, c, cv, b, rfl, T, ha, hd, hc, e, q⟩ := h
  obtain ⟨u1, u2, rfl, r1, r2⟩ := vals2 r
  have e2 := hc.eq r2
  subst e2
  cases (show u1 = Value.ref a from r1)
  have ok : ObjOk X.prog X.w H s.heap a (.ext fun h => ∃ (oe : Obj) (vs : Array Value), h.get? a = some oe ∧ Zc (.ref D) d oe ∧ oe.data = .fields vs) := I.hok a _ ha
  obtain ⟨⟨oe, vs, ho, hz, hf⟩, _, _⟩ := ok
  have J : ∃ od, PySem.W.InstAt s.heap a oe D od := by
    have nc : PySem.W.notCls oe = true := by unfold PySem.W.notCls; rw [hf] <;> rfl
    cases d with
    | none => exact ⟨none, ho, hz.1, nc, by rw [hz.2]; trivial⟩
    | some dd =>
      obtain ⟨o, hdd⟩ := hd dd rfl
      obtain ⟨ob, hob⟩ := objOk_get (I.hok dd o hdd)
      exact ⟨some ob, ho, hz.1, nc, by rw [hz.2]; exact hob⟩
  obtain ⟨od, J⟩ := J
  exact PySem.W.kia_one (kitx_exd T) I.kIn ⟨oe, od, J⟩ e (fun z => nomatch z) fun tk => ⟨.bl b, H, I.tok tk, rfl, q⟩
end VX

set_option Elab.async false
set_option linter.all false
set_option maxRecDepth 100000
set_option maxHeartbeats 4000000
/-! C(f = v), C an exception's class with its own __init__ -/
namespace VX
open PySem PySem.Calls PySem.HandSPX
section
variable {M : Model} {pg : Program} {wd : World} {B : Around} {Er : Value → Shared → Prop} {R : Result → Shared → Prop} {hh : Heap} {gs : Array GenState} {dr : Drawn} {tk : Nat} {os : OsState}
variable {nm q : Str} {C N : Addr} {bs bm bB : List Value} {hd : Bool} {sn : List Str} {sub : List Value} {ab : Bool} {col : Option Bool} {dd : Option Addr} {m0 m1 m2 m3 m5 : Option Value} {T nid iid : String} {kw : List (Str × Value)}
theorem chkNewK (F : ExcBaseFacts T nid iid bB) (hT : ∀ Y : String, bm.contains (.type Y) = bB.contains (.type Y)) {Q : Unit → Shared → Prop} (hC : hh.get? C = some (excClassObj nm q C N bs bm hd sn sub ab col dd m0 m1 m2 m3 m5 nid)) (hq : Q () ⟨hh, gs, dr, tk, os⟩) :
    wpAny M B (checkBuiltinCall nid ⟨[.ref C], kw⟩) Q Er ⟨hh, gs, dr, tk, os⟩ := by
  have hc : (Value.ref C :: bm).contains (.type T) = true := by rw [List.contains_cons, hT, F.hasB, Bool.or_true]
  have hs := F.noStar
  simp only [checkBuiltinCall, F.newKind, F.newSplit, F.newRow]
  repeat (first | refine wpAny_loadPart_at hC ?_ | (refine wpAny_isSubtype_exc hC ?_; rw [hc]) | refine wpAny_staticBase_exc hC ?_ | refine wpAny_madeBy_exc hC ?_ | simp only [bne_self_eq_false, Bool.false_eq_true, if_false] | wp_step)
  exact hq
end
section
variable {pg : Program} {wd : World} {B : Around} {Er : Value → Shared → Prop} {R : Result → Shared → Prop} {hh : Heap} {gs : Array GenState} {dr : Drawn} {tk : Nat} {os : OsState}
variable {nm q : Str} {C N : Addr} {bs bm bB : List Value} {hd : Bool} {sn : List Str} {sub : List Value} {ab : Bool} {col : Option Bool} {dd : Option Addr} {m0 m1 m2 m3 m5 : Option Value} {T nid iid : String} {kw : List (Str × Value)}
/-- the heap behind C.__new__(C, f = v) -/
abbrev born (hh : Heap) (C : Addr) : Heap := (hh.push (W.kdv_tup [])).push (excO C hh.objs.size)
theorem newK (F : ExcBaseFacts T nid iid bB) (hT : ∀ Y : String, bm.contains (.type Y) = bB.contains (.type Y)) (hC : hh.get? C = some (excClassObj nm q C N bs bm hd sn sub ab col dd m0 m1 m2 m3 m5 nid))
    (hq : R (.ok (.ret (.ref (hh.objs.size + 1)))) ⟨born hh C, gs, dr, tk, os⟩) : codeAny (model pg wd) B (.builtin nid ⟨[.ref C], kw⟩) R ⟨hh, gs, dr, tk, os⟩ := by
  have he := F.ends
  have cB : (Value.ref C :: bm).contains (.type T) = true := by rw [List.contains_cons, hT, F.hasB, Bool.or_true]
  have cA : (Value.ref C :: bm).contains (.type "AttributeError") = false := by rw [List.contains_cons, hT, F.noAttr]; rfl
  have cN : (Value.ref C :: bm).contains (.type "NameError") = false := by rw [List.contains_cons, hT, F.noName]; rfl
  refine codeAny_builtinAt F.entry ?_
  unfold Builtin.«BaseException.__new__»
  refine wpAt_bind ?_
  show wpAt _ _ _ (stack >>= _) _ _ _
  refine wpAt_bind (wpAt_stack fun p below => wpAt_of_wpAny ?_)
  wp_walk
  refine wpAt_of_wpAny ?_
  rw [F.owner]
  repeat (first | with_reducible refine wpAny_madeHere_exc F.canon hC ?_ | with_reducible refine wpAny_loadPart_at hC ?_ | (with_reducible refine wpAny_isSubtype_exc hC ?_; first | rw [cB] | rw [cA] | rw [cN]) | wp_step)
  show R _ _
  rw [Heap.size_push]
  exact hq
theorem typeCallK (F : ExcBaseFacts T nid iid bB) (hT : ∀ Y : String, bm.contains (.type Y) = bB.contains (.type Y)) {fI : Addr} {Q : Fin → Shared → Prop} (hC : hh.get? C = some (excClassObj nm q C N bs bm hd sn sub ab col dd m0 m1 m2 m3 m5 nid))
    (hi : W.Looks (model pg wd) hh (typeLookup (.ref C) "__init__") (some (.ref fI))) (hb : ∀ o, W.Looks (model pg wd) hh (bindSpecial (.ref fI) o) (.ref fI, [o]))
    (hq : codeAny (model pg wd) B (.call (.ref fI) ⟨[.ref (hh.objs.size + 1)], kw⟩) (fun r s' => match r with | .ok (.ret v) => v = .none ∧ Q (.done (.ret (.ref (hh.objs.size + 1)))) s' | .ok _ => False | .error e => Er e s') ⟨born hh C, gs, dr, tk, os⟩) :
    wpAny (model pg wd) B (Builtin.«type.__call__» ⟨[.ref C], kw⟩) Q Er ⟨hh, gs, dr, tk, os⟩ := by
  repeat (first | with_reducible refine wpAny_loadPart_at hC ?_ | with_reducible refine wpAny_madeBy_exc hC ?_ | wp_step)
  refine codeAny_call_builtin_code (Code.quiet_builtin _ F.quiet) (chkNewK F hT hC (newK F hT hC ?_))
  show wpAny _ _ _ _ _ _
  have k : ∀ b o, hh.get? b = some o → (born hh C).get? b = some o := fun b o e => Heap.get?_push_of_some _ (Heap.get?_push_of_some _ e)
  have hC1 := k _ _ hC
  have hg : (born hh C).get? (hh.objs.size + 1) = some (excO C hh.objs.size) := by heap_get
  have cC : (Value.ref C :: bm).contains (.ref C) = true := by simp
  have i1 := hi.keeps k
  have b1 := (hb (.ref (hh.objs.size + 1))).keeps k
  unfold isInstance
  repeat (first | with_reducible refine wpAny_loadPart_at hg ?_ | (with_reducible refine wpAny_isSubtype_exc hC1 ?_; rw [cC]) | wp_step)
  show wpAny _ _ (typeLookup (.ref C) _) _ _ _
  refine i1.at ?_
  refine wpAny_holding (wpAny_bind (b1.at (wpAny_bind (wpAny_call (codeAny_mono hq fun r s' z => ?_)))))
  rcases r with e | (v | _ | _ | _) <;> first | exact z | exact z.elim | skip
  obtain ⟨rfl, z⟩ := z
  first
    | exact wpAny_pure (wpAny_pure z)
    | (wp_walk; exact z)
theorem callK (F : ExcBaseFacts T nid iid bB) (hT : ∀ Y : String, bm.contains (.type Y) = bB.contains (.type Y)) {fI : Addr} (hC : hh.get? C = some (excClassObj nm q C N bs bm hd sn sub ab col dd m0 m1 m2 m3 m5 nid))
    (hi : W.Looks (model pg wd) hh (typeLookup (.ref C) "__init__") (some (.ref fI))) (hb : ∀ o, W.Looks (model pg wd) hh (bindSpecial (.ref fI) o) (.ref fI, [o]))
    (hq : codeAny (model pg wd) (B.under (.builtin "type.__call__" ⟨[.ref C], kw⟩)) (.call (.ref fI) ⟨[.ref (hh.objs.size + 1)], kw⟩) (W.InitBack (hh.objs.size + 1) R) ⟨born hh C, gs, dr, tk, os⟩) :
    codeAny (model pg wd) B (.call (.ref C) ⟨[], kw⟩) R ⟨hh, gs, dr, tk, os⟩ := by
  have f1 := tc_lookup
  have f2 := tc_bind (.ref C)
  have tT : (⟨hh, gs, dr, tk, os⟩ : Shared).TypeIs (.ref C) "type" := ⟨_, hC, rfl⟩
  have ck : wpAny (model pg wd) B.in1 (checkBuiltinCall "type.__call__" ⟨[.ref C], kw⟩) (fun _ s => s = ⟨hh, gs, dr, tk, os⟩) (fun _ _ => False) ⟨hh, gs, dr, tk, os⟩ := by
    have f3 := tc_sub
    simp only [checkBuiltinCall, tc_kind, tc_split]
    repeat (any_goals (first | assumption | rfl | with_reducible refine wpAny_loadPart_at hC ?_ | with_reducible refine wpAny_onRaise ?_ | with_reducible refine wpAny_map ?_ | wp_step))
  refine codeAny_of_tree ?_
  show wpAny _ _ (callAny (.ref C) _) _ _ _
  repeat (any_goals (first | assumption | with_reducible refine wpAny_loadPart_at hC ?_ | wp_step))
  refine ⟨rfl, codeAny_call_builtin_at (Code.quiet_builtin _ (by decide +kernel)) entry_typeCall (wpAny_mono ck (fun _ s' e => ?_) fun _ _ z => False.elim z)⟩
  subst e
  refine typeCallK F hT hC hi hb (codeAny_mono hq fun r s' z => ?_)
  rcases r with e | (v | _ | _ | _) <;> exact z
end
end VX
namespace VX
open PySem PySem.Spec PyProof.Rows L2
/-- C(f = v), C's own __init__ keeping sp -/
def tMkK (C : Addr) (sp : Sp) (ta : TA) : L2.St → Hp → XK → Prop := fun σ H Q => ta σ H fun zs H1 => zs.length = 1 ∧ ∀ a, H1 a = none → sp (.ref a :: zs) (upd H1 a (exo a C none))
  (fun v H2 => v = .non ∧ ∃ (d : Addr) (fs : List (Str × V)), H2 a = some (exo a C (some d)) ∧ H2 d = some (exd d fs) ∧ H1 d = none ∧ Q (.ref C) (some d) (upd (del H2 a) d (.xd fs))) (fun _ _ _ => False)
theorem pmk_oexK {X : Cx} {CX : CXT} {x f : Str} {C fI : Addr} {k : Nat} {fd : FuncData} {sp : Sp} {p kpos pos : Pos} {e : Expr} {ta : TA} (T : OexC X.K C) (iC : PySem.W.findIn X.K (.ref C) "__init__" = some (some (.ref fI))) (tI : PySem.W.typeIn X.K (.ref fI) = some (.type "function"))
    (F1 : FnOk X.prog X.w X.K X.mg X.base CX k fI fd ["self", f] sp) (hr : Room (k + 1) X.A) (hb : ∀ (s : Shared) (u v : Value), X.K.In s.heap → BindsTo s fd ⟨[u], [(f, v)]⟩ [("self", u), (f, v)]) (hx : Passes CX X (fun _ _ _ => False)) (hg : Gl X x) (hm : X.mg x = some (.ref C))
    (ha : PK X [⟨some f, e, kpos⟩] ta) (hdb : (x == ("__debug__" : Str)) = false := by decide) (hpl : ((backTo pos (starEach [] X.env)).any (·.1) || (backToKw pos (keywordEach [⟨some f, e, kpos⟩] X.env)).any (·.1.isNone)) = false := by rfl)
    (hall : (backToKw pos (keywordEach [⟨some f, e, kpos⟩] X.env)).all (·.1.isSome) = true := by rfl) (hks : (backToKw pos (keywordEach [⟨some f, e, kpos⟩] X.env)).filterMap (·.1) = [f] := by rfl) :
    PMk X (.Call (.Name x p) [] [⟨some f, e, kpos⟩] pos) (tMkK C sp ta) := by
  intro pins s σ H Q I h
  obtain ⟨nm, q, N, bs, bm, sn, sub, ab, col, dd, k0, k1, k2, k3, k5, hC, hbm⟩ := T.cls
  refine wpAny_Call_Name_kw (ld_glob I hg hm ?_ hdb)
  refine PySem.W.callWith_KW0 (h₀ := X.base) I.ok.mod.kin T.kC hall ?_ hpl
  refine thn (ha.run pos pins s σ H _ I h) fun ws s1 ⟨zs, H1, I1, rz, l1, q1⟩ => ⟨I1.kIn, ?_⟩
  rw [hks]
  obtain ⟨z, rfl⟩ : ∃ z, zs = [z] := by
    cases zs with
    | nil => cases l1
    | cons z r =>
      cases r with
      | nil => exact ⟨z, rfl⟩
      | cons _ _ => cases l1
  obtain ⟨u, rfl, ru⟩ := vals1 rz
  show wpAny _ _ (call (.ref C) [] [(f, u)]) _ _ _
  obtain ⟨hp, g, dr, tk, os⟩ := s1
  have hsz : hp.objs.size ≤ hp.objs.size + 1 := Nat.le_succ _
  have hn : H1 (hp.objs.size + 1) = none := I1.hok.fresh hsz
  have hq := q1 (hp.objs.size + 1) hn
  have kk : ∀ b o, hp.get? b = some o → (born hp C).get? b = some o := fun b o e => Heap.get?_push_of_some _ (Heap.get?_push_of_some _ e)
  have hget : (born hp C).get? (hp.objs.size + 1) = some (PySem.HandSPX.excO C hp.objs.size) := by heap_get
  have I2 : L2.Inv X pins σ (upd H1 (hp.objs.size + 1) (exo (hp.objs.size + 1) C none)) ⟨born hp C, g, dr, tk, os⟩ :=
    I1.laid (t' := tk) (a := hp.objs.size + 1) (o := exo (hp.objs.size + 1) C none) (h' := born hp C) kk hsz (exo_ok hget)
  have r2 : Vals [V.ref (hp.objs.size + 1), z] [Value.ref (hp.objs.size + 1), u] := .cons rfl (.cons ru .nil)
  have e1 : Env0 X.prog X.w X.K X.mg X.base (X.A.under (.builtin "type.__call__" ⟨[.ref C], [(f, u)]⟩)) X.stack ⟨born hp C, g, dr, tk, os⟩ (upd H1 (hp.objs.size + 1) (exo (hp.objs.size + 1) C none)) := I2.env0.make C [] [(f, u)]
  refine wpAny_call (callK PySem.F.excBase_ValueError (fun Y => PySem.HandSPX.refsVE_contains Y bm hbm) (I1.kIn _ _ hC) (PySem.W.looks_findIn I1.kIn iC) (fun o => PySem.W.bind_fn I1.kIn o tI)
    (codeAny_mono (F1.run _ X.stack _ _ ⟨[Value.ref (hp.objs.size + 1)], [(f, u)]⟩ [Value.ref (hp.objs.size + 1), u] _ _ (fun _ _ _ => False) (hr.make C [] [(f, u)]) e1 (hb _ _ _ I2.kIn) r2 hq) fun r s' hq' => ?_))
  cases r with
  | error er => exact hx pins σ _ _ er s' I2 hq'
  | ok fl =>
    cases fl with
    | ret u =>
      obtain ⟨v, H2, os2, bare2, un2, hok2, rv, ev, d, fs, ea, ed, hd1, q2⟩ := hq'
      subst ev
      obtain ⟨h2, g2, d2, t2, os'⟩ := s'
      exact ⟨rv, mk_end (raises_own T.exC T.tyC) I1 hsz kk un2 hok2 os2 bare2 ea ed hd1 q2⟩
    | next => exact False.elim hq'
    | brk => exact False.elim hq'
    | cont => exact False.elim hq'
/-- C(), C an exception's class without an __init__ of its own -/
theorem pmk_own0 {X : Cx} {C : Addr} {bmB : List Value} {B newId initId : String} {x : Str} {p pos : Pos} (F : ExcBaseFacts B newId initId bmB) (q : PySem.W.excIn X.K C bmB newId = true) (gC : X.mg x = some (.ref C)) (kC : PySem.W.keepIn X.K (.ref C) = true) (r : Raises X (.ref C)) (hg : Gl X x)
    (hdb : (x == ("__debug__" : Str)) = false := by decide) : PMk X (.Call (.Name x p) [] [] pos) (fun _ H Q => Q (.ref C) none H) := by
  intro pins s σ H Q I h
  refine wpAny_Call_Name_kw (ld_glob I hg gC ?_ hdb)
  refine PySem.W.callWith_K0 I.kIn kC ?_
  show wpAny _ _ (call (.ref C) []) _ _ _
  obtain ⟨bm, N, nm, qn, bs, hdct, sn, sub, ab, col, dd, k0, k1, k2, k3, k5, mN, hC, hN, hni, T⟩ := exc_obj I.kIn q
  refine wpAny_call_exc_subT F T hC hN hni (fun h' e hm => ?_) (by show 0 ≤ sizeLine; omega)
  exact mk_of I hm r h (I.hok.gone hm.new)
end VX

set_option Elab.async false
set_option linter.all false
set_option maxRecDepth 100000
set_option maxHeartbeats 4000000
/-! defs that are called where no repr runs -/
namespace VX
open PySem PySem.Spec PyProof.Rows L2
/-- a def's promise, kept wherever no repr runs around the call -/
structure GFn (P : Program) (w : World) (K : PySem.W.Frag) (mg : Str → Option Value) (base : Heap) (k : Nat) (f : Addr) (fd : FuncData) (ps : List Str) (sp : Sp) : Prop where
  len : ∀ {vs H Q E}, sp vs H Q E → vs.length = ps.length
  go : ∀ {A : Around}, A.guards = some [] → Room k A → ∀ {outer : List Env} {s : Shared} {H : Hp}, Env0 P w K mg base A outer s H → ∀ {args : Args} {us : List Value} {vs : List V} {Q : VK} {E : XK}, BindsTo s fd args (ps.zip us) → Vals vs us → sp vs H Q E →
    codeAny (model P w) A (.call (.ref f) args) (CR CX0 outer P w H s Q E) s
section
variable {P : Program} {w : World} {K : PySem.W.Frag} {mg : Str → Option Value} {base : Heap} {x qual : Str} {pa : Arguments} {bd : List Stmt} {sc : Scope} {f : Addr} {fd : FuncData} {N ps : List Str} {k : Nat} {sp : Sp}
/-- the rule for such a def: the guards told -/
theorem GFn.of (F : FunD K x qual pa bd sc [] [] f fd) (S : FnScope N ps sc) (len : ∀ {vs H Q E}, sp vs H Q E → vs.length = ps.length)
    (body : ∀ (cdv : Value) (A : Around) (outer : List Env) (s : Shared) (H : Hp) (vs : List V) (Q : VK) (E : XK), A.guards = some [] → Room k (A.deeper (envOfC qual sc s.heap.objs.size f cdv)) → sp vs H Q E →
      ∃ t, PSs (cxOf CX0 P w K mg base N qual sc f cdv A outer s H E).nox bd t ∧ t { nx := fun _ H' => Q .non H', rt := Q } (start N vs) H) : GFn P w K mg base (k + 1) f fd ps sp := by
  obtain ⟨oc, od, dV, kV, doc, pm, an, cdv, ct, osl, rfl, lk, hcd, _, _⟩ := F.ex
  refine ⟨len, fun {A} hg hr {outer s H} e0 {args us vs Q E} hb r q => ?_⟩
  have KX : K.In s.heap := e0.mod.kin.keeps fun b o e => (e0.bs b o e).1
  have nl : s.heap.NoLimit := e0.mod.nolimit.keeps fun b o e => (e0.bs b o e).1
  have kinds : ∀ y ∈ ps.zip us, sc.names.lookup y.1 = some .local ∨ (sc.names.lookup y.1 = some .cell ∧ ((cellsFrom (s.heap.objs.size + 1) sc.names []).lookup y.1).isSome = true) := by
    rintro ⟨n, v⟩ hy
    have hn := S.par n (List.of_mem_zip hy).1
    exact hn.elim .inl fun z => .inr ⟨z, PySem.W.cellsFrom_some _ _ _ (.inl z)⟩
  refine codeAny_call_function hr.depth (KX _ _ lk) rfl S.co S.gen rfl (PySem.W.codeRec_of KX hcd) (hb _ _ _ _ (wpAny_newFunctionEnv_cells S.kind kinds ?_))
  rintro env rfl s1 ic
  refine ⟨nl.keeps ic.toInCall.keep, codeAny_func ?_⟩
  obtain ⟨t, ht, tq⟩ := body cdv A outer s H vs Q E hg (hr.deeper _) q
  have I : L2.Inv (cxOf CX0 P w K mg base N qual sc f cdv A outer s H E) [] (start N vs) H s1 := inv_start S hr.hd e0 (len q) r ic
  have back : ∀ {σ' : L2.St} {H' : Hp} {s' : Shared} {v : V} {u : Value}, L2.Inv (cxOf CX0 P w K mg base N qual sc f cdv A outer s H E) [] σ' H' s' → RelV v u → Q v H' → CE outer P w H s Q u s' :=
    fun J rv z => ⟨_, _, J.os, J.bare, J.base, J.hok, rv, z⟩
  refine wpAny_mono (ht.nox.run [] s1 (start N vs) H _ I tq) (fun fl s' h => ?_) fun _ _ h => h
  cases fl with
  | next => obtain ⟨_, _, J, z⟩ := h; exact back (v := V.non) (u := Value.none) J rfl z
  | ret u => obtain ⟨_, _, _, J, rv, z⟩ := h; exact back J rv z
  | brk => obtain ⟨_, _, _, z⟩ := h; exact z.elim
  | cont => obtain ⟨_, _, _, z⟩ := h; exact z.elim
end
section
variable {X : Cx} {k : Nat} {f : Addr} {fd : FuncData} {ps : List Str} {sp : Sp} {x : Str} {p pos : Pos} {e : Expr} {es : List Expr} {t : TA}
/-- f(e, ..) of such a def, where no repr runs -/
theorem pe_gcall (F : GFn X.prog X.w X.K X.mg X.base k f fd ps sp) (hg0 : X.A.guards = some []) (hr : Room k X.A) (hg : Gl X x) (hm : X.mg x = some (.ref f)) (hk : PySem.W.keepIn X.K (.ref f) = true) (hb : Binds X.K fd ps []) (ha : PA X (e :: es) t)
    (hdb : (x == ("__debug__" : Str)) = false := by decide) (he : starEach (e :: es) X.env = (false, eval e X.env) :: starEach es X.env := by rfl) (hpl : (backTo pos (starEach es X.env)).any (·.1) = false := by rfl) :
    PE X (.Call (.Name x p) (e :: es) [] pos) (tCall sp [] E0 t) := by
  refine ⟨fun pins s σ H Q I h => wpAny_Call_Name_kw (ld_glob I hg hm ?_ hdb)⟩
  refine PySem.W.callWith_K (h₀ := X.base) I.ok.mod.kin hk (thn (ha.run pos pins s σ H _ I h) fun us s1 ⟨vs, H1, I1, r, q⟩ => ⟨I1.kIn, ?_⟩) he hpl
  have q : sp vs H1 Q E0 := by have z : sp (vs ++ []) H1 Q E0 := q; rw [List.append_nil] at z; exact z
  have hl : us.length = ps.length := by rw [← r.length]; exact F.len q
  have b := hb s1 us I1.kIn (by rw [List.append_nil]; exact hl)
  rw [List.append_nil] at b
  refine wpAny_call (codeAny_mono (F.go hg0 hr I1.env0 b r q) fun r s' hq => ?_)
  match r, hq with
  | .ok (.ret u), hq => exact I1.after hq
  | .error _, hq => exact hq.elim
end
/-- the call's base: the heap without the script -/
theorem base_of {P : Program} {w : World} {K : PySem.W.Frag} {mg mb : Str → Option Value} {s : Shared} {H : Hp} {a : Addr} {vs : Array Value} (KX : K.In s.heap) (g1 : s.heap.Ns mainGlobals mg) (g2 : s.heap.Ns builtinsNs mb) (g3 : ∀ x : Str, x ≠ "__name__" → mb x = bootBuiltins x)
    (g4 : s.heap.NoLimit) (g5 : s.gens = #[]) (ha : s.heap.get? a = some { cls := .type "list", data := .seq vs }) (ok : HOk P w H s.heap) (only : ∀ b, b ≠ a → H b = none) (hK : H a ≠ none → K.lookup a = none) : Env0 P w K mg (hidT s.heap H) callerA [] s H := by
  have dk : ∀ {b : Addr} {o : Obj} {es : Array DictEntry} {ep : Nat}, s.heap.get? b = some o → o.data = .dict es ep → H b = none := by
    intro b o es ep e d
    by_cases hb : b = a
    · rw [hb, ha] at e
      rw [← Option.some.inj e] at d
      cases d
    · exact only b hb
  have ns : ∀ {b : Addr} {m : Str → Option Value}, s.heap.Ns b m → (hidT s.heap H).Ns b m := by
    rintro b m ⟨o, es, ep, e, d, r⟩
    exact ⟨o, es, ep, hidT_get e (dk e d), d, r⟩
  have kin : K.In (hidT s.heap H) := by
    intro b o e
    refine hidT_get (KX b o e) ?_
    by_cases hb : b = a
    · subst hb
      cases z : H b with
      | none => rfl
      | some u => rw [hK (by rw [z]; exact fun n => nomatch n)] at e; cases e
    · exact only b hb
  obtain ⟨mc, l1, l2⟩ := g4
  exact { frames := rfl, mod := { kin := kin, glob := ns g1, blt := ⟨mb, ns g2, g3⟩, nolimit := ⟨mc, ns l1, l2⟩ }, bs := fun b o e => of_hidT e, bsz := Nat.le_of_eq (hidT_size _ _), funs := trivial, frf := fun b hb => (nomatch hb), hok := ok, bare := .of_eq g5 }
/-- the law's own end, its def's promise kept where no repr runs -/
theorem walk_g {l : PySem.W.OpenLaw} {n k : Nat} {q : Program} {loose : List Str} {XP : (Str → Option Value) → Heap → Prop} {YP : World → Heap → Prop} {d : DefRec} {x : Str}
    (hn : l.most = some n) (hn2 : n ≤ sizeLine) (hdf : d.params.defaults = []) (hr : Room k callerA)
    (F : ∀ (w : World) (mg : Str → Option Value) (fa : Addr) (h : Heap), YP w h → h.Ns mainGlobals mg → mg d.name = some (.ref fa) →
      ∃ (K : PySem.W.Frag) (fd : FuncData) (sp : Sp), K.In h ∧ (∀ (s : Shared) (u : Value), BindsTo s fd ⟨[u], []⟩ [(x, u)]) ∧
        (∀ (H : Hp) (a : Addr) (ns : List Int), ns.length ≤ n → Only H → SqL K H a (ns.map V.int) → sp [.ref a] H (fun v _ => v = .bl true) fun _ _ _ => False) ∧
        ∀ base : Heap, K.In base → base.Ns mainGlobals mg → GFn l.prog w K mg base k fa fd [x] sp) :
    PySem.W.WalkO q loose XP YP l.row.toRowW d [] (fun f vs => PySem.call f vs) := by
  refine Att.attach_call hn hdf fun w s₀ s₁ mg mb fa o pm cd doc a vs ns G Y ho hd hcd hmg hobj hints hlen hg => ?_
  obtain ⟨K, fd, sp, KX, hb, hsp, hF⟩ := F w mg fa _ Y G.T.g hmg
  have rv := vals_ints hints
  have lv := hints.length
  have core : ∀ H : Hp, Only H → SqL K H a (ns.map V.int) → HOk l.prog w H s₁.heap → (∀ b, b ≠ a → H b = none) → (H a ≠ none → K.lookup a = none) →
      codeAny (model l.prog w) callerA (.call (.ref fa) ⟨[.ref a], []⟩) (fun r s' => r = .ok (.ret (.bool true)) ∧ OldK s₁.heap s'.heap ∧ s'.os = s₁.os ∧ AllBare s'.gens) s₁ := by
    intro H oH sH ok on hK
    have e0 := base_of (P := l.prog) (w := w) (mg := mg) KX G.T.g G.T.b G.T.builtins G.T.nolimit hg hobj ok on hK
    refine codeAny_mono ((hF _ e0.mod.kin e0.mod.glob).go (A := callerA) rfl hr e0 (us := [.ref a]) (vs := [V.ref a]) (hb s₁ (.ref a)) (.cons rfl .nil) (hsp H a ns hlen oH sH)) fun r s' h => ?_
    match r, h with
    | .error _, h => exact h.elim
    | .ok (.ret u), h =>
      obtain ⟨v, H', os, bare, un, ok', rr, rfl⟩ := h
      refine ⟨congrArg (fun u => Except.ok (Flow.ret u)) rr, OldK.of_keep fun b o e => ?_, os, bare⟩
      rcases oH b with z | ⟨ob, xs, z⟩
      · exact un.keep b o e z (fun m => nomatch m) (by simp)
      · have f1 := (ok b _ z).1
        have f2 := (ok' b _ (un.frzs b ob _ z)).1
        rw [e] at f1
        rw [f2, ← Option.some.inj f1]
  cases hk : K.lookup a with
  | some o1 =>
    have e := KX a o1 hk
    rw [hobj] at e
    cases e
    refine core (fun _ => none) (fun _ => .inl rfl) (.inr ⟨_, vs.toArray, _, hk, rfl, rfl, rfl, ?_, by simpa using rv⟩) (fun b u z => nomatch z) (fun b _ => rfl) fun z => absurd rfl z
    rw [List.size_toArray, lv]
    exact Nat.le_trans hlen hn2
  | none =>
    let fz : HO := .frz { cls := .type "list", data := .seq vs.toArray } (.lst (ns.map V.int))
    refine core (upd (fun _ => none) a fz) (fun b => ?_) (.inl (.inr ⟨_, upd_same⟩)) (fun b u z => ?_) (fun b hb => upd_ne hb) fun _ => hk
    · by_cases hb : b = a
      · exact .inr ⟨_, _, by rw [hb]; exact upd_same⟩
      · exact .inl (upd_ne hb)
    · by_cases hb : b = a
      · subst hb
        rw [upd_same] at z
        cases z
        exact ⟨hobj, by rw [List.length_map]; exact Nat.le_trans hlen hn2, vs, _, rv, hobj⟩
      · rw [upd_ne hb] at z
        cases z
end VX

set_option Elab.async false
set_option linter.all false
set_option maxRecDepth 100000
set_option maxHeartbeats 4000000
/-! several except clauses, each «as n», one name -/
namespace VX
open PySem PySem.Spec PyProof.Rows L2
/-- what the clauses wish of an exception of the body, from the first on; the name in slot i is empty behind a suite -/
def wNamed (K : PySem.W.Frag) (i : Nat) (Wout : WX) (D : Ends) : List (Value × (Addr → Value → Option Addr → TS)) → WX
  | [] => Wout
  | (c, ts) :: r => fun cls d σ H => ∃ b, PySem.W.exmOne K cls c = some b ∧ (b = true → ∀ a, H a = none →
      ts a cls d { nx := fun σ' H' => D.nx (σ'.set i none) H', rt := D.rt, bk := fun σ' H' => D.bk (σ'.set i none) H', ct := fun σ' H' => D.ct (σ'.set i none) H' } (σ.set i (some (.ref a))) H) ∧ (b = false → wNamed K i Wout D r cls d σ H)
inductive Clauses (X : Cx) (n : Str) : List ExceptHandler → List (Value × (Addr → Value → Option Addr → TS)) → Prop
  | nil : Clauses X n [] []
  | cons {x : Str} {c : Value} {ts : Addr → Value → Option Addr → TS} {b₀ : Stmt} {su : List Stmt} {p1 p2 : Pos} {hs : List ExceptHandler} {l : List (Value × (Addr → Value → Option Addr → TS))} (hc : Names X x c)
      (hsu : ∀ (a : Addr) (oe : Obj) (cls : Value) (d : Option Addr) (pn : List (Addr × Obj)), Zc cls d oe → (∃ vs, oe.data = .fields vs) → PSs (X.suite a ((a, oe) :: pn)) (b₀ :: su) (ts a cls d)) (r : Clauses X n hs l) :
      Clauses X n (.ExceptHandler (some (.Name x p1)) (some n) (b₀ :: su) p2 :: hs) ((c, ts) :: l)
theorem ps_try_named {X : Cx} {n : Str} {i : Nat} {body : List Stmt} {h₀ : ExceptHandler} {hds : List ExceptHandler} {l : List (Value × (Addr → Value → Option Addr → TS))} {pos : Pos} {tb : WX → TS} {Wout : WX}
    (hs : X.stack = X.env :: X.outer) (hf : X.env.frame = some X.env.locals) (hN : X.N.Nodup) (hi : X.N[i]? = some n) (hln : X.env.kindOf n = some .local) (tk : Takes X Wout)
    (hb : ∀ (W : WX) (pn : List (Addr × Obj)) (xe : Value → Shared → Prop), Takes (X.tr pn xe) W → PassesOwn (model X.prog X.w) X.A X.env xe → PSs (X.tr pn xe) body (tb W)) (hh : Clauses X n (h₀ :: hds) l) :
    PS X (.Try body (h₀ :: hds) [] [] pos) (fun D σ H => tb (wNamed X.K i Wout D l) D σ H) := by
  refine ⟨fun pins s σ H D I h => wpAny_Try_except ?_⟩
  have ok := I.ok
  have fr : X.A.frames = some (X.env :: X.outer) := by rw [ok.frames, hs]
  have lc : Loc X.env.scope n := .inl hln
  refine wpAny_mono ((hb (wNamed X.K i Wout D l) (X.pn ++ pins) (fun e t1 => wpAny (model X.prog X.w) X.A (noteFrame e X.env) (fun _ t2 => wpAny (model X.prog X.w) X.A (setFlight e none) (fun _ t3 =>
    wpAny (model X.prog X.w) X.A (handleBy e X.env (h₀ :: hds)) (SP X pins D) X.xe t3) X.xe t2) X.xe t1) (fun u s' xx => ?caught) PassesOwn.looking).run [] s σ H D (I.toTry _) h) (fun f s1 q => ?through) (fun _ _ z => z)
  case through =>
    cases f with
    | next => obtain ⟨σ', H', J, q⟩ := q; exact wpAny_execs_nil ⟨σ', H', J.ofTry ok, q⟩
    | brk => obtain ⟨σ', H', J, q⟩ := q; exact ⟨σ', H', J.ofTry ok, q⟩
    | cont => obtain ⟨σ', H', J, q⟩ := q; exact ⟨σ', H', J.ofTry ok, q⟩
    | ret u => obtain ⟨v, σ', H', J, r, q⟩ := q; exact ⟨v, σ', H', J.ofTry ok, r, q⟩
  case caught =>
    obtain ⟨a, B, sI, ps', σ', H', cls, d, rfl, J', nb, up, sky, na, os, ag, w⟩ := xx
    have J : L2.Inv X pins σ' H' sI := J'.ofTry ok
    have sk : Sky B (X.env :: X.outer) a (Zc cls d) X.env.locals s'.heap := by rw [← hs]; exact sky
    show wpAny (model X.prog X.w) X.A (noteFrame (.ref a) X.env) _ _ _
    refine Sky.land Zc.steady fr hf sk fun h3 fl3 up3 => ?_
    have J3 : L2.Inv X pins σ' H' { s' with heap := h3 } := J.landed nb fl3.1 (up.trans up3) os ag
    obtain ⟨oe, vs, he, hz, hd⟩ := fl3.there
    have nfr : a ∉ frs (X.env :: X.outer) := fun hm => by
      obtain ⟨_, o', e', hnf⟩ := fl3.2.2.1.mem hm
      rw [he] at e'
      cases e'
      exact hnf _ hd
    have nL : a ≠ X.env.locals := fun z => nfr (List.mem_filterMap.mpr ⟨X.env, .head _, by rw [hf, z]⟩)
    have nF : a ∉ X.fs := fun hm => by
      obtain ⟨e, m, q⟩ := List.mem_filterMap.mp hm
      exact nfr (List.mem_filterMap.mpr ⟨e, .tail _ m, q⟩)
    have S3 := J3.suite he hd na nL nF
    have go : ∀ {hs' : List ExceptHandler} {l' : List (Value × (Addr → Value → Option Addr → TS))}, Clauses X n hs' l' → wNamed X.K i Wout D l' cls d σ' H' → wpAny (model X.prog X.w) X.A (handleBy (.ref a) X.env hs') (SP X pins D) X.xe { s' with heap := h3 } := by
      intro hs' l' hk
      induction hk with
      | nil =>
        intro w
        refine wpAny_handleBy_nil ?_
        obtain ⟨_, _, _, oe1, vs1, T, oT, ts1, he1, hz1, hd1, h1, _⟩ := id fl3
        unfold PySem.passOn
        refine wpAny_bind (wpAny_field he1 hd1 h1 ?_)
        rw [if_neg (show ¬ ((Value.ref T == Value.none) = true) by simp)]
        have fin : wpAny (model X.prog X.w) X.A (setFlight (.ref a) X.env.frame) (fun _ s4 => wpAny (model X.prog X.w) X.A (throw (.ref a) : Sem Flow) (SP X pins D) X.xe s4) X.xe { s' with heap := h3 } := by
          rw [hf]
          exact HandSPX.setFlight_upZ fl3 fun h4 hh4 up4 => wpAny_throw (tk _ _ ⟨a, B, sI, pins, σ', H', cls, d, rfl, J, nb, (up.trans up3).trans up4, .inr (.inr (by rw [hs]; exact hh4)), na, os, ag, w⟩)
        first | exact wpAny_bind (wpAny_pure (wpAny_bind fin)) | exact wpAny_bind fin
      | @cons x c ts b₀ su p1 p2 hs2 l2 hc hsu r ih =>
        rintro ⟨b, hb1, hy, hno⟩
        refine wpAny_handleBy_cons (codeAny_handlers_test ?_) (by intro q; cases q)
        have ty : PySem.W.Looks (model X.prog X.w) h3 (typeOf (.ref a)) cls := fun A Q E t k q => wpAny_typeOf_ref (k _ _ he) (by rw [hz.1]; exact q)
        have lk := PySem.W.exm_one (M := model X.prog X.w) (J3.kIn) ty hb1
        have asked : ∀ {Q E : Value → Shared → Prop}, Q c { s' with heap := h3 } → wpAny (model X.prog X.w) (X.A.mark (some (.ref a))) (eval (.Name x p1) X.env) Q E { s' with heap := h3 } := by
          intro Q E q
          obtain ⟨hg, hdb, hm | ⟨hm, hv, hn⟩⟩ := hc
          · exact ld_glob (X := X.suite a ((a, oe) :: (X.pn ++ pins))) S3 hg hm q hdb
          · exact ld_blt (X := X.suite a ((a, oe) :: (X.pn ++ pins))) S3 hg hm hv q hn hdb
        refine asked (lk.here ?_)
        cases b with
        | false => exact ih (hno rfl)
        | true =>
          refine codeAny_handlers_suite_as (HandSPX.lands_againZ fl3 fun h4 fl4 up4 => ?_)
          have J4 : L2.Inv X pins σ' H' { s' with heap := h4 } := J.landed nb fl4.1 ((up.trans up3).trans up4) os ag
          obtain ⟨oe4, vs4, he4, hz4, hd4⟩ := fl4.there
          refine store_ok (X := X.suite a ((a, oe4) :: (X.pn ++ pins))) (v := .ref a) (J4.suite he4 hd4 na nL nF) hN hi lc rfl (fun s5 S5 => ?_) (.inr hln)
          refine wpAny_mono ((hsu a oe4 cls d (X.pn ++ pins) hz4 ⟨_, hd4⟩).run [] s5 _ H' _ S5 (hy rfl a na)) (fun f s6 q => ?_) (fun _ _ z => False.elim z)
          have over : ∀ {σ6 : L2.St} {H6 : Hp} {Q : Shared → Prop}, L2.Inv (X.suite a ((a, oe4) :: (X.pn ++ pins))) [] σ6 H6 s6 → (∀ s7, L2.Inv X pins (σ6.set i none) H6 s7 → Q s7) →
              wpAny (model X.prog X.w) X.A (do bindName X.env n .none; unbindBehindTheSuite X.env n p2) (fun _ s7 => Q s7) X.xe s6 := fun S6 hq => gone_ok (S6.unsuite ok) hN hi hln hq
          cases f with
          | next => obtain ⟨σ6, H6, S6, q6⟩ := q; exact over S6 fun s7 J7 => ⟨_, _, J7, q6⟩
          | brk => obtain ⟨σ6, H6, S6, q6⟩ := q; exact over S6 fun s7 J7 => ⟨_, _, J7, q6⟩
          | cont => obtain ⟨σ6, H6, S6, q6⟩ := q; exact over S6 fun s7 J7 => ⟨_, _, J7, q6⟩
          | ret u => obtain ⟨v6, σ6, H6, S6, r6, q6⟩ := q; exact over S6 fun s7 J7 => ⟨_, _, _, J7, r6, q6⟩
    exact go hh w
end VX

set_option linter.all false
/-! # the walk of a word's text, on lists of signs (no model) -/
namespace KW
def leafC (c : Nat) : Bool := c == 97 || c == 98 || c == 99 || c == 48 || c == 49
def jointC (c : Nat) : Bool := c == 43 || c == 38
/-- one sign: how many are open, whether a word is wanted -/
def stp (o : Nat) (w : Bool) (c : Nat) : Option (Nat × Bool) :=
  if c = 32 then some (o, w) else if w && leafC c then some (o, false) else if w && c == 40 && decide (o < 9) then some (o + 1, true)
  else if !w && jointC c then some (o, true) else if !w && c == 41 && decide (0 < o) then some (o - 1, false) else none
/-- the column of the error, 0 if there is none; k is the column of the next sign -/
def dueAt : List Nat → Nat → Bool → Nat → Nat
  | [], o, w, k => if w || decide (0 < o) then k else 0
  | c :: l, o, w, k => match stp o w c with
    | none => k
    | some p => dueAt l p.1 p.2 (k + 1)
def due (l : List Nat) : Nat := dueAt l 0 true 1
/-- the rest can be read to its end -/
def Acc : Bool → Nat → List Nat → Bool
  | w, d, [] => !w && d == 0
  | true, d, c :: l => (leafC c && Acc false d l) || (c == 40 && decide (d < 9) && Acc true (d + 1) l)
  | false, d, c :: l => (jointC c && Acc true d l) || (c == 41 && decide (0 < d) && Acc false (d - 1) l)
theorem leaf_no {c : Nat} (h : leafC c = true) : c ≠ 32 ∧ c ≠ 40 ∧ c ≠ 41 ∧ jointC c = false := by
  simp only [leafC, Bool.or_eq_true, beq_iff_eq] at h
  refine ⟨by omega, by omega, by omega, ?_⟩
  simp only [jointC, Bool.or_eq_false_iff, beq_eq_false_iff_ne]
  omega
theorem joint_no {c : Nat} (h : jointC c = true) : c ≠ 32 ∧ c ≠ 40 ∧ c ≠ 41 ∧ leafC c = false := by
  simp only [jointC, Bool.or_eq_true, beq_iff_eq] at h
  refine ⟨by omega, by omega, by omega, ?_⟩
  simp only [leafC, Bool.or_eq_false_iff, beq_eq_false_iff_ne]
  omega
theorem step_o {o o' : Nat} {w w' : Bool} {c : Nat} (ho : o ≤ 9) (h : stp o w c = some (o', w')) : o' ≤ 9 := by
  unfold stp at h
  split at h
  · cases h; exact ho
  split at h
  · cases h; exact ho
  split at h
  · rename_i hh
    cases h
    simp only [Bool.and_eq_true, decide_eq_true_eq] at hh
    omega
  split at h
  · cases h; exact ho
  split at h
  · cases h; omega
  · cases h
theorem acc_of {l : List Nat} : ∀ {o : Nat} {w : Bool} {k : Nat}, 0 < k → dueAt l o w k = 0 → Acc w o (l.filter (· != 32)) = true := by
  induction l with
  | nil =>
    intro o w k hk h
    simp only [dueAt] at h
    cases w with
    | true => rw [if_pos (by simp)] at h; omega
    | false =>
      by_cases c : 0 < o
      · rw [if_pos (by simp [c])] at h; omega
      · have : o = 0 := by omega
        subst this
        rfl
  | cons c l ih =>
    intro o w k hk h
    simp only [dueAt] at h
    cases hs : stp o w c with
    | none => rw [hs] at h; dsimp only at h; omega
    | some p =>
      obtain ⟨o', w'⟩ := p
      rw [hs] at h
      dsimp only at h
      have ih' := ih (Nat.succ_pos k) h
      unfold stp at hs
      by_cases c32 : c = 32
      · rw [if_pos c32] at hs
        cases hs
        rw [List.filter_cons_of_neg (by simp [c32])]
        exact ih'
      · rw [if_neg c32] at hs
        rw [List.filter_cons_of_pos (by simp [c32])]
        split at hs
        · rename_i hh
          cases hs
          simp only [Bool.and_eq_true] at hh
          rw [hh.1]
          simp only [Acc, hh.2, ih', Bool.true_and, Bool.true_or]
        split at hs
        · rename_i hh
          cases hs
          simp only [Bool.and_eq_true] at hh
          rw [hh.1.1]
          simp only [Acc, hh.1.2, hh.2, ih', Bool.and_self, Bool.or_true]
        split at hs
        · rename_i hh
          cases hs
          simp only [Bool.and_eq_true, Bool.not_eq_true'] at hh
          rw [hh.1]
          simp only [Acc, hh.2, ih', Bool.true_and, Bool.true_or]
        split at hs
        · rename_i hh
          cases hs
          simp only [Bool.and_eq_true, Bool.not_eq_true'] at hh
          rw [hh.1.1]
          simp only [Acc, hh.1.2, hh.2, ih', Bool.and_self, Bool.or_true]
        · cases hs
/-- the law's order of tests gives the same -/
theorem acc_wanted {d : Nat} {l : List Nat} (h : Acc true d l = true) : ∃ c r, l = c :: r ∧ ((leafC c = true ∧ Acc false d r = true) ∨ (c = 40 ∧ d < 9 ∧ Acc true (d + 1) r = true)) := by
  cases l with
  | nil => simp [Acc] at h
  | cons c r =>
    refine ⟨c, r, rfl, ?_⟩
    simp only [Acc, Bool.or_eq_true, Bool.and_eq_true, beq_iff_eq, decide_eq_true_eq] at h
    rcases h with h | h
    · exact .inl h
    · exact .inr ⟨h.1.1, h.1.2, h.2⟩
theorem acc_joint {d c : Nat} {r : List Nat} (hj : jointC c = true) (h : Acc false d (c :: r) = true) : Acc true d r = true := by
  have n := joint_no hj
  simp only [Acc, Bool.or_eq_true, Bool.and_eq_true, beq_iff_eq, decide_eq_true_eq] at h
  rcases h with h | h
  · exact h.2
  · exact absurd h.1.1 n.2.2.1
theorem acc_close {d : Nat} {l : List Nat} (hd : 0 < d) (hj : ∀ c r, l = c :: r → jointC c = false) (h : Acc false d l = true) : ∃ r, l = 41 :: r ∧ Acc false (d - 1) r = true := by
  cases l with
  | nil =>
    simp only [Acc, Bool.not_false, Bool.true_and, beq_iff_eq] at h
    omega
  | cons c r =>
    have n := hj c r rfl
    simp only [Acc, Bool.or_eq_true, Bool.and_eq_true, beq_iff_eq, decide_eq_true_eq, n] at h
    rcases h with h | h
    · exact absurd h.1 (by simp)
    · exact ⟨r, by rw [h.1.1], h.2⟩
/-- a word as a tree -/
inductive Tr where
  | lf (c : Nat)
  | nd (c : Nat) (l r : Tr)
/-! what is read: from the list before to the list behind, d parentheses open -/
mutual
inductive RP : Nat → List Nat → Tr → List Nat → Prop
  | leaf {d c : Nat} {r : List Nat} : leafC c = true → RP d (c :: r) (.lf c) r
  | paren {d : Nat} {l r : List Nat} {t : Tr} : d < 9 → RS (d + 1) l t (41 :: r) → RP d (40 :: l) t r
inductive RIs : Nat → Nat → Tr → List Nat → Tr → List Nat → Prop
  | stop {d : Nat} {t : Tr} {r : List Nat} : r.head? ≠ some 38 → RIs d 0 t r t r
  | more {d k : Nat} {t u t' : Tr} {r r1 r' : List Nat} : RP d r u r1 → RIs d k (.nd 38 t u) r1 t' r' → RIs d (k + 1) t (38 :: r) t' r'
inductive RI : Nat → List Nat → Tr → List Nat → Prop
  | mk {d k : Nat} {l r r' : List Nat} {t t' : Tr} : RP d l t r → RIs d k t r t' r' → RI d l t' r'
inductive RSs : Nat → Nat → Tr → List Nat → Tr → List Nat → Prop
  | stop {d : Nat} {t : Tr} {r : List Nat} : r.head? ≠ some 43 → RSs d 0 t r t r
  | more {d k : Nat} {t u t' : Tr} {r r1 r' : List Nat} : RI d r u r1 → RSs d k (.nd 43 t u) r1 t' r' → RSs d (k + 1) t (43 :: r) t' r'
inductive RS : Nat → List Nat → Tr → List Nat → Prop
  | mk {d k : Nat} {l r r' : List Nat} {t t' : Tr} : RI d l t r → RSs d k t r t' r' → RS d l t' r'
end
def PartOk (n : Nat) : Prop := ∀ (l : List Nat) (d : Nat), l.length ≤ n → Acc true d l = true → ∃ t r, RP d l t r ∧ Acc false d r = true ∧ r.length < l.length
def InterOk (n : Nat) : Prop := ∀ (l : List Nat) (d : Nat), l.length ≤ n → Acc true d l = true → ∃ t r, RI d l t r ∧ Acc false d r = true ∧ r.length < l.length ∧ r.head? ≠ some 38
def SumOk (n : Nat) : Prop := ∀ (l : List Nat) (d : Nat), l.length ≤ n → Acc true d l = true → ∃ t r, RS d l t r ∧ Acc false d r = true ∧ r.length < l.length ∧ ∀ c s, r = c :: s → jointC c = false
theorem inters {n : Nat} (hp : PartOk n) : ∀ (m : Nat) (r : List Nat) (d : Nat) (t : Tr), r.length ≤ m → r.length ≤ n → Acc false d r = true → ∃ k t' r', RIs d k t r t' r' ∧ Acc false d r' = true ∧ r'.length ≤ r.length ∧ r'.head? ≠ some 38 := by
  intro m
  induction m with
  | zero =>
    intro r d t h _ a
    have : r = [] := List.length_eq_zero_iff.mp (by omega)
    subst this
    exact ⟨0, t, [], .stop (by simp), a, Nat.le_refl _, by simp⟩
  | succ m ih =>
    intro r d t h hn a
    by_cases hh : r.head? = some 38
    · obtain ⟨s, rfl⟩ : ∃ s, r = 38 :: s := by
        cases r with
        | nil => simp at hh
        | cons c s => exact ⟨s, by rw [Option.some.inj hh]⟩
      have a2 := acc_joint (by decide) a
      simp only [List.length_cons] at h hn
      obtain ⟨u, r1, p1, p2, p3⟩ := hp s d (by omega) a2
      obtain ⟨k, t', r', q1, q2, q3, q4⟩ := ih r1 d (.nd 38 t u) (by omega) (by omega) p2
      exact ⟨k + 1, t', r', .more p1 q1, q2, by simp only [List.length_cons]; omega, q4⟩
    · exact ⟨0, t, r, .stop hh, a, Nat.le_refl _, hh⟩
theorem interOk {n : Nat} (hp : PartOk n) : InterOk n := fun l d h a => by
  obtain ⟨t, r, p1, p2, p3⟩ := hp l d h a
  obtain ⟨k, t', r', q1, q2, q3, q4⟩ := inters hp r.length r d t (Nat.le_refl _) (by omega) p2
  exact ⟨t', r', .mk p1 q1, q2, by omega, q4⟩
theorem sums {n : Nat} (hp : InterOk n) : ∀ (m : Nat) (r : List Nat) (d : Nat) (t : Tr), r.length ≤ m → r.length ≤ n → r.head? ≠ some 38 → Acc false d r = true → ∃ k t' r', RSs d k t r t' r' ∧ Acc false d r' = true ∧ r'.length ≤ r.length ∧ r'.head? ≠ some 43 ∧ r'.head? ≠ some 38 := by
  intro m
  induction m with
  | zero =>
    intro r d t h _ _ a
    have : r = [] := List.length_eq_zero_iff.mp (by omega)
    subst this
    exact ⟨0, t, [], .stop (by simp), a, Nat.le_refl _, by simp, by simp⟩
  | succ m ih =>
    intro r d t h hn h38 a
    by_cases hh : r.head? = some 43
    · obtain ⟨s, rfl⟩ : ∃ s, r = 43 :: s := by
        cases r with
        | nil => simp at hh
        | cons c s => exact ⟨s, by rw [Option.some.inj hh]⟩
      have a2 := acc_joint (by decide) a
      simp only [List.length_cons] at h hn
      obtain ⟨u, r1, p1, p2, p3, p4⟩ := hp s d (by omega) a2
      obtain ⟨k, t', r', q1, q2, q3, q4⟩ := ih r1 d (.nd 43 t u) (by omega) (by omega) p4 p2
      exact ⟨k + 1, t', r', .more p1 q1, q2, by simp only [List.length_cons]; omega, q4⟩
    · exact ⟨0, t, r, .stop hh, a, Nat.le_refl _, hh, h38⟩
theorem sumOk {n : Nat} (hp : InterOk n) : SumOk n := fun l d h a => by
  obtain ⟨t, r, p1, p2, p3, p4⟩ := hp l d h a
  obtain ⟨k, t', r', q1, q2, q3, q4, q5⟩ := sums hp r.length r d t (Nat.le_refl _) (by omega) p4 p2
  refine ⟨t', r', .mk p1 q1, q2, by omega, fun c s e => ?_⟩
  subst e
  simp only [jointC, Bool.or_eq_false_iff, beq_eq_false_iff_ne]
  exact ⟨fun e => q4 (by simp [e]), fun e => q5 (by simp [e])⟩
theorem partOk : ∀ n, PartOk n := by
  intro n
  induction n with
  | zero =>
    intro l d h a
    have : l = [] := List.length_eq_zero_iff.mp (by omega)
    subst this
    simp [Acc] at a
  | succ n ih =>
    intro l d h a
    obtain ⟨c, r, rfl, q⟩ := acc_wanted a
    simp only [List.length_cons] at h
    rcases q with ⟨hl, ha⟩ | ⟨rfl, hd, ha⟩
    · exact ⟨.lf c, r, .leaf hl, ha, by simp⟩
    · obtain ⟨t, r1, p1, p2, p3, p4⟩ := sumOk (interOk ih) r (d + 1) (by omega) ha
      obtain ⟨r2, rfl, a2⟩ := acc_close (Nat.succ_pos d) p4 p2
      simp only [List.length_cons] at p3
      exact ⟨t, r2, .paren hd p1, a2, by simp only [List.length_cons]; omega⟩
/-- a text without an error can be read to its end -/
theorem reads {l : List Nat} (h : due l = 0) : ∃ t, RS 0 (l.filter (· != 32)) t [] := by
  have a := acc_of (Nat.succ_pos 0) h
  obtain ⟨t, r, p1, p2, p3, p4⟩ := sumOk (interOk (partOk _)) _ 0 (Nat.le_refl _) a
  refine ⟨t, ?_⟩
  cases r with
  | nil => exact p1
  | cons c s =>
    have := p4 c s rfl
    simp [Acc, this] at p2
end KW

set_option linter.all false
/-! # marks on a kind (no model): a kind is the list of its signs -/
namespace KW
def isW (x y : Nat) : Bool := x == y || (x == 48 || y == 49)
def sumM (x y : Nat) : Nat := if isW x y then y else if isW y x then x else 49
def comM (x y : Nat) : Nat := if isW x y then x else if isW y x then y else 48
def hand (c : Nat) : Bool := c == 97 || c == 98 || c == 99
def PL : List Nat := [112, 108, 97, 110, 101]
def letM (c : Nat) (k : List Nat) : Nat := if k = PL then c else if c ∈ k then 49 else 48
/-- the program's mark -/
def mk (k : List Nat) : Tr → Nat
  | .lf c => if hand c then letM c k else c
  | .nd c l r => if c = 43 then sumM (mk k l) (mk k r) else comM (mk k l) (mk k r)
def WF : Tr → Bool
  | .lf c => leafC c
  | .nd c l r => jointC c && WF l && WF r
def dep : Tr → Nat
  | .lf _ => 0
  | .nd _ l r => max (dep l) (dep r) + 1
/-- the law's mark of a plane -/
def lp : Tr → Nat
  | .lf c => c
  | .nd c l r => if lp l = lp r then lp l else
      if lp l = (if c = 43 then 48 else 49) ∨ lp r = (if c = 43 then 48 else 49) then (if lp l = (if c = 43 then 48 else 49) then lp r else lp l) else (if c = 43 then 49 else 48)
/-- the law's mark of a line -/
def li (k : List Nat) : Tr → Int
  | .lf c => if c = 49 ∨ (hand c = true ∧ c ∈ k) then 1 else 0
  | .nd c l r => if c = 43 then (if li k l + li k r > 0 then 1 else 0) else li k l * li k r
def five (c : Nat) : Bool := c == 48 || c == 49 || c == 97 || c == 98 || c == 99
theorem leaf_five {c : Nat} (h : leafC c = true) : five c = true := by
  simp only [leafC, five, Bool.or_eq_true, beq_iff_eq] at *
  omega
theorem sum_five : ∀ {x y : Nat}, five x = true → five y = true → five (sumM x y) = true := by
  intro x y hx hy
  unfold sumM
  split
  · exact hy
  · split
    · exact hx
    · rfl
theorem com_five : ∀ {x y : Nat}, five x = true → five y = true → five (comM x y) = true := by
  intro x y hx hy
  unfold comM
  split
  · exact hx
  · split
    · exact hy
    · rfl
theorem mk_five {k : List Nat} : ∀ {t : Tr}, WF t = true → five (mk k t) = true
  | .lf c, h => by
    simp only [mk]
    split
    · unfold letM
      split
      · exact leaf_five h
      · split <;> rfl
    · exact leaf_five h
  | .nd c l r, h => by
    simp only [WF, Bool.and_eq_true] at h
    simp only [mk]
    split
    · exact sum_five (mk_five h.1.2) (mk_five h.2)
    · exact com_five (mk_five h.1.2) (mk_five h.2)
theorem joint_two {c : Nat} (h : jointC c = true) : c = 43 ∨ c = 38 := by simpa [jointC] using h
theorem five_cases {c : Nat} (h : five c = true) : c = 48 ∨ c = 49 ∨ c = 97 ∨ c = 98 ∨ c = 99 := by simpa [five, or_assoc] using h
theorem lp_sum {x y : Nat} (hx : five x = true) (hy : five y = true) : (if x = y then x else if x = 48 ∨ y = 48 then (if x = 48 then y else x) else 49) = sumM x y := by
  rcases five_cases hx with rfl | rfl | rfl | rfl | rfl <;> rcases five_cases hy with rfl | rfl | rfl | rfl | rfl <;> decide
theorem lp_com {x y : Nat} (hx : five x = true) (hy : five y = true) : (if x = y then x else if x = 49 ∨ y = 49 then (if x = 49 then y else x) else 48) = comM x y := by
  rcases five_cases hx with rfl | rfl | rfl | rfl | rfl <;> rcases five_cases hy with rfl | rfl | rfl | rfl | rfl <;> decide
theorem lp_mk : ∀ {t : Tr}, WF t = true → lp t = mk PL t
  | .lf c, h => by
    simp only [lp, mk, letM, if_true]
    split <;> rfl
  | .nd c l r, h => by
    simp only [WF, Bool.and_eq_true] at h
    have e1 := lp_mk h.1.2
    have e2 := lp_mk h.2
    have f1 := mk_five (k := PL) h.1.2
    have f2 := mk_five (k := PL) h.2
    simp only [lp, mk, e1, e2]
    rcases joint_two h.1.1 with rfl | rfl
    · simpa using lp_sum f1 f2
    · simpa using lp_com f1 f2
def bit (c : Nat) : Prop := c = 48 ∨ c = 49
theorem li_mk {k : List Nat} (hk : k ≠ PL) : ∀ {t : Tr}, WF t = true → bit (mk k t) ∧ li k t = (mk k t : Int) - 48
  | .lf c, h => by
    simp only [li, mk, letM, if_neg hk]
    by_cases hh : hand c = true
    · rw [if_pos hh]
      have c49 : c ≠ 49 := by
        intro e; subst e; cases hh
      by_cases hm : c ∈ k
      · rw [if_pos hm, if_pos (.inr ⟨hh, hm⟩)]
        exact ⟨.inr rfl, by decide⟩
      · rw [if_neg hm, if_neg (by simp [c49, hm])]
        exact ⟨.inl rfl, by decide⟩
    · rw [if_neg hh]
      have hc : c = 48 ∨ c = 49 := by
        simp only [WF, leafC, hand, Bool.or_eq_true, beq_iff_eq] at h hh
        omega
      rcases hc with rfl | rfl
      · exact ⟨.inl rfl, by simp [hh]⟩
      · exact ⟨.inr rfl, by simp⟩
  | .nd c l r, h => by
    simp only [WF, Bool.and_eq_true] at h
    obtain ⟨b1, e1⟩ := li_mk hk h.1.2
    obtain ⟨b2, e2⟩ := li_mk hk h.2
    simp only [li, mk, e1, e2]
    generalize mk k l = x at *
    generalize mk k r = y at *
    rcases joint_two h.1.1 with rfl | rfl <;> rcases b1 with rfl | rfl <;> rcases b2 with rfl | rfl <;> exact ⟨by unfold bit; decide, by decide⟩
/-- the law's within -/
def liW (k : List Nat) (s t : Tr) : Bool := if k = PL then isW (lp s) (lp t) else decide (li k s ≤ li k t)
theorem liW_eq {k : List Nat} {s t : Tr} (hs : WF s = true) (ht : WF t = true) : liW k s t = isW (mk k s) (mk k t) := by
  unfold liW
  by_cases hk : k = PL
  · subst hk
    rw [if_pos rfl, lp_mk hs, lp_mk ht]
  · rw [if_neg hk]
    obtain ⟨b1, e1⟩ := li_mk hk hs
    obtain ⟨b2, e2⟩ := li_mk hk ht
    rw [e1, e2]
    generalize mk k s = x at *
    generalize mk k t = y at *
    rcases b1 with rfl | rfl <;> rcases b2 with rfl | rfl <;> decide
/-- the nine kinds -/
def kinds : List (List Nat) := [[], [97], [98], [99], [97, 98], [97, 99], [98, 99], [97, 98, 99], PL]
/-- the first kind at which two words part, go beyond -/
def partK (s t : Tr) : Option (List Nat) := kinds.find? fun k => mk k s != mk k t
def gapK (s t : Tr) : Option (List Nat) := kinds.find? fun k => !isW (mk k s) (mk k t)
end KW

set_option Elab.async false
set_option linter.all false
set_option maxRecDepth 100000
set_option maxHeartbeats 4000000
/-! # for i, c in enumerate(a text, start=k); x + y by an own __add__; replace in a def -/
namespace VX
open PySem PySem.Spec PyProof.Rows L2
/-! ### enumerate(text, start=k) -/
def IteS (x : Str) (k0 : Int) : It :=
  ⟨fun i _ => i < x.cps.size, fun i H v H' => ∃ T c, v = .ref T ∧ H T = none ∧ x.cps[i]? = some c ∧ H' = upd H T (.tup [.int (k0 + (i : Nat)), .str ⟨#[c]⟩]), fun i _ => x.cps.size = i⟩
structure EnS (x : Str) (t : Tok) (k0 : Int) (h : Heap) (e j : Addr) (i : Nat) : Prop where
  en : ∃ old, IsEnum h e j (k0 + (i : Int)) old
  hj : h.IsStrIter j (strIterType x) x t i
  ei : e ≠ j
theorem turn_enumS {P : Program} {w : World} {K : PySem.W.Frag} {elts : List Expr} {kk : Nat} {tpos : Pos} (x : Str) (t : Tok) (k0 : Int) (e it : Addr) :
    Turn P w K (.Tuple elts kk tpos) (IteS x k0) [e, it] e (fun i h => EnS x t k0 h e it i) where
  mem := by simp
  obj := fun i h st b hb => by
    obtain ⟨⟨old, he⟩, ⟨o, ho, _, hd⟩, _⟩ := st
    rcases (by simpa using hb : b = e ∨ b = it) with rfl | rfl
    · exact ⟨_, he, fun v q => nomatch q⟩
    · exact ⟨o, ho, fun v q => by rw [hd] at q; cases q⟩
  keep := fun i h h' st k => by
    obtain ⟨⟨old, he⟩, ⟨o, ho, r⟩, n1⟩ := st
    exact ⟨⟨old, k e (by simp) _ he⟩, ⟨o, k it (by simp) _ ho, r⟩, n1⟩
  item := by
    intro X hP hw hK hc i pins s σ H E I hf st hg
    subst hP hw hK
    obtain ⟨⟨old, he⟩, hit, n1⟩ := st
    have el : e < s.heap.objs.size := Heap.lt_size he
    have il : it < s.heap.objs.size := by obtain ⟨_, q, _⟩ := id hit; exact Heap.lt_size q
    refine wpAny_pyNext_enum_itemC (Draws.text (prog := X.prog) (w := X.w) (A := X.A.in1) (I.ok.hd hc) it x t) he hit hg n1 (by simp [n1]) fun y h' tk hy ho hst hT _ hk => ?_
    obtain ⟨c, u, hcx, rfl⟩ := hy
    refine ⟨_, rfl, wpAny_letOwnedTupleGo_enum (s := { s with heap := h', toks := tk + 1 }) ho fun h2 he2 sb => ?_⟩
    have hT2 : h2.get? s.heap.objs.size = some { cls := .type "tuple", data := .seq #[.int (k0 + (i : Int)) tk, .str ⟨#[c]⟩ u] } := (sb.2 _ (Nat.ne_of_gt el)).trans hT
    have new : ObjOk X.prog X.w (upd H s.heap.objs.size (.tup [.int (k0 + (i : Nat)), .str ⟨#[c]⟩])) h2 s.heap.objs.size (.tup [.int (k0 + (i : Nat)), .str ⟨#[c]⟩]) :=
      ⟨by show 2 ≤ sizeLine; decide, [.int (k0 + (i : Int)) tk, .str ⟨#[c]⟩ u], .cons ⟨_, rfl⟩ (.cons ⟨_, rfl⟩ .nil), ⟨_, hT2, rfl, _, rfl⟩⟩
    have I1 : Inv X pins σ (upd H s.heap.objs.size (.tup [.int (k0 + (i : Nat)), .str ⟨#[c]⟩])) { s with heap := h2, toks := tk + 1 } :=
      I.turnedNew (ch := [e, it]) (fun b ob hb q => (sb.2 b fun z => hb (by simp [z])).trans (hk b ob (fun z => hb (by simp [z])) (fun z => hb (by simp [z])) q)) hf (Nat.le_refl _) new
    refine ⟨.ref s.heap.objs.size, _, I1, rfl, ⟨_, c, rfl, I.hok.fresh (Nat.le_refl _), hcx, rfl⟩, ⟨⟨.str ⟨#[c]⟩ u, ?_⟩, ?_, n1⟩, fun b hb => ?_⟩
    · rw [show k0 + ((i + 1 : Nat) : Int) = k0 + (i : Int) + 1 by omega]
      exact he2
    · obtain ⟨o, ho', r⟩ := hst
      exact ⟨o, (sb.2 it (Ne.symm n1)).trans ho', r⟩
    · have lt : b < s.heap.objs.size := by
        rcases (by simpa using hb : b = e ∨ b = it) with rfl | rfl
        · exact el
        · exact il
      rw [upd_ne (Nat.ne_of_lt lt)]
      exact (hf b hb).1
  done := by
    intro X hP hw hK hc i pins s σ H E I hf st hg
    subst hP hw hK
    obtain ⟨⟨old, he⟩, hit, n1⟩ := st
    obtain ⟨f0, f1, f2, f3, f4, f5⟩ := hf it (by simp)
    have hg : x.cps.size = i := hg
    subst hg
    exact wpAny_pyNext_enum_endD (Draws.text (prog := X.prog) (w := X.w) (A := X.A.in1) (I.ok.hd hc) it x t) he hit fun h' eb => ⟨rfl, I.turned (t' := s.toks) (fun b o hb q => eb b o hb q) f0 f1 f3 f4 f5⟩
  self := fun A i s Q E st h => let ⟨_, he⟩ := st.en; wpAny_pyIter_enum he h
def iEnumS (ta : TA) (k0 : Int) : TI := fun σ H R => ta σ H fun vs H1 => ∃ x, vs = [.str x] ∧ R (IteS x k0) H1
theorem walk_enumS {x : Str} {k0 : Int} : Walk (IteS x k0) x.cps.size (fun _ => True) (YPair (fun i => some (.int (k0 + (i : Nat)))) (fun i => x.cps[i]?.map fun c => .str ⟨#[c]⟩)) := by
  refine ⟨fun i _ hi _ => hi, fun _ _ => rfl, fun i H v H' _ _ y => ?_⟩
  obtain ⟨T, c, k1, k2, k3, k4⟩ := y
  exact ⟨T, .int (k0 + (i : Nat)), .str ⟨#[c]⟩, k1, k2, k4, rfl, by show x.cps[i]?.map _ = _; rw [k3]; rfl⟩
theorem callWith_type_kw {M : Model} {A : Around} {E : Value → Shared → Prop} {s : Shared} {pos : Pos} {T : String} {args : List (Bool × Sem Value)} {kws : List (Option Str × Sem Value)} {Q : Value → Shared → Prop} (hplain : args.any (·.1) = false) (hkw : kws.any (·.1.isNone) = false)
    (h : wpAny M A (evalArgs (.type T) true args kws) (fun a s₁ => wpAny M A (call (.type T) a.pos a.kw) Q E s₁) E s) :
    wpAny M A (callWith pos (.type T) [] args kws) Q E s := by
  unfold callWith
  refine wpAny_bind (wpAny_holding (wpAny_mono h (fun a s₁ h₁ => wpAny_bind (wpAny_standAt ?_)) fun _ _ x => x))
  simp only [hplain, hkw, Bool.or_false]
  refine wpAny_bind (wpAny_pure ?_)
  exact wpAny_bind (wpAny_mono h₁ (fun r s₂ hr => wpAny_bind (wpAny_holding (wpAny_point (wpAny_pure hr)))) fun _ _ x => x)
theorem pi_enumS {X : Cx} {e : Expr} {ta : TA} {p pos tpos kp kp2 : Pos} {elts : List Expr} {kk jz : Nat} {k0 : Int} (hg : Gl X "enumerate") (hm : X.mg "enumerate" = none) (ha : PA X [e] ta) (h0 : -(2 ^ 63) ≤ k0 := by decide) (h1 : k0 < 2 ^ 63 := by decide)
    (st : starEach [e] X.env = (false, eval e X.env) :: starEach [] X.env := by rfl)
    (hall : (backToKw pos (keywordEach [⟨some "start", .Constant (.int k0) jz kp, kp2⟩] X.env)).all (·.1.isSome) = true := by rfl)
    (hkw : (backToKw pos (keywordEach [⟨some "start", .Constant (.int k0) jz kp, kp2⟩] X.env)).any (·.1.isNone) = false := by rfl)
    (hks : (backToKw pos (keywordEach [⟨some "start", .Constant (.int k0) jz kp, kp2⟩] X.env)).filterMap (·.1) = [("start" : Str)] := by rfl)
    (hpl : (backTo pos (starEach [e] X.env)).any (·.1) = false := by rfl)
    (hbt : backTo pos (starEach [e] X.env) = (false, eval e X.env) :: backTo pos (starEach [] X.env) := by rfl) :
    PI X (.Tuple elts kk tpos) (.Call (.Name "enumerate" p) [e] [⟨some "start", .Constant (.int k0) jz kp, kp2⟩] pos) (iEnumS ta k0) := by
  have hk : PK X [⟨some "start", .Constant (.int k0) jz kp, kp2⟩] (tCons (tC (.int k0)) tNil) := pk_cons pe_int pk_nil
  refine ⟨fun pins s σ H R I h => ?_⟩
  refine wpAny_Call_Name_kw (ld_blt I hg hm boot_enumerate ?_)
  refine callWith_type_kw hpl hkw ?_
  have run := ha.run pos pins s σ H _ I h
  rw [hbt] at run ⊢
  refine evalArgs_kwB hall (thn run fun us s1 ⟨vs, H1, I1, r1, x, ex, q1⟩ => ?_)
  subst ex
  obtain ⟨u, rfl, ru⟩ := vals1 r1
  obtain ⟨t, rfl⟩ := ru
  refine thn (hk.run pos pins s1 σ H1 (fun zs H2 => H2 = H1 ∧ zs = [.int k0]) I1 ⟨rfl, rfl⟩) fun ws s2 ⟨zs, H2, I2, rz, e1, e2⟩ => ?_
  subst e1 e2
  obtain ⟨u2, rfl, ru2⟩ := vals1 rz
  obtain ⟨t2, rfl⟩ := ru2
  rw [hks]
  show wpAny _ _ (call (.type "enumerate") [.str x t] [(Str.ofString "start", .int k0 t2)]) _ _ _
  refine enum_begins_start (begins_text x t) trivial h0 h1 fun h' he' ht _ hkk => wpAny_pyIter_enum he' ?_
  have I3 : Inv X pins σ H2 { s2 with heap := h' } := I2.kept (t' := s2.toks) hkk
  refine ⟨s2.heap.objs.size + 1, [s2.heap.objs.size + 1, s2.heap.objs.size], _, _, H2, rfl, I3, turn_enumS x t k0 (s2.heap.objs.size + 1) s2.heap.objs.size, ⟨⟨.none, ?_⟩, ⟨_, ht, rfl, rfl⟩, Nat.succ_ne_self _⟩, fun b hb => ?_, q1⟩
  · simpa using he'
  · have le : s2.heap.objs.size ≤ b := by
      rcases (by simpa using hb : b = s2.heap.objs.size + 1 ∨ b = s2.heap.objs.size) with z | z
      · rw [z]; exact Nat.le_add_right _ _
      · rw [z]; exact Nat.le_refl _
    exact I2.fpOk le (I2.hok.fresh le)
/-! ### x + y by an own __add__ -/
def rOwnB (C : Addr) (sp : Sp) (E : XK) : R2 := fun x y H Q => ∃ a b dx dy fs gs, x = .ref a ∧ y = .ref b ∧ H a = some (.ins C dx fs) ∧ H b = some (.ins C dy gs) ∧ sp [.ref a, .ref b] H Q E
theorem op_ownB {X : Cx} {CX : CXT} {C f : Addr} {n : Nat} {sp : Sp} {E : XK} {op : Operator} (F : FnR X.prog X.w X.K X.mg X.base CX n f sp) (hc : PySem.W.selfFirst X.K C = true)
    (hs : PySem.W.findIn X.K (.ref C) (PySem.dunder op.info.2) = some (some (.ref f))) (hf : PySem.W.isFn X.K (.ref f) = true) (hx : Passes CX X E) (hr : Room n X.A) : OpR X (binaryOp op) (rOwnB C sp E) := by
  intro pins s σ H x y v u Q I rx ry hq
  obtain ⟨a, b, dx, dy, fs, gs, rfl, rfl, ha, hb, h⟩ := hq
  cases rx
  cases ry
  obtain ⟨mA, J, _⟩ := ins_get I.hok ha
  obtain ⟨mB, J', _⟩ := ins_get I.hok hb
  obtain ⟨od, J, _⟩ := J.look
  obtain ⟨od', J', _⟩ := J'.look
  obtain ⟨m, hF⟩ := I.fr
  refine PySem.W.binop_K (op := op) hF I.ok.mod.kin J J'.type hc hs hf ?_
  have r2 : Vals [V.ref a, V.ref b] [Value.ref a, Value.ref b] := .cons rfl (.cons rfl .nil)
  refine wpAny_call (codeAny_mono (run_fnR F hr hx I r2 h) fun r s' z => ?_)
  cases r with
  | error e => exact z
  | ok fl =>
    cases fl with
    | ret w =>
      obtain ⟨v, H1, I1, rv, q⟩ := z
      show PySem.W.CmpBack _ w s'
      cases w with
      | notImplemented => cases v <;> first | (cases rv; done) | (obtain ⟨_, z⟩ := rv; cases z)
      | _ => exact ⟨v, H1, I1, rv, q⟩
    | next => exact z.elim
    | brk => exact z.elim
    | cont => exact z.elim
end VX

set_option Elab.async false
set_option linter.all false
set_option maxRecDepth 100000
set_option maxHeartbeats 4000000
/-! # a def whose body gives out a token; a Hook with one more Bool, classmethods -/
namespace VX
open PySem PySem.Spec PyProof.Rows L2 CwR
section
variable {P : Program} {w : World} {K : PySem.W.Frag} {mg : Str → Option Value} {base : Heap} {x qual : Str} {params : Arguments} {body : List Stmt} {scope : Scope} {dvs : List V} {kws : List (Str × V)} {f : Addr} {fd : FuncData}
theorem okT {CX : CXT} {N ps : List Str} {k : Nat} {sp : Sp} (F : FunD K x qual params body scope dvs kws f fd) (S : FnScope N ps scope) (hnc : ∀ y ∈ scope.names, y.2 ≠ .cell) (hps : 1 ≤ ps.length) (len : ∀ vs H Q E, sp vs H Q E → vs.length = ps.length)
    (hbody : ∀ (cdv : Value) (A : Around) (outer : List Env) (s : Shared) (H : Hp) (vs : List V) (Q : VK) (E : XK), Room k (A.deeper (envOfC qual scope s.heap.objs.size f cdv)) → sp vs H Q E →
      ∃ t, PSsT (cxOf CX P w K mg base N qual scope f cdv A outer s H E) body t ∧ t { nx := fun _ H' => Q .non H', rt := Q } (start N vs) H) : FnOk P w K mg base CX (k + 1) f fd ps sp := by
  obtain ⟨oc, od, dV, kV, doc, pm, an, cdv, ct, osl, rfl, lk, hcd, _, _⟩ := F.ex
  exact fn_ofT lk hcd S hnc hps len fun A outer s H vs Q E hr hsp => hbody cdv A outer s H vs Q E hr hsp
end
section
variable {X : Cx} {CX : CXT} {k : Nat} {f C : Addr} {fd : FuncData} {ps : List Str} {sp : Sp} {dvs : List V} {ds : List Value} {E : XK} {x m : Str} {p pos apos : Pos} {e o : Expr} {es : List Expr} {ta : TE} {t : TA} {te : TE}
theorem pet_call (F : FnOk X.prog X.w X.K X.mg X.base CX k f fd ps sp) (hr : Room k X.A) (hg : Gl X x) (hm : X.mg x = some (.ref f)) (hk : PySem.W.keepIn X.K (.ref f) = true) (hb : Binds X.K fd ps ds) (hd : Vals dvs ds) (hx : Passes CX X E)
    (ha : PAT X (e :: es) t) (hdb : (x == ("__debug__" : Str)) = false := by decide) (he : starEach (e :: es) X.env = (false, eval e X.env) :: starEach es X.env := by rfl) (hpl : (backTo pos (starEach es X.env)).any (·.1) = false := by rfl) :
    PET X (.Call (.Name x p) (e :: es) [] pos) (tCall sp dvs E t) := by
  intro pins s σ H Q h0 I h
  refine wpAny_Call_Name_kw (ld_glob I hg hm ?_ hdb)
  refine PySem.W.callWith_K (h₀ := X.base) I.ok.mod.kin hk (thn (ha pos pins s σ H _ h0 I h) fun us s1 ⟨vs, H1, I1, r, q⟩ => ⟨I1.kIn, ?_⟩) he hpl
  exact run_fn F hr hb hd hx I1 r q
theorem pst_asg {tg : Expr} {g : TG} (he : PET X e te) (hg : PG X tg g) (hs : swapsWithSole [tg] e pos.line X.env = pure false := by rfl) (hw : swappedStores [tg] e X.env = pure none := by rfl)
    (h1 : (assignEach [tg] X.env).map (·.2) = [assign tg X.env] := by rfl) : PST X (.Assign [tg] e pos) (tAsg te g) := by
  intro pins s σ H D h0 I h
  refine wpAny_Assign_stores (thn (he pins s σ H _ h0 I h) fun v s1 ⟨x, H1, I1, r1, q1⟩ => ?_) hs hw
  rw [h1]
  exact thn (hg.run pins s1 σ H1 x v _ I1 r1 q1) fun _ s2 q => q
end
/-! ### a Hook -/
open He5 in
def hookMA (n : Nat) (fa : List He.Fa) (fn : List DefA) (ex : PySem.W.Frag → Bool) : PySem.W.Hook where
  α := He.AlD × Bool
  obs := fun s => (obsA fa fn (He.frG s.heap.get? (asA s.heap.get? n)), ex (He.frG s.heap.get? (asA s.heap.get? n)))
  val := fun _ => (valA fn, true)
  says := fun _ h => ∃ K : PySem.W.Frag, K.In h ∧ SaysA fa fn K ∧ ex K = true
  of := fun _ _ e => ⟨_, He.frG_in, congrArg (fun z : He.AlD × Bool => z.1) e, congrArg (fun z : He.AlD × Bool => z.2) e⟩
  keeps := fun _ _ _ ⟨K, hK, c⟩ k => ⟨K, PySem.W.Frag.In.keeps hK k, c⟩
open He5 in
def obsMA (n : Nat) (fa : List He.Fa) (fn : List DefA) (ex : PySem.W.Frag → Bool) (g : Addr → Option Obj) : He.AlD × Bool := (fun K => (obsA fa fn K, ex K)) (He.frG g (asA g n))
theorem obsMA_eq {n : Nat} {fa : List He.Fa} {fn : List He5.DefA} {ex : PySem.W.Frag → Bool} {g : Addr → Option Obj} {s : Shared} (h : ∀ a, g a = s.heap.get? a) : obsMA n fa fn ex g = (hookMA n fa fn ex).obs s := by
  have e : g = s.heap.get? := funext h
  rw [e] <;> rfl
/-! ### an error's class, as Bools of the written part -/
def clsB (K : PySem.W.Frag) (C : Addr) : Bool := match K.lookup C with
  | some ⟨.type "type", _, .cls cd, sl⟩ => (match cd.mro, sl.toList with
    | .ref D :: bm, [_, _, _, _, some (.builtin n), _] => D == C && (n == "ValueError.__new__" && (!cd.hasDel && (cd.hasDict && PySem.HandSPX.refsVE bm)))
    | _, _ => false)
  | _ => false
theorem clsB_ok {K : PySem.W.Frag} {C : Addr} (h : clsB K C = true) : ∃ nm q N bs bm sn sub ab col dd k0 k1 k2 k3 k5, K.lookup C = some (excClassObj nm q C N bs bm true sn sub ab col dd k0 k1 k2 k3 k5 "ValueError.__new__") ∧ PySem.HandSPX.refsVE bm = true := by
  unfold clsB at h
  split at h
  · rename_i dd cd sl ho
    split at h
    · rename_i D bm k0 k1 k2 k3 n k5 hm hs
      simp only [Bool.and_eq_true, beq_iff_eq, Bool.not_eq_true'] at h
      obtain ⟨rfl, rfl, hdel, hdc, hv⟩ := h
      obtain ⟨nm, bs, mro, ns, qn, hd, sn, sub, ab, col, del⟩ := cd
      dsimp only at hm hdel hdc
      subst hm hdel hdc
      have hsl : sl = #[k0, k1, k2, k3, some (.builtin "ValueError.__new__"), k5] := by
        obtain ⟨l⟩ := sl
        simp only at hs
        rw [hs]
      subst hsl
      exact ⟨nm, qn, ns, bs, bm, sn, sub, ab, col, dd, k0, k1, k2, k3, k5, ho, hv⟩
    · cases h
  · cases h
/-- of every error's class -/
def exB (K : PySem.W.Frag) (C : Addr) : Bool := He.eqO (PySem.W.findIn K (.ref C) "__getattribute__") (some (some (.builtin "BaseException.__getattribute__"))) && (He.eqO (PySem.W.findIn K (.ref C) "__getattr__") (some none) && (decide (PySem.W.subIn K (.ref C) (.type "BaseException") = some true) && (PySem.W.hasDictIn K C &&
  (He.eqO (PySem.W.findIn K (.ref C) "__class__") (some (some (.builtin "object.__class__"))) && (He.eqO (PySem.W.specialIn K (.builtin "object.__class__") "__get__") (some (some (.builtin "getset_descriptor.__get__"))) && (decide (PySem.W.takesIn K (.builtin "object.__class__") = some true) && (decide (PySem.W.mroIn K C (.type "object") = some true) &&
  (decide (PySem.W.typeIn K (.ref C) = some (.type "type")) && PySem.W.keepIn K (.ref C)))))))))
structure ExF (K : PySem.W.Frag) (C : Addr) : Prop where
  xf : XfC K C
  xc : ExcC K C
  ty : PySem.W.typeIn K (.ref C) = some (.type "type")
  kp : PySem.W.keepIn K (.ref C) = true
theorem exB_ok {K : PySem.W.Frag} {C : Addr} (h : exB K C = true) : ExF K C := by
  obtain ⟨h1, h⟩ := He.ba h
  obtain ⟨h2, h⟩ := He.ba h
  obtain ⟨h3, h⟩ := He.ba h
  obtain ⟨h4, h⟩ := He.ba h
  obtain ⟨h5, h⟩ := He.ba h
  obtain ⟨h6, h⟩ := He.ba h
  obtain ⟨h7, h⟩ := He.ba h
  obtain ⟨h8, h⟩ := He.ba h
  obtain ⟨h9, h10⟩ := He.ba h
  have e3 := of_decide_eq_true h3
  exact ⟨⟨He.eqO_ok h1, He.eqO_ok h2, e3, h4⟩, ⟨He.eqO_ok h1, He.eqO_ok h2, e3, h4, He.eqO_ok h5, He.eqO_ok h6, of_decide_eq_true h7, of_decide_eq_true h8⟩, of_decide_eq_true h9, h10⟩
/-- of one with an __init__ of its own that stores the field f -/
def inB (K : PySem.W.Frag) (C : Addr) (f : Str) : Bool := clsB K C && (He.eqO (PySem.W.findIn K (.ref C) "__setattr__") (some (some (.builtin "object.__setattr__"))) && (He.eqO (PySem.W.findIn K (.ref C) f) (some none) &&
  (He.eqO (PySem.W.findIn K (.ref C) "__init__") (some (some (.ref (He.ma K C "__init__")))) && decide (PySem.W.typeIn K (.ref (He.ma K C "__init__")) = some (.type "function")))))
structure InF (K : PySem.W.Frag) (C : Addr) (f : Str) : Prop where
  oe : OexC K C
  no : PySem.W.findIn K (.ref C) f = some none
  ini : PySem.W.findIn K (.ref C) "__init__" = some (some (.ref (He.ma K C "__init__")))
  fn : PySem.W.typeIn K (.ref (He.ma K C "__init__")) = some (.type "function")
theorem inB_ok {K : PySem.W.Frag} {C : Addr} {f : Str} (x : ExF K C) (h : inB K C f = true) : InF K C f := by
  obtain ⟨h1, h⟩ := He.ba h
  obtain ⟨h2, h⟩ := He.ba h
  obtain ⟨h3, h⟩ := He.ba h
  obtain ⟨h4, h5⟩ := He.ba h
  exact ⟨⟨clsB_ok h1, He.eqO_ok h2, x.xf.exC, x.ty, x.kp⟩, He.eqO_ok h3, He.eqO_ok h4, of_decide_eq_true h5⟩
/-! ### short facts -/
theorem same_new {H : Hp} {a : Addr} {o : HO} (h : H a = none) : Same H (upd H a o) := fun c u e => by
  rw [upd_ne (ne_of_none e h)]
  exact e
theorem same_two {H : Hp} {a b : Addr} {o u : HO} (ha : H a = none) (hb : upd H a o b = none) : Same H (upd (upd H a o) b u) := fun c z e => by
  have k : upd H a o c = some z := by rw [upd_ne (ne_of_none e ha)]; exact e
  rw [upd_ne (ne_of_none k hb)]
  exact k
theorem none_of {H : Hp} {a b : Addr} {o : HO} (hb : upd H a o b = none) : H b = none := by
  by_cases e : b = a
  · rw [e, upd_same] at hb; cases hb
  · rwa [upd_ne e] at hb
def Kept (b : Addr) (H H' : Hp) : Prop := ∀ c o, H c = some o → c ≠ b → H' c = some o
theorem kept_box {H : Hp} {b : Addr} {o : HO} : Kept b H (upd H b o) := fun c u e n => by
  rw [upd_ne n]
  exact e
theorem Kept.of {H H' : Hp} {b : Addr} (k : Same H H') : Kept b H H' := fun c o e _ => k c o e
theorem Kept.trans {H H' H'' : Hp} {b : Addr} (k : Kept b H H') (q : Kept b H' H'') : Kept b H H'' := fun c o e n => q c o (k c o e n) n
theorem lt_line {n : Nat} (h : n ≤ 100000) : n < sizeLine := Nat.lt_of_le_of_lt h (by decide)
/-! ### an error's __init__ -/
def spIni (K : PySem.W.Frag) (C : Addr) (g : Str) : Sp := fun vs H Q _ => ∃ (a : Addr) (v : V), vs = [.ref a, v] ∧ H a = some (exo a C none) ∧ ∀ dx, H dx = none → dx ≠ a → Q .non (upd (upd H dx (exd dx [(g, v)])) a (exo a C (some dx)))
section
variable {P : Program} {w : World} {K : PySem.W.Frag} {mg : Str → Option Value} {base : Heap} {f : Addr} {fd : FuncData}
theorem ok_ini {x g qual : Str} {pa : Arguments} {bd : List Stmt} {sc : Scope} {C : Addr} {q1 q2 q3 q4 : Pos} (F : FunD K x qual pa bd sc [] [] f fd) (S : FnScope ["self", g] ["self", g] sc) (hb : bd = [.Assign [.Attribute (.Name "self" q1) g q2] (.Name g q3) q4]) (I : InF K C g)
    (hd : (g == ("__debug__" : Str)) = false) (hc : (g == ("__classdict__" : Str)) = false) : FnOk P w K mg base CX0 1 f fd ["self", g] (spIni K C g) := by
  subst hb
  refine F.ok S (fun vs H Q E h => ?_) (fun cdv A outer s H vs Q E hr h => ?_)
  · obtain ⟨a, v, rfl, _⟩ := h
    rfl
  · obtain ⟨a, v, rfl, ha, k⟩ := h
    refine ⟨_, PSs.nox (pss_one (ps_ost (pe_var (i := 0) rfl (vis_par S (x := "self") (.head _))) (pe_var (i := 1) rfl (vis_par S (.tail _ (.head _))) hd hc))), ?_⟩
    exact ⟨_, rfl, _, rfl, a, C, rfl, I.oe, I.no, .inl ⟨ha, k⟩⟩
/-- an error's __init__: its promise, its arguments by place -/
def IniOk (P : Program) (w : World) (K : PySem.W.Frag) (mg : Str → Option Value) (base : Heap) (x g : Str) : Prop := ∃ fd, FnOk P w K mg base CX0 1 (He.ma K (He.ga K x) "__init__") fd ["self", g] (spIni K (He.ga K x) g) ∧ Binds K fd ["self", g] []
end
/-! ### the draws' box -/
/-- the box, of which at most N numbers were mixed -/
def BoxK (H : Hp) (b : Addr) (N : Nat) : Prop := ∃ x y z : Int, H b = some (.lst [.int x, .int y, .int z]) ∧ 0 ≤ x ∧ 0 ≤ y ∧ y ≤ N ∧ 0 ≤ z ∧ z ≤ 100000000
theorem Kept.refl {b : Addr} {H : Hp} : Kept b H H := fun _ _ h _ => h
theorem BoxK.same {H H' : Hp} {b : Addr} {N : Nat} (s : Same H H') (h : BoxK H b N) : BoxK H' b N := by
  obtain ⟨x, y, z, hb, r⟩ := h
  exact ⟨x, y, z, s _ _ hb, r⟩
theorem BoxK.at {H : Hp} {b : Addr} {N : Nat} (h : BoxK H b N) : ∃ xs, H b = some (.lst xs) := let ⟨_, _, _, hb, _⟩ := h; ⟨_, hb⟩
theorem BoxK.mono {H : Hp} {b : Addr} {N M : Nat} (h : BoxK H b N) (l : N ≤ M) : BoxK H b M := by
  obtain ⟨x, y, z, hb, x0, y0, yN, r⟩ := h
  exact ⟨x, y, z, hb, x0, y0, by omega, r⟩
def spTake : Sp := fun vs H Q _ => ∃ (b : Addr) (m x y z : Int), vs = [.ref b, .int m] ∧ H b = some (.lst [.int x, .int y, .int z]) ∧ 0 ≤ x ∧ 0 ≤ y ∧ y ≤ 1000000 ∧ 0 ≤ z ∧ z ≤ 100000000 ∧ 0 < m ∧ m ≤ 1000000000 ∧
  ∀ d x' y', 0 ≤ d → d < m → 0 ≤ x' → x' ≤ x → y ≤ y' → y' ≤ y + 1 → Q (.int d) (upd H b (.lst [.int x', .int y', .int z]))
theorem take_use {H : Hp} {b : Addr} {N : Nat} {m : Int} {Q : VK} {E : XK} (h : BoxK H b N) (hN : N ≤ 900000) (m0 : 0 < m) (m1 : m ≤ 1000000000)
    (k : ∀ d H', 0 ≤ d → d < m → Kept b H H' → BoxK H' b (N + 1) → (∀ c, H c = none → H' c = none) → Q (.int d) H') : spTake [.ref b, .int m] H Q E := by
  obtain ⟨x, y, z, hb, x0, y0, yN, z0, z1⟩ := h
  refine ⟨b, m, x, y, z, rfl, hb, x0, y0, by omega, z0, z1, m0, m1, fun d x' y' d0 d1 x0' x1' y1 y2 => k d _ d0 d1 (fun c o q ne => by rw [upd_ne ne]; exact q) ⟨x', y', z, upd_same, x0', by omega, by omega, z0, z1⟩ fun c hc => ?_⟩
  rw [upd_ne (fun e => by rw [e, hb] at hc; cases hc)]
  exact hc
theorem pw_ok {i : Int} (h0 : 0 ≤ i) (h1 : i < 2 ^ 90) : CPw i 3 := by
  refine ⟨by decide, ?_⟩
  have h : Builtin.Int.intBits i ≤ 90 := intBits_le (by omega)
  have h2 : (Builtin.Int.intBits i : Int) ≤ 90 := by exact_mod_cast h
  omega
def spBox (K : PySem.W.Frag) : Sp := fun vs H Q _ => ∃ (l : Addr) (ns : List Int) (j : Nat), vs = [.ref l, .int j] ∧ SqL K H l (ns.map V.int) ∧ j ≤ 100 ∧ ∀ p H', H p = none → Same H H' → BoxK H' p 0 → Q (.ref p) H'
theorem atI_ex {xs : List V} {d : Int} (h0 : 0 ≤ d) (h1 : d < xs.length) : ∃ v, atI xs d = some v ∧ v ∈ xs := by
  have hl : d.toNat < xs.length := by omega
  refine ⟨xs[d.toNat], ?_, List.getElem_mem hl⟩
  have e : ((d.toNat : Nat) : Int) = d := Int.toNat_of_nonneg h0
  have q := atI_nat (xs := xs) (j := d.toNat) (List.getElem?_eq_getElem hl)
  rwa [e] at q
/-- the heap behind an error's making -/
theorem raise_heap {H : Hp} {a d C : Addr} {g : Str} {v : V} (ha : H a = none) (hd : d ≠ a) : upd (del (upd (upd (upd H a (exo a C none)) d (exd d [(g, v)])) a (exo a C (some d))) a) d (.xd [(g, v)]) = upd H d (.xd [(g, v)]) := by
  funext b
  by_cases hb : b = d
  · rw [hb, upd_same, upd_same]
  · rw [upd_ne hb, upd_ne hb]
    by_cases hba : b = a
    · rw [hba, del_same, ha]
    · rw [del_ne hba, upd_ne hba, upd_ne hb, upd_ne hba]
/-- what C(v) asks, C of one field -/
theorem make_read {K : PySem.W.Frag} {C : Addr} {g : Str} {v : V} {H : Hp} {X : XK} (k : ∀ d, H d = none → X (.ref C) (some d) (upd H d (.xd [(g, v)]))) (a : Addr) (ha : H a = none) :
    spIni K C g [.ref a, v] (upd H a (exo a C none)) (fun u H2 => u = .non ∧ ∃ (d : Addr) (fs : List (Str × V)), H2 a = some (exo a C (some d)) ∧ H2 d = some (exd d fs) ∧ H d = none ∧ X (.ref C) (some d) (upd (del H2 a) d (.xd fs))) (fun _ _ _ => False) := by
  refine ⟨a, v, rfl, upd_same, fun d hd ne => ⟨rfl, d, [(g, v)], upd_same, ?_, ?_, ?_⟩⟩
  · rw [upd_ne ne, upd_same]
  · rwa [upd_ne ne] at hd
  · rw [raise_heap ha ne]
    rw [upd_ne ne] at hd
    exact k d hd
end VX

set_option Elab.async false
set_option linter.all false
set_option maxRecDepth 100000
set_option maxHeartbeats 4000000
/-! # C.m(..) of a classmethod within a try -/
namespace VX
open PySem PySem.Spec PyProof.Rows L2 ClX
section
variable {X : Cx} {pins : List (Addr × Obj)} {σ : L2.St} {H : Hp} {s : Shared}
theorem run_fnRS {CX : CXT} {k : Nat} {f : Addr} {sp : Sp} {E : XK} {Q : VK} {us : List Value} {vs : List V} (F : FnR X.prog X.w X.K X.mg X.base CX k f sp) (hr : Room k X.A) (hx : PassesAt CX X σ E) (I : L2.Inv X pins σ H s) (r : Vals vs us) (h : sp vs H Q E) :
    codeAny (model X.prog X.w) X.A (.call (.ref f) ⟨us, []⟩) (fun r s' => match r with | .ok (.ret v) => EP X pins σ Q v s' | .ok _ => False | .error e => X.xe e s') s := by
  refine codeAny_mono (F X.A X.stack s H us vs Q E hr I.env0 r h) fun r s' hq => ?_
  cases r with
  | error e => exact hx pins H s e s' I hq
  | ok fl =>
    cases fl with
    | ret u => exact I.after hq
    | next => exact False.elim hq
    | brk => exact False.elim hq
    | cont => exact False.elim hq
theorem run_cmS {CX : CXT} {k : Nat} {C g q : Addr} {sp : Sp} {E : XK} {Q : VK} {us : List Value} {vs : List V} (F : FnR X.prog X.w X.K X.mg X.base CX k g sp) (hr : Room k X.A) (hx : PassesAt CX X σ E) (I : L2.Inv X ((q, PySem.W.methodObj (.ref g) (.ref C)) :: pins) σ H s)
    (r : Vals vs us) (h : sp (.ref C :: vs) H Q E) : wpAny (model X.prog X.w) X.A (call (.ref q) us) (EP X pins σ Q) X.xe s := by
  have z : wpAny (model X.prog X.w) X.A (call (.ref q) us) (EP X ((q, PySem.W.methodObj (.ref g) (.ref C)) :: pins) σ Q) X.xe s :=
    wpAny_call (PySem.W.method_call (pin_at I) (run_fnRS (us := .ref C :: us) (vs := .ref C :: vs) F hr hx I (.cons rfl r) h))
  exact thn z fun _ _ y => unpinE y
end
def tCMethS (C : Addr) (sp : Sp) (E : L2.St → XK) (ta : TE) (t : TA) : TE := fun σ H Q => ta σ H fun x H1 => x = .ref C ∧ t σ H1 fun vs H2 => sp (.ref C :: vs) H2 Q (E σ)
theorem pe_cmethS {X : Cx} {CX : CXT} {k : Nat} {C p g : Addr} {mc : Value} {sp : Sp} {E : L2.St → XK} {o e : Expr} {es : List Expr} {m : Str} {pos apos : Pos} {ta : TE} {t : TA} {pl : Sem Bool} (he : PE X o ta) (r : CRead X.K C mc) (c : CMet X.K C mc m p g) (F : FnR X.prog X.w X.K X.mg X.base CX k g sp) (hr : Room k X.A) (hx : ∀ σ, PassesAt CX X σ (E σ)) (ha : PA X (e :: es) t)
    (hst : starEach (e :: es) X.env = (false, eval e X.env) :: starEach es X.env := by rfl) (hpl : (backTo pos (starEach es X.env)).any (·.1) = false := by rfl)
    (ht : eval (.Call (.Attribute o m apos) (e :: es) [] pos) X.env = (do
      let ov ← eval o X.env
      standAt apos.atName
      let (f, first) ← holding [ov] (getMethod ov m pl)
      callWith pos f first (backTo pos (starEach (e :: es) X.env)) (backToKw pos (keywordEach [] X.env))) := by rfl) :
    PE X (.Call (.Attribute o m apos) (e :: es) [] pos) (tCMethS C sp E ta t) := by
  refine ⟨fun pins s σ H Q I h => ?_⟩
  refine PySem.W.methodCall_KW (pl := pl) (thn (he.run pins s σ H _ I h) fun u s1 ⟨x, H1, I1, rx, ex, q⟩ => ?_) ht
  subst ex
  obtain rfl : u = Value.ref C := rx
  refine getmethcm_ok I1 r c fun s2 I2 => ?_
  refine callwith_cm I2 (base_none I1 (Nat.le_refl _)) c.fi (thn (ha.run pos _ s2 σ H1 _ I2 q) fun us s3 ⟨vs, H2, I3, rv, q2⟩ => ⟨⟨pin_at I3, I3.kIn⟩, ?_⟩) hst hpl
  exact run_cmS F hr (hx σ) I3 rv q2
theorem yes_if {σ : L2.St} {H : Hp} {A B : Hp → Prop} (h : A H) : tYes σ H fun b H3 => if b = true then A H3 else B H3 := by
  show if true = true then A H else B H
  rw [if_pos rfl]
  exact h
theorem no_if {σ : L2.St} {H : Hp} {A : Hp → Prop} (h : A H) : tYes σ H fun b H3 => b = true → A H3 := fun _ => h
/-- a list that grows outside of what stood -/
theorem Same.grow {H H3 : Hp} {D : Addr} {o : HO} (s : Same H H3) (hD : H D = none) : Same H (upd H3 D o) := fun b u q => by
  rw [upd_ne (ne_of_none q hD)]
  exact s b u q
theorem take_more {α β : Type} {g : α → β} {xs : List α} {i : Nat} {x : α} (h : xs[i]? = some x) : (xs.take (i + 1)).map g = (xs.take i).map g ++ [g x] := by
  rw [List.take_succ, h, List.map_append]
  rfl
theorem take_one {α : Type} {xs : List α} {i : Nat} {x : α} (h : xs[i]? = some x) : xs.take (i + 1) = xs.take i ++ [x] := by
  rw [List.take_succ, h]
  rfl
/-! ### a text times an int; an item of a displayed list, drawn -/
theorem op_mulS {X : Cx} : OpR X (binaryOp .Mult) (fun x y H Q => ∃ a n, x = .str a ∧ y = .int n ∧ a.length ≤ 1000 ∧ 0 ≤ n ∧ n ≤ 1000 ∧ Q (.str (Txt.mul a n)) H) := by
  intro pins s σ H x y v u Q I rx ry h
  obtain ⟨a, n, rfl, rfl, ha, h0, h1, q⟩ := h
  obtain ⟨t, rfl⟩ := rx
  obtain ⟨t', rfl⟩ := ry
  have hp : (a.length : Int) * n ≤ 1000000 := by
    have := Int.mul_le_mul (show (a.length : Int) ≤ 1000 by omega) h1 h0 (by decide)
    omega
  refine SB.mul ⟨?_, fun h2 _ h3 => ?_, fun h2 _ => ?_⟩ fun t' k => ⟨.str (Txt.mul a n), H, I.tok _, ⟨t', rfl⟩, q⟩
  · rw [decide_eq_false (by omega), decide_eq_false (by omega)]; rfl
  · have h5 : (1000 : Int) ≤ (2 ^ 63 - 1) / n := by
      rw [Int.le_ediv_iff_mul_le (by omega)]
      omega
    omega
  · have h6 : a.length * n.toNat ≤ 1000000 := by
      have e : ((a.length * n.toNat : Nat) : Int) = (a.length : Int) * n := by rw [Int.natCast_mul, Int.toNat_of_nonneg h0]
      omega
    have h7 : (1000000 : Nat) ≤ sizeLine := by decide
    exact decide_eq_false (by show ¬ a.length * n.toNat > sizeLine; omega)
theorem pick_use {K : PySem.W.Frag} {H : Hp} {b l0 : Addr} {N : Nat} {m : Int} {vs : List V} {Q : VK} {E : XK} (h : BoxK H b N) (hl : H l0 = none) (hN : N ≤ 900000) (hm : (vs.length : Int) = m) (m0 : 0 < m) (m1 : m ≤ 1000)
    (k : ∀ v H', v ∈ vs → Kept b H H' → BoxK H' b (N + 1) → Q v H') : spTake [.ref b, .int m] (upd H l0 (.lst vs)) (fun y H2 => rIxL K (.ref l0) y H2 Q) E := by
  have n0 : l0 ≠ b := fun e => by obtain ⟨xs, hx⟩ := h.at; rw [e, hx] at hl; cases hl
  refine take_use (h.same (same_new hl)) hN m0 (by omega) fun d H1 d0 d1 kp bx _ => ?_
  obtain ⟨v, hv, hm⟩ := atI_ex (xs := vs) d0 (by omega)
  exact ⟨l0, vs, d, v, rfl, rfl, SqL.of (kp _ _ upd_same n0), hv, k v H1 hm ((Kept.of (same_new hl)).trans kp) bx⟩
end VX

set_option Elab.async false
set_option linter.all false
set_option maxRecDepth 100000
set_option maxHeartbeats 4000000
/-! # f(g = u), f(g = u, h = v), f(h = v, g = u) -/
namespace VX
open PySem PySem.Spec PyProof.Rows L2
theorem pe_kcall1 {X : Cx} {CX : CXT} {x g : Str} {f : Addr} {k : Nat} {fd : FuncData} {sp : Sp} {E : XK} {p k1 pos : Pos} {e1 : Expr} {tk : TA} (F : FnOk X.prog X.w X.K X.mg X.base CX k f fd [g] sp) (hr : Room k X.A) (hg : Gl X x) (hm : X.mg x = some (.ref f)) (hk : PySem.W.keepIn X.K (.ref f) = true)
    (hb : ∀ (s : Shared) (u : Value), BindsTo s fd ⟨[], [(g, u)]⟩ [(g, u)]) (hx : Passes CX X E) (ha : PK X [⟨some g, e1, k1⟩] tk) (hdb : (x == ("__debug__" : Str)) = false := by decide)
    (hpl : ((backTo pos (starEach [] X.env)).any (·.1) || (backToKw pos (keywordEach [⟨some g, e1, k1⟩] X.env)).any (·.1.isNone)) = false := by rfl)
    (hall : (backToKw pos (keywordEach [⟨some g, e1, k1⟩] X.env)).all (·.1.isSome) = true := by rfl) (hks : (backToKw pos (keywordEach [⟨some g, e1, k1⟩] X.env)).filterMap (·.1) = [g] := by rfl) :
    PE X (.Call (.Name x p) [] [⟨some g, e1, k1⟩] pos) (fun σ H Q => tk σ H fun zs H1 => zs.length = 1 ∧ sp zs H1 Q E) := by
  refine ⟨fun pins s σ H Q I q0 => wpAny_Call_Name_kw (ld_glob I hg hm ?_ hdb)⟩
  refine PySem.W.callWith_KW0 (h₀ := X.base) I.ok.mod.kin hk hall ?_ hpl
  refine thn (ha.run pos pins s σ H _ I q0) fun ws s1 ⟨zs, H1, I1, rz, l1, q⟩ => ⟨I1.kIn, ?_⟩
  rw [hks]
  obtain ⟨z1, rfl⟩ : ∃ z1, zs = [z1] := by
    match zs, l1 with
    | [a], _ => exact ⟨a, rfl⟩
  obtain ⟨u1, rfl, r1⟩ := vals1 rz
  show wpAny _ _ (call (.ref f) [] [(g, u1)]) _ _ _
  refine wpAny_call (codeAny_mono (F.run X.A X.stack s1 H1 ⟨[], [(g, u1)]⟩ [u1] [z1] Q E hr I1.env0 (hb s1 u1) (.cons r1 .nil) q) fun r s' hq => ?_)
  match r, hq with
  | .ok (.ret u), hq => exact I1.after hq
  | .error er, hq => exact hx pins σ H1 s1 er s' I1 hq
/-- the keywords' order, the parameters' order: o says whether they are the same -/
theorem pe_kcall2 {X : Cx} {CX : CXT} {x g h a b : Str} {f : Addr} {k : Nat} {fd : FuncData} {sp : Sp} {E : XK} {p k1 k2 pos : Pos} {e1 e2 : Expr} {tk : TA} (o : Bool) (F : FnOk X.prog X.w X.K X.mg X.base CX k f fd [g, h] sp) (hr : Room k X.A) (hg : Gl X x) (hm : X.mg x = some (.ref f)) (hk : PySem.W.keepIn X.K (.ref f) = true)
    (hb : ∀ (s : Shared) (u v : Value), BindsTo s fd ⟨[], [(a, u), (b, v)]⟩ (if o = true then [(g, u), (h, v)] else [(g, v), (h, u)])) (hx : Passes CX X E) (ha : PK X [⟨some a, e1, k1⟩, ⟨some b, e2, k2⟩] tk) (hdb : (x == ("__debug__" : Str)) = false := by decide)
    (hpl : ((backTo pos (starEach [] X.env)).any (·.1) || (backToKw pos (keywordEach [⟨some a, e1, k1⟩, ⟨some b, e2, k2⟩] X.env)).any (·.1.isNone)) = false := by rfl)
    (hall : (backToKw pos (keywordEach [⟨some a, e1, k1⟩, ⟨some b, e2, k2⟩] X.env)).all (·.1.isSome) = true := by rfl) (hks : (backToKw pos (keywordEach [⟨some a, e1, k1⟩, ⟨some b, e2, k2⟩] X.env)).filterMap (·.1) = [a, b] := by rfl) :
    PE X (.Call (.Name x p) [] [⟨some a, e1, k1⟩, ⟨some b, e2, k2⟩] pos) (fun σ H Q => tk σ H fun zs H1 => ∃ z1 z2, zs = [z1, z2] ∧ sp (if o = true then [z1, z2] else [z2, z1]) H1 Q E) := by
  refine ⟨fun pins s σ H Q I q0 => wpAny_Call_Name_kw (ld_glob I hg hm ?_ hdb)⟩
  refine PySem.W.callWith_KW0 (h₀ := X.base) I.ok.mod.kin hk hall ?_ hpl
  refine thn (ha.run pos pins s σ H _ I q0) fun ws s1 ⟨zs, H1, I1, rz, z1, z2, ez, q⟩ => ⟨I1.kIn, ?_⟩
  subst ez
  rw [hks]
  obtain ⟨u1, u2, rfl, r1, r2⟩ := vals2 rz
  show wpAny _ _ (call (.ref f) [] [(a, u1), (b, u2)]) _ _ _
  cases o with
  | true =>
    refine wpAny_call (codeAny_mono (F.run X.A X.stack s1 H1 ⟨[], [(a, u1), (b, u2)]⟩ [u1, u2] [z1, z2] Q E hr I1.env0 (hb s1 u1 u2) (.cons r1 (.cons r2 .nil)) q) fun r s' hq => ?_)
    match r, hq with
    | .ok (.ret u), hq => exact I1.after hq
    | .error er, hq => exact hx pins σ H1 s1 er s' I1 hq
  | false =>
    refine wpAny_call (codeAny_mono (F.run X.A X.stack s1 H1 ⟨[], [(a, u1), (b, u2)]⟩ [u2, u1] [z2, z1] Q E hr I1.env0 (hb s1 u1 u2) (.cons r2 (.cons r1 .nil)) q) fun r s' hq => ?_)
    match r, hq with
    | .ok (.ret u), hq => exact I1.after hq
    | .error er, hq => exact hx pins σ H1 s1 er s' I1 hq
end VX

set_option Elab.async false
set_option linter.all false
set_option maxRecDepth 100000
set_option maxHeartbeats 4000000
/-! # law_k22: the text's defs, what a walk knows of the module -/
namespace KM
open PySem PySem.Spec PyProof.Rows L2 VX
def top (i : Nat) : Stmt := PySem.Challenge.pw_handspaces_k22_marks_of_words.main.body.getD i (.Pass ⟨0, 0, 0, 0⟩)
abbrev iFits : Nat := 12
abbrev iWord : Nat := 20
abbrev iWithin : Nat := 22
abbrev iSumM : Nat := 23
abbrev iComM : Nat := 24
abbrev iLetM : Nat := 25
abbrev iMark : Nat := 26
abbrev iMarks : Nat := 27
abbrev iWon : Nat := 28
abbrev iParting : Nat := 29
abbrev iBreach : Nat := 30
abbrev iSame : Nat := 31
abbrev iBelow : Nat := 32
abbrev iCell : Nat := 34
abbrev iBox : Nat := 35
abbrev iTake : Nat := 36
abbrev iTree : Nat := 37
abbrev iLWord : Nat := 38
abbrev iLMark : Nat := 39
abbrev iLWithin : Nat := 40
abbrev iNear : Nat := 41
abbrev iFirst : Nat := 42
abbrev iLaw : Nat := 43
def defs : List (Str × Nat) := [("fits", iFits), ("is_within", iWithin), ("sum_mark", iSumM), ("common_mark", iComM), ("letter_mark", iLetM), ("mark", iMark), ("marks", iMarks), ("within_on", iWon), ("parting", iParting), ("breach", iBreach), ("same", iSame), ("below", iBelow),
  ("_law_cell", iCell), ("_law_box", iBox), ("_law_take", iTake), ("_law_tree", iTree), ("_law_word", iLWord), ("_law_mark", iLMark), ("_law_within", iLWithin), ("_law_near", iNear), ("_law_first", iFirst), ("law", iLaw)]
def free : List Str := ["len", "int", "abs", "range", "tuple", "list", "isinstance", "bool", "max", "min"]
abbrev FnP (K : PySem.W.Frag) (x : Str) (i : Nat) (f : Addr) (fd : FuncData) : Prop := FunD K x x (defArgs (top i)) (defBody (top i)) (defScope (top i)) [] [] f fd
abbrev wC (K : PySem.W.Frag) : Addr := He.ga K "Word"
def propG (K : PySem.W.Frag) (m : Str) : Addr := match PySem.W.recIn K (He.ma K (wC K) m) "property" with
  | some (.ref g :: _) => g
  | _ => 0
def kindV : List V := [.str "", .str "a", .str "b", .str "c", .str "ab", .str "ac", .str "bc", .str "abc", .str "plane"]
structure Txt (K : PySem.W.Frag) (mg : Str → Option Value) : Prop where
  dfs : ∀ p ∈ defs, mg p.1 = some (.ref (He.ga K p.1))
  free : ∀ x ∈ free, mg x = none
  leaves : mg "LEAVES" = some (.ref (He.ga K "LEAVES"))
  joints : mg "JOINTS" = some (.ref (He.ga K "JOINTS"))
  hands : mg "HANDS" = some (.ref (He.ga K "HANDS"))
  kinds : mg "KINDS" = some (.ref (He.ga K "KINDS"))
  plane : ∃ t, mg "PLANE" = some (.str "plane" t)
  ltup : ∀ H, SqT K H (He.ga K "LEAVES") [.str "a", .str "b", .str "c", .str "0", .str "1"]
  jtup : ∀ H, SqT K H (He.ga K "JOINTS") [.str "+", .str "&"]
  htup : ∀ H, SqT K H (He.ga K "HANDS") [.str "a", .str "b", .str "c"]
  ktup : ∀ H, SqT K H (He.ga K "KINDS") kindV
  word : mg "Word" = some (.ref (wC K))
  cls : Cls K (wC K)
  fs : NoAttr K (wC K) "_sign"
  fp : NoAttr K (wC K) "_parts"
  mks : Mk K (wC K) (He.ma K (wC K) "__init__")
  ps : PropOf K (wC K) "sign" (He.ma K (wC K) "sign") (propG K "sign")
  pp : PropOf K (wC K) "parts" (He.ma K (wC K) "parts") (propG K "parts")
theorem Txt.fr {K : PySem.W.Frag} {mg : Str → Option Value} (T : Txt K mg) (x : Str) (h : x ∈ KM.free := by decide +kernel) : mg x = none := T.free x h
theorem Txt.df {K : PySem.W.Frag} {mg : Str → Option Value} (T : Txt K mg) (x : Str) (i : Nat) (h : (x, i) ∈ defs := by decide +kernel) : mg x = some (.ref (He.ga K x)) := T.dfs (x, i) h
end KM

set_option Elab.async false
set_option linter.all false
set_option maxRecDepth 100000
set_option maxHeartbeats 4000000
/-! # words.py: fits, Word -/
namespace KM
open PySem PySem.Spec PyProof.Rows L2 VX KW
section
variable {P : Program} {w : World} {K : PySem.W.Frag} {mg : Str → Option Value} {base : Heap} {f : Addr} {fd : FuncData}
/-- a text of one sign -/
abbrev one (c : Nat) : Str := ⟨#[c]⟩
theorem one_eq {c d : Nat} : (one c = one d) ↔ c = d := by
  constructor
  · intro h
    have := congrArg (fun s : Str => s.cps.toList) h
    simpa using this
  · rintro rfl; rfl
theorem dec_one {c d : Nat} : decide (V.str (one c) = V.str (one d)) = (c == d) := by
  rw [Bool.eq_iff_iff]
  simp only [decide_eq_true_eq, beq_iff_eq]
  constructor
  · intro h
    exact one_eq.mp (by injection h)
  · rintro rfl; rfl
theorem beq_one {c d : Nat} : (one d == one c) = (c == d) := by
  rw [Bool.eq_iff_iff, beq_iff_eq, beq_iff_eq, one_eq]
  exact eq_comm
theorem in_leaves (c : Nat) : inV (V.str (one c)) [V.str "a", V.str "b", V.str "c", V.str "0", V.str "1"] = leafC c := by
  show ((one 97 == one c) || ((one 98 == one c) || ((one 99 == one c) || ((one 48 == one c) || ((one 49 == one c) || false))))) = _
  simp only [beq_one, leafC, Bool.or_false, Bool.or_assoc]
theorem in_joints (c : Nat) : inV (V.str (one c)) [V.str "+", V.str "&"] = jointC c := by
  show ((one 43 == one c) || ((one 38 == one c) || false)) = _
  simp only [beq_one, jointC, Bool.or_false]
/-! ### fits -/
def spFits : Sp := fun vs H Q _ => ∃ (c : Nat) (m : Int), vs = [.str (one c), .int m] ∧ Q (.bl (if leafC c = true then decide (m = 0) else jointC c && decide (m = 2))) H
theorem sc_fits : FnScope ["sign", "many"] ["sign", "many"] (defScope (top iFits)) := ⟨rfl, rfl, rfl, by decide +kernel, rfl, by decide +kernel, by decide +kernel⟩
theorem ok_fits (F : FnP K "fits" iFits f fd) (T : Txt K mg) : FnOk P w K mg base CX0 1 f fd ["sign", "many"] spFits := by
  refine F.ok sc_fits (fun vs H Q E h => ?_) (fun cdv A outer s H vs Q E hr h => ?_)
  · obtain ⟨c, m, rfl, _⟩ := h
    rfl
  · obtain ⟨c, m, rfl, k⟩ := h
    refine ⟨_, PSs.nox (pss_cons (ps_if (pt_cmpR op_in_seq (pv 0) (pe_glob (v := .ref (He.ga K "LEAVES")) (by rfl) T.leaves rfl) (by rfl)) (pss_one (ps_ret (pe_cmp (pc_eqI (pv 1) pe_int) rfl))) pss_nil)
      (pss_one (ps_ret (pe_and (pe_cmpR op_in_seq (pv 0) (pe_glob (v := .ref (He.ga K "JOINTS")) (by rfl) T.joints rfl) (by rfl)) (pe_one (pe_cmp (pc_eqI (pv 1) pe_int) rfl)))))), ?_⟩
    refine ⟨_, rfl, _, _, rfl, .inr (T.ltup _), rfl, rfl, _, rfl, ?_⟩
    simp only [Bool.false_eq_true, if_false, in_leaves]
    refine ite2 (fun hc => ?_) (fun hc => ?_)
    · rw [if_pos hc] at k
      exact ⟨_, rfl, _, _, rfl, rfl, k⟩
    · rw [if_neg hc] at k
      refine ⟨_, rfl, _, _, rfl, .inr (T.jtup _), rfl, rfl, _, rfl, ?_⟩
      simp only [Bool.false_eq_true, if_false, in_joints]
      cases hj : jointC c with
      | false =>
        rw [hj] at k
        exact iteF k
      | true =>
        rw [hj] at k
        exact iteT ⟨_, rfl, _, _, rfl, rfl, k⟩
abbrev sWI : Stmt := inClass (top iWord) 0
abbrev sSg : Stmt := inClass (top iWord) 2
abbrev sPa : Stmt := inClass (top iWord) 3
def fitB (c m : Nat) : Bool := if leafC c = true then decide (m = 0) else jointC c && decide (m = 2)
/-- the word at x: its sign, its parts -/
def IsWd (K : PySem.W.Frag) (H : Hp) (x : Addr) (c : Nat) (xs : List V) : Prop := ∃ dx a, H x = some (.ins (wC K) dx [("_sign", .str (one c)), ("_parts", .ref a)]) ∧ SqT K H a xs
theorem SqT.same {H H' : Hp} {a : Addr} {xs : List V} (s : Same H H') (h : SqT K H a xs) : SqT K H' a xs := by
  rcases h with (h | ⟨o, h⟩) | h
  · exact .inl (.inl (s _ _ h))
  · exact .inl (.inr ⟨o, s _ _ h⟩)
  · exact .inr h
theorem IsWd.same {H H' : Hp} {x : Addr} {c : Nat} {xs : List V} (s : Same H H') (h : IsWd K H x c xs) : IsWd K H' x c xs := by
  obtain ⟨dx, a, h1, h2⟩ := h
  exact ⟨dx, a, s _ _ h1, SqT.same s h2⟩
theorem seqT_keep {H H' : Hp} {x a C dx : Addr} {fs : List (Str × V)} {xs : List V} (hx : H x = some (.ins C dx fs)) (k : ∀ b o, H b = some o → b ≠ x → H' b = some o) (h : SqT K H a xs) : SqT K H' a xs := by
  rcases h with (h | ⟨o, h⟩) | h
  · exact .inl (.inl (k _ _ h (ne_of h hx (by intro z; cases z))))
  · exact .inl (.inr ⟨o, k _ _ h (ne_of h hx (by intro z; cases z))⟩)
  · exact .inr h
theorem seqL_keep {H H' : Hp} {x a C dx : Addr} {fs : List (Str × V)} {xs : List V} (hx : H x = some (.ins C dx fs)) (k : ∀ b o, H b = some o → b ≠ x → H' b = some o) (h : SqL K H a xs) : SqL K H' a xs := by
  rcases h with (h | ⟨o, h⟩) | h
  · exact .inl (.inl (k _ _ h (ne_of h hx (by intro z; cases z))))
  · exact .inl (.inr ⟨o, k _ _ h (ne_of h hx (by intro z; cases z))⟩)
  · exact .inr h
def spWI (K : PySem.W.Frag) : Sp := fun vs H Q _ => ∃ (x : Addr) (c : Nat) (a : Addr) (xs : List V) (dx : Addr), vs = [.ref x, .str (one c), .ref a] ∧ H x = some (.ins (wC K) dx []) ∧ (SqL K H a xs ∨ SqT K H a xs) ∧ fitB c xs.length = true ∧ xs.length ≤ 1000 ∧
  ∀ H', (∀ b o, H b = some o → b ≠ x → H' b = some o) → IsWd K H' x c xs → Q .non H'
theorem sc_wi : FnScope ["self", "sign", "parts"] ["self", "sign", "parts"] (defScope sWI) := ⟨rfl, rfl, rfl, by decide +kernel, rfl, by decide +kernel, by decide +kernel⟩
theorem ok_wi {dvs : List V} {fd1 : FuncData} (F : FunD K "__init__" "Word.__init__" (defArgs sWI) (defBody sWI) (defScope sWI) dvs [] f fd) (T : Txt K mg) (F1 : FnP K "fits" iFits (He.ga K "fits") fd1) : FnOk P w K mg base CX0 2 f fd ["self", "sign", "parts"] (spWI K) := by
  have G1 : FnOk P w K mg base CX0 1 _ fd1 ["sign", "many"] spFits := ok_fits F1 T
  have B1 : Binds K fd1 ["sign", "many"] [] := F1.bindsN fun _ _ _ _ _ _ us hl => match us, hl with | [_, _], _ => rfl
  refine F.ok sc_wi (fun vs H Q E h => ?_) (fun cdv A outer s H vs Q E hr h => ?_)
  · obtain ⟨x, c, a, xs, dx, rfl, _⟩ := h
    rfl
  · obtain ⟨x, c, a, xs, dx, rfl, hx, hs, hf, hl, k⟩ := h
    refine ⟨_, PSs.nox (pss_cons (ps_if (pt_not (pt_val (pe_call G1 hr (by rfl) (T.df "fits" iFits) F1.kp B1 .nil pass0 (pa_cons (pv 1) (pa_cons (pe_callB call_len_seq (by rfl) (T.fr "len") boot_len (pa_cons (pv 2) pa_nil)) pa_nil))))) (pss_one ps_never) pss_nil)
      (pss_cons (ps_fld (pv 0) (pv 1) rfl)
      (pss_one (ps_fld (pv 0) (pe_callTy call_tuple_of (by rfl) (T.fr "tuple") (by decide +kernel) (pa_cons (pv 2) pa_nil)) rfl)))), ?_⟩
    refine ⟨_, rfl, _, rfl, a, xs, rfl, hs, c, (xs.length : Nat), rfl, _, rfl, ?_⟩
    have e : (if leafC c = true then decide ((xs.length : Int) = 0) else jointC c && decide ((xs.length : Int) = 2)) = true := by
      have q := hf
      unfold fitB at q
      have e1 : decide ((xs.length : Int) = 0) = decide (xs.length = 0) := decide_eq_decide.mpr (by omega)
      have e2 : decide ((xs.length : Int) = 2) = decide (xs.length = 2) := decide_eq_decide.mpr (by omega)
      rwa [← e1, ← e2] at q
    rw [e]
    refine iteF ?_
    refine ⟨_, rfl, _, rfl, x, _, dx, [], rfl, hx, T.cls, T.fs, by decide, ?_⟩
    have hx1 : upd H x (.ins (wC K) dx [("_sign", .str (one c))]) x = some (.ins (wC K) dx [("_sign", .str (one c))]) := upd_same
    have k1 : ∀ b o, H b = some o → b ≠ x → upd H x (.ins (wC K) dx [("_sign", .str (one c))]) b = some o := fun b o q ne => by rw [upd_ne ne]; exact q
    rcases hs with hs | hs
    · refine ⟨_, rfl, a, xs, rfl, .inl ⟨seqL_keep hx k1 hs, fun t ht => ?_⟩⟩
      have tx : x ≠ t := ne_of_none hx1 ht
      refine ⟨_, rfl, x, _, dx, _, rfl, (by rw [upd_ne tx]; exact hx1), T.cls, T.fp, (by show 1 < 1000; decide), ?_⟩
      refine k _ (fun b o q ne => ?_) ⟨dx, t, upd_same, .inl (.inl (by rw [upd_ne (Ne.symm tx), upd_same]))⟩
      have q1 := k1 b o q ne
      rw [upd_ne ne, upd_ne (ne_of_none q1 ht)]
      exact q1
    · refine ⟨_, rfl, a, xs, rfl, .inr ⟨seqT_keep hx k1 hs, ?_⟩⟩
      refine ⟨_, rfl, x, _, dx, _, rfl, hx1, T.cls, T.fp, (by show 1 < 1000; decide), ?_⟩
      rw [upd_upd]
      have k2 : ∀ b o, H b = some o → b ≠ x → upd H x (.ins (wC K) dx (putF "_parts" (V.ref a) [("_sign", .str (one c))])) b = some o := fun b o q ne => by rw [upd_ne ne]; exact q
      exact k _ k2 ⟨dx, a, upd_same, seqT_keep hx k2 hs⟩
/-! ### sign, parts -/
def spGetS (K : PySem.W.Frag) : Sp := fun vs H Q _ => ∃ (x : Addr) (c : Nat) (xs : List V), vs = [.ref x] ∧ IsWd K H x c xs ∧ Q (.str (one c)) H
def spGetP (K : PySem.W.Frag) : Sp := fun vs H Q _ => ∃ (x : Addr) (c : Nat) (xs : List V), vs = [.ref x] ∧ IsWd K H x c xs ∧ ∀ a, SqT K H a xs → Q (.ref a) H
theorem sc_gets : FnScope ["self"] ["self"] (defScope sSg) := ⟨rfl, rfl, rfl, by decide +kernel, rfl, by decide +kernel, by decide +kernel⟩
theorem sc_getp : FnScope ["self"] ["self"] (defScope sPa) := ⟨rfl, rfl, rfl, by decide +kernel, rfl, by decide +kernel, by decide +kernel⟩
theorem ok_gets (F : FunD K "sign" "Word.sign" (defArgs sSg) (defBody sSg) (defScope sSg) [] [] f fd) (T : Txt K mg) : FnOk P w K mg base CX0 1 f fd ["self"] (spGetS K) := by
  refine F.ok sc_gets (fun vs H Q E h => ?_) (fun cdv A outer s H vs Q E hr h => ?_)
  · obtain ⟨x, c, xs, rfl, _⟩ := h
    rfl
  · obtain ⟨x, c, xs, rfl, ⟨dx, a, h1, h2⟩, k⟩ := h
    exact ⟨_, PSs.nox (pss_one (ps_ret (pe_fld (pv 0) rfl))), _, rfl, x, _, dx, _, .str (one c), rfl, h1, T.cls, T.fs, rfl, k⟩
theorem ok_getp (F : FunD K "parts" "Word.parts" (defArgs sPa) (defBody sPa) (defScope sPa) [] [] f fd) (T : Txt K mg) : FnOk P w K mg base CX0 1 f fd ["self"] (spGetP K) := by
  refine F.ok sc_getp (fun vs H Q E h => ?_) (fun cdv A outer s H vs Q E hr h => ?_)
  · obtain ⟨x, c, xs, rfl, _⟩ := h
    rfl
  · obtain ⟨x, c, xs, rfl, ⟨dx, a, h1, h2⟩, k⟩ := h
    exact ⟨_, PSs.nox (pss_one (ps_ret (pe_fld (pv 0) rfl))), _, rfl, x, _, dx, _, .ref a, rfl, h1, T.cls, T.fp, rfl, k a h2⟩
/-! ### making words -/
structure Wif (K : PySem.W.Frag) (fdI : FuncData) (dv : V) (fd1 : FuncData) : Prop where
  fi : FunD K "__init__" "Word.__init__" (defArgs sWI) (defBody sWI) (defScope sWI) [dv] [] (He.ma K (wC K) "__init__") fdI
  ft : FnP K "fits" iFits (He.ga K "fits") fd1
  dv : ∃ a, dv = .ref a ∧ ∀ H, SqT K H a []
theorem Wif.b0 {fdI fd1 : FuncData} {dv : V} (Z : Wif K fdI dv fd1) : ∃ ds, Vals [dv] ds ∧ Binds K fdI ["self", "sign", "parts"] ds := by
  obtain ⟨ds, h1, h2⟩ := Z.fi.binds1 (ps := ["self", "sign", "parts"]) 2 0 (by simp) (by simp) fun T kV doc pm an cdv ct us its hl hi => by
    match us, its, hl, hi with
    | [a, b], [e], _, _ => exact ⟨_, rfl, rfl⟩
  exact ⟨ds, h1, h2⟩
theorem Wif.b1 {fdI fd1 : FuncData} {dv : V} (Z : Wif K fdI dv fd1) : Binds K fdI ["self", "sign", "parts"] [] := by
  obtain ⟨ds, h1, h2⟩ := Z.fi.binds1 (ps := ["self", "sign", "parts"]) 3 1 (by simp) (by simp) fun T kV doc pm an cdv ct us its hl hi => by
    match us, its, hl, hi with
    | [a, b, c], [e], _, _ => exact ⟨_, rfl, rfl⟩
  cases h1
  exact h2
/-- the tree of the word at x -/
def IsTr (K : PySem.W.Frag) (H : Hp) : Addr → Tr → Prop
  | x, .lf c => leafC c = true ∧ IsWd K H x c []
  | x, .nd c l r => jointC c = true ∧ ∃ y z, IsWd K H x c [.ref y, .ref z] ∧ IsTr K H y l ∧ IsTr K H z r
theorem IsTr.same {H H' : Hp} (s : Same H H') : ∀ {t : Tr} {x : Addr}, IsTr K H x t → IsTr K H' x t
  | .lf _, _, h => ⟨h.1, h.2.same s⟩
  | .nd _ _ _, _, h => by
    obtain ⟨j, y, z, h1, h2, h3⟩ := h
    exact ⟨j, y, z, h1.same s, h2.same s, h3.same s⟩
theorem IsTr.ins {H : Hp} {x : Addr} : ∀ {t : Tr}, IsTr K H x t → ∃ dx fs, H x = some (.ins (wC K) dx fs)
  | .lf _, h => by obtain ⟨_, dx, a, h1, _⟩ := h; exact ⟨_, _, h1⟩
  | .nd _ _ _, h => by obtain ⟨_, y, z, ⟨dx, a, h1, _⟩, _⟩ := h; exact ⟨_, _, h1⟩
theorem IsTr.wf {H : Hp} : ∀ {t : Tr} {x : Addr}, IsTr K H x t → WF t = true
  | .lf c, _, h => h.1
  | .nd c l r, _, h => by
    obtain ⟨j, y, z, h1, h2, h3⟩ := h
    simp only [WF, j, h2.wf, h3.wf, Bool.and_self]
end
end KM

set_option Elab.async false
set_option linter.all false
set_option maxRecDepth 100000
set_option maxHeartbeats 4000000
/-! # classes.py: marks -/
namespace KM
open PySem PySem.Spec PyProof.Rows L2 VX KW
section
variable {P : Program} {w : World} {K : PySem.W.Frag} {mg : Str → Option Value} {base : Heap} {f : Addr} {fd : FuncData}
/-! ### is_within, sum_mark, common_mark -/
def spWithin : Sp := fun vs H Q _ => ∃ x y : Nat, vs = [.str (one x), .str (one y)] ∧ Q (.bl (isW x y)) H
theorem sc_within : FnScope ["one", "other"] ["one", "other"] (defScope (top iWithin)) := ⟨rfl, rfl, rfl, by decide +kernel, rfl, by decide +kernel, by decide +kernel⟩
theorem ok_within (F : FnP K "is_within" iWithin f fd) (T : Txt K mg) : FnOk P w K mg base CX0 1 f fd ["one", "other"] spWithin := by
  refine F.ok sc_within (fun vs H Q E h => ?_) (fun cdv A outer s H vs Q E hr h => ?_)
  · obtain ⟨x, y, rfl, _⟩ := h
    rfl
  · obtain ⟨x, y, rfl, k⟩ := h
    refine ⟨_, PSs.nox (pss_one (ps_ret (pe_or (pe_cmpR op_eq (pv 0) (pv 1) (nomark _)) (pe_or (pe_cmpR op_eq (pv 0) pe_str (nomark _)) (pe_one (pe_cmpR op_eq (pv 1) pe_str (nomark _))))))), ?_⟩
    refine ⟨_, rfl, _, rfl, rfl, _, rfl, ?_⟩
    rw [show decide (V.str (one x) = V.str (one y)) = (x == y) from dec_one]
    unfold isW at k
    refine ite2 (fun h => ?_) (fun h => ?_)
    · rw [h] at k
      exact k
    · rw [Bool.eq_false_iff.mpr h] at k
      refine ⟨_, rfl, rfl, _, rfl, ?_⟩
      rw [show decide (V.str (one x) = V.str "0") = (x == 48) from dec_one]
      refine ite2 (fun h => ?_) (fun h => ?_)
      · rw [h] at k
        exact k
      · rw [Bool.eq_false_iff.mpr h] at k
        refine ⟨_, rfl, rfl, ?_⟩
        show Q (.bl (decide (V.str (one y) = V.str "1"))) H
        rw [show decide (V.str (one y) = V.str "1") = (y == 49) from dec_one]
        exact k
def spSum : Sp := fun vs H Q _ => ∃ x y : Nat, vs = [.str (one x), .str (one y)] ∧ Q (.str (one (sumM x y))) H
theorem sc_sum : FnScope ["one", "other"] ["one", "other"] (defScope (top iSumM)) := ⟨rfl, rfl, rfl, by decide +kernel, rfl, by decide +kernel, by decide +kernel⟩
theorem ok_sum {fdW : FuncData} (F : FnP K "sum_mark" iSumM f fd) (T : Txt K mg) (FW : FnP K "is_within" iWithin (He.ga K "is_within") fdW) : FnOk P w K mg base CX0 2 f fd ["one", "other"] spSum := by
  have GW : FnOk P w K mg base CX0 1 _ fdW ["one", "other"] spWithin := ok_within FW T
  have BW : Binds K fdW ["one", "other"] [] := FW.bindsN fun _ _ _ _ _ _ us hl => match us, hl with | [_, _], _ => rfl
  refine F.ok sc_sum (fun vs H Q E h => ?_) (fun cdv A outer s H vs Q E hr h => ?_)
  · obtain ⟨x, y, rfl, _⟩ := h
    rfl
  · obtain ⟨x, y, rfl, k⟩ := h
    refine ⟨_, PSs.nox (pss_cons (ps_if (pt_val (pe_call GW hr (by rfl) (T.df "is_within" iWithin) FW.kp BW .nil pass0 (pa_cons (pv 0) (pa_cons (pv 1) pa_nil)))) (pss_one (ps_ret (pv 1))) pss_nil) (pss_one (ps_ret (pe_ifExp (pt_val (pe_call GW hr (by rfl) (T.df "is_within" iWithin) FW.kp BW .nil pass0 (pa_cons (pv 1) (pa_cons (pv 0) pa_nil)))) (pv 0) pe_str)))), ?_⟩
    unfold sumM at k
    refine ⟨_, rfl, _, rfl, x, y, rfl, _, rfl, ?_⟩
    refine ite2 (fun h => ?_) (fun h => ?_)
    · rw [if_pos h] at k
      exact ⟨_, rfl, k⟩
    · rw [if_neg h] at k
      refine ⟨_, rfl, _, rfl, y, x, rfl, _, rfl, ?_⟩
      refine ite2 (fun h2 => ?_) (fun h2 => ?_)
      · rw [if_pos h2] at k
        exact ⟨_, rfl, k⟩
      · rw [if_neg h2] at k
        exact k
def spCom : Sp := fun vs H Q _ => ∃ x y : Nat, vs = [.str (one x), .str (one y)] ∧ Q (.str (one (comM x y))) H
theorem sc_com : FnScope ["one", "other"] ["one", "other"] (defScope (top iComM)) := ⟨rfl, rfl, rfl, by decide +kernel, rfl, by decide +kernel, by decide +kernel⟩
theorem ok_com {fdW : FuncData} (F : FnP K "common_mark" iComM f fd) (T : Txt K mg) (FW : FnP K "is_within" iWithin (He.ga K "is_within") fdW) : FnOk P w K mg base CX0 2 f fd ["one", "other"] spCom := by
  have GW : FnOk P w K mg base CX0 1 _ fdW ["one", "other"] spWithin := ok_within FW T
  have BW : Binds K fdW ["one", "other"] [] := FW.bindsN fun _ _ _ _ _ _ us hl => match us, hl with | [_, _], _ => rfl
  refine F.ok sc_com (fun vs H Q E h => ?_) (fun cdv A outer s H vs Q E hr h => ?_)
  · obtain ⟨x, y, rfl, _⟩ := h
    rfl
  · obtain ⟨x, y, rfl, k⟩ := h
    refine ⟨_, PSs.nox (pss_cons (ps_if (pt_val (pe_call GW hr (by rfl) (T.df "is_within" iWithin) FW.kp BW .nil pass0 (pa_cons (pv 0) (pa_cons (pv 1) pa_nil)))) (pss_one (ps_ret (pv 0))) pss_nil) (pss_one (ps_ret (pe_ifExp (pt_val (pe_call GW hr (by rfl) (T.df "is_within" iWithin) FW.kp BW .nil pass0 (pa_cons (pv 1) (pa_cons (pv 0) pa_nil)))) (pv 1) pe_str)))), ?_⟩
    unfold comM at k
    refine ⟨_, rfl, _, rfl, x, y, rfl, _, rfl, ?_⟩
    refine ite2 (fun h => ?_) (fun h => ?_)
    · rw [if_pos h] at k
      exact ⟨_, rfl, k⟩
    · rw [if_neg h] at k
      refine ⟨_, rfl, _, rfl, y, x, rfl, _, rfl, ?_⟩
      refine ite2 (fun h2 => ?_) (fun h2 => ?_)
      · rw [if_pos h2] at k
        exact ⟨_, rfl, k⟩
      · rw [if_neg h2] at k
        exact k
/-! ### letter_mark -/
/-- the kind as a text -/
def kS (k : List Nat) : Str := ⟨k.toArray⟩
theorem kS_list {k : List Nat} : (kS k).cps.toList = k := by simp [kS]
theorem kS_pl {k : List Nat} : decide (V.str (kS k) = V.str "plane") = decide (k = PL) := by
  apply decide_eq_decide.mpr
  constructor
  · intro h
    injection h with h
    have := congrArg (fun s : Str => s.cps.toList) h
    simp [kS] at this
    exact this
  · rintro rfl
    rfl
def spLet : Sp := fun vs H Q _ => ∃ (c : Nat) (k : List Nat), vs = [.str (one c), .str (kS k)] ∧ Q (.str (one (letM c k))) H
theorem sc_let : FnScope ["hand", "kind"] ["hand", "kind"] (defScope (top iLetM)) := ⟨rfl, rfl, rfl, by decide +kernel, rfl, by decide +kernel, by decide +kernel⟩
theorem ok_let (F : FnP K "letter_mark" iLetM f fd) (T : Txt K mg) : FnOk P w K mg base CX0 1 f fd ["hand", "kind"] spLet := by
  obtain ⟨tm, hm⟩ := T.plane
  refine F.ok sc_let (fun vs H Q E h => ?_) (fun cdv A outer s H vs Q E hr h => ?_)
  · obtain ⟨c, k, rfl, _⟩ := h
    rfl
  · obtain ⟨c, k, rfl, q⟩ := h
    refine ⟨_, PSs.nox (pss_cons (ps_if (pt_cmpR op_eq (pv 1) (pe_glob (v := .str "plane") (by rfl) hm ⟨tm, rfl⟩) (nomark _)) (pss_one (ps_ret (pv 0))) pss_nil) (pss_one (ps_ret (pe_ifExp (pt_cmpR op_in_sign (pv 0) (pv 1) (by rfl)) pe_str pe_str)))), ?_⟩
    unfold letM at q
    refine ⟨_, rfl, rfl, _, rfl, ?_⟩
    rw [kS_pl]
    refine ite2 (fun h => ?_) (fun h => ?_)
    · have h' := of_decide_eq_true h
      rw [if_pos h'] at q
      exact ⟨_, rfl, q⟩
    · have h' : k ≠ PL := fun e => h (decide_eq_true e)
      rw [if_neg h'] at q
      refine ⟨_, rfl, _, rfl, c, _, rfl, rfl, _, rfl, ?_⟩
      rw [kS_list]
      refine ite2 (fun h2 => ?_) (fun h2 => ?_)
      · rw [if_pos (of_decide_eq_true h2)] at q
        exact q
      · rw [if_neg (fun e => h2 (decide_eq_true e))] at q
        exact q
end
end KM

set_option Elab.async false
set_option linter.all false
set_option maxRecDepth 100000
set_option maxHeartbeats 4000000
/-! # classes.py: mark -/
namespace KM
open PySem PySem.Spec PyProof.Rows L2 VX KW
section
variable {P : Program} {w : World} {K : PySem.W.Frag} {mg : Str → Option Value} {base : Heap} {f : Addr} {fd : FuncData}
theorem in_hands (c : Nat) : inV (V.str (one c)) [V.str "a", V.str "b", V.str "c"] = hand c := by
  show ((one 97 == one c) || ((one 98 == one c) || ((one 99 == one c) || false))) = _
  simp only [beq_one, hand, Bool.or_false, Bool.or_assoc]
/-- the defs that mark reaches -/
structure Mkf (K : PySem.W.Frag) (fdW fdS fdC fdL fdg fdp : FuncData) : Prop where
  fw : FnP K "is_within" iWithin (He.ga K "is_within") fdW
  fs : FnP K "sum_mark" iSumM (He.ga K "sum_mark") fdS
  fc : FnP K "common_mark" iComM (He.ga K "common_mark") fdC
  fl : FnP K "letter_mark" iLetM (He.ga K "letter_mark") fdL
  fg : FunD K "sign" "Word.sign" (defArgs sSg) (defBody sSg) (defScope sSg) [] [] (propG K "sign") fdg
  fp : FunD K "parts" "Word.parts" (defArgs sPa) (defBody sPa) (defScope sPa) [] [] (propG K "parts") fdp
def spMark (K : PySem.W.Frag) (n : Nat) : Sp := fun vs H Q _ => ∃ (x : Addr) (t : Tr) (k : List Nat), vs = [.ref x, .str (kS k)] ∧ IsTr K H x t ∧ dep t ≤ n ∧ ∀ H', Same H H' → Q (.str (one (mk k t))) H'
def spMarkL (K : PySem.W.Frag) : Nat → Sp
  | 0 => fun _ _ _ _ => False
  | n + 1 => spMark K n
abbrev nM : List Str := ["word", "kind", "first", "second", "part"]
theorem sc_mark : FnScope nM ["word", "kind"] (defScope (top iMark)) := ⟨rfl, rfl, rfl, by decide +kernel, rfl, by decide +kernel, by decide +kernel⟩
theorem ok_mark1 {fdW fdS fdC fdL fdg fdp : FuncData} (F : FnP K "mark" iMark (He.ga K "mark") fd) (T : Txt K mg) (Z : Mkf K fdW fdS fdC fdL fdg fdp) (n : Nat) (GR : FnOk P w K mg base CX0 (3 + n) (He.ga K "mark") fd ["word", "kind"] (spMarkL K n)) :
    FnOk P w K mg base CX0 (4 + n) (He.ga K "mark") fd ["word", "kind"] (spMark K n) := by
  have BR : Binds K fd ["word", "kind"] [] := F.bindsN fun _ _ _ _ _ _ us hl => match us, hl with | [_, _], _ => rfl
  have GSg : FnOk P w K mg base CX0 1 _ fdg ["self"] (spGetS K) := ok_gets Z.fg T
  have BSg : Binds K fdg ["self"] [] := Z.fg.bindsN fun _ _ _ _ _ _ us hl => match us, hl with | [_], _ => rfl
  have GPa : FnOk P w K mg base CX0 1 _ fdp ["self"] (spGetP K) := ok_getp Z.fp T
  have BPa : Binds K fdp ["self"] [] := Z.fp.bindsN fun _ _ _ _ _ _ us hl => match us, hl with | [_], _ => rfl
  have GL : FnOk P w K mg base CX0 1 _ fdL ["hand", "kind"] spLet := ok_let Z.fl T
  have BL : Binds K fdL ["hand", "kind"] [] := Z.fl.bindsN fun _ _ _ _ _ _ us hl => match us, hl with | [_, _], _ => rfl
  have GS : FnOk P w K mg base CX0 2 _ fdS ["one", "other"] spSum := ok_sum Z.fs T Z.fw
  have BS : Binds K fdS ["one", "other"] [] := Z.fs.bindsN fun _ _ _ _ _ _ us hl => match us, hl with | [_, _], _ => rfl
  have GC : FnOk P w K mg base CX0 2 _ fdC ["one", "other"] spCom := ok_com Z.fc T Z.fw
  have BC : Binds K fdC ["one", "other"] [] := Z.fc.bindsN fun _ _ _ _ _ _ us hl => match us, hl with | [_, _], _ => rfl
  rw [show 4 + n = (3 + n) + 1 by omega]
  refine F.ok sc_mark (fun vs H Q E h => ?_) (fun cdv A outer s H vs Q E hr h => ?_)
  · obtain ⟨x, t, k, rfl, _⟩ := h
    rfl
  · obtain ⟨x, t, k, rfl, hx, hd, q⟩ := h
    have nd := sc_mark.nd
    have hr1 : Room 1 _ := hr.mono (by omega)
    have hr2 : Room 2 _ := hr.mono (by omega)
    refine ⟨_, PSs.nox (pss_cons (ps_if (pt_cmpR op_in_seq (pe_prop (pv 0) T.cls T.ps GSg hr2 BSg .nil pass0 rfl) (pe_glob (v := .ref (He.ga K "HANDS")) (by rfl) T.hands rfl) (by rfl)) (pss_one (ps_ret (pe_call GL hr1 (by rfl) (T.df "letter_mark" iLetM) Z.fl.kp BL .nil pass0 (pa_cons (pe_prop (pv 0) T.cls T.ps GSg hr2 BSg .nil pass0 rfl) (pa_cons (pv 1) pa_nil))))) pss_nil) (pss_cons (ps_if (pt_cmpR op_eq (pe_callB call_len_seq (by rfl) (T.fr "len") boot_len (pa_cons (pe_prop (pv 0) T.cls T.pp GPa hr2 BPa .nil pass0 rfl) pa_nil)) pe_int (nomark _)) (pss_one (ps_ret (pe_prop (pv 0) T.cls T.ps GSg hr2 BSg .nil pass0 rfl))) pss_nil) (pss_cons (ps_asg (pe_lc (own := [("part", 4)]) (g := gName 4) (by rfl) nd (pi_tup (pe_prop (pv 0) T.cls T.pp GPa hr2 BPa .nil pass0 rfl)) (blkOk_by (own := [("part", 4)]) (N := nM) (sc := defScope (top iMark)) (by decide +kernel)) (fun _ _ _ _ _ => pg_name (i := 4) nd rfl (Or.inl rfl)) (fun _ _ _ _ _ => pts_nil) (fun _ _ _ _ _ => pe_call GR hr (by rfl) (T.df "mark" iMark) F.kp BR .nil pass0 (pa_cons (pv 4) (pa_cons (pv 1) pa_nil)))) (pg_unl rfl (pgs_cons (pg_name (i := 2) nd rfl (.inl rfl)) (pgs_cons (pg_name (i := 3) nd rfl (.inl rfl)) pgs_nil)))) (pss_one (ps_ret (pe_ifExp (pt_cmpR op_eq (pe_prop (pv 0) T.cls T.ps GSg hr2 BSg .nil pass0 rfl) pe_str (nomark _)) (pe_call GS hr2 (by rfl) (T.df "sum_mark" iSumM) Z.fs.kp BS .nil pass0 (pa_cons (pv 2) (pa_cons (pv 3) pa_nil))) (pe_call GC hr2 (by rfl) (T.df "common_mark" iComM) Z.fc.kp BC .nil pass0 (pa_cons (pv 2) (pa_cons (pv 3) pa_nil))))))))), ?_⟩
    cases t with
    | lf c =>
      obtain ⟨hl, hw⟩ := hx
      obtain ⟨dx, a, h1, h2⟩ := id hw
      refine ⟨_, rfl, x, dx, _, rfl, h1, x, c, _, rfl, hw, _, _, rfl, .inr (T.htup _), rfl, rfl, _, rfl, ?_⟩
      simp only [Bool.false_eq_true, if_false, in_hands]
      simp only [mk] at q
      refine ite2 (fun hh => ?_) (fun hh => ?_)
      · rw [if_pos hh] at q
        exact ⟨_, rfl, x, dx, _, rfl, h1, x, c, _, rfl, hw, _, rfl, c, k, rfl, q _ (Same.refl _)⟩
      · rw [if_neg hh] at q
        refine ⟨_, rfl, x, dx, _, rfl, h1, x, c, _, rfl, hw, fun a2 ha2 => ⟨a2, _, rfl, .inr ha2, rfl, _, rfl, ?_⟩⟩
        exact iteT ⟨_, rfl, x, dx, _, rfl, h1, x, c, _, rfl, hw, q _ (Same.refl _)⟩
    | nd c l r =>
      obtain ⟨hj, y, z, hw, hy, hz⟩ := hx
      obtain ⟨dx, a, h1, h2⟩ := id hw
      have hnh : hand c = false := by rcases joint_two hj with rfl | rfl <;> rfl
      refine ⟨_, rfl, x, dx, _, rfl, h1, x, c, _, rfl, hw, _, _, rfl, .inr (T.htup _), rfl, rfl, _, rfl, ?_⟩
      simp only [Bool.false_eq_true, if_false, in_hands, hnh]
      refine ⟨_, rfl, x, dx, _, rfl, h1, x, c, _, rfl, hw, fun a2 ha2 => ⟨a2, _, rfl, .inr ha2, rfl, _, rfl, ?_⟩⟩
      refine iteF ?_
      simp only [dep] at hd
      obtain ⟨m, rfl⟩ : ∃ m, n = m + 1 := ⟨n - 1, by omega⟩
      refine ⟨_, rfl, x, dx, _, rfl, h1, x, c, _, rfl, hw, fun a3 ha3 => ⟨a3, rfl, ⟨_, ha3⟩, fun D hD => lc_it (walk_tup (K := K) (a := a3) (xs := [.ref y, .ref z])) (fun i H' => Same H H' ∧ H' D = some (.lst (([V.str (one (mk k l)), V.str (one (mk k r))] : List V).take i))) ⟨same_new hD, upd_same⟩ (fun i H' _ p => SqT.same p.1 ha3) ?_ ?_⟩⟩
      · rintro i v H1 H2 hi ⟨sm, hDl⟩ ⟨rfl, hv⟩
        refine ⟨rfl, yes_if ?_⟩
        have go : ∀ {u : Addr} {tt : Tr}, v = .ref u → IsTr K H2 u tt → dep tt ≤ m → ([V.str (one (mk k l)), V.str (one (mk k r))] : List V)[i]? = some (.str (one (mk k tt))) →
            spMarkL K (m + 1) [v, .str (kS k)] H2 (fun v H3 => ∃ acc, H3 D = some (.lst acc) ∧ acc.length < sizeLine ∧ Same H (upd H3 D (.lst (acc ++ [v]))) ∧ (upd H3 D (.lst (acc ++ [v]))) D = some (.lst (([V.str (one (mk k l)), V.str (one (mk k r))] : List V).take (i + 1)))) E0 := fun {u tt} e ht hdt hit => by
          subst e
          exact ⟨u, tt, k, rfl, ht, hdt, fun H3 s3 => ⟨_, s3 _ _ hDl, lt_line (Nat.le_trans (List.length_take_le' _ _) (by show 2 ≤ 100000; decide)), Same.grow (sm.trans s3) hD, by rw [upd_same, take_one hit]⟩⟩
        have hi' : i = 0 ∨ i = 1 := by have : i < 2 := hi; omega
        rcases hi' with rfl | rfl
        · exact ⟨_, rfl, _, rfl, go (Option.some.inj hv).symm (hy.same sm) (by omega) rfl⟩
        · exact ⟨_, rfl, _, rfl, go (Option.some.inj hv).symm (hz.same sm) (by omega) rfl⟩
      · rintro H1 ⟨sm, hDl⟩
        refine ⟨D, _, rfl, SqL.of hDl, rfl, _, _, rfl, _, _, rfl, rfl, ?_⟩
        have w1 := hw.same sm
        obtain ⟨dx1, a1, g1, g2⟩ := id w1
        refine ⟨_, rfl, x, dx1, _, rfl, g1, x, c, _, rfl, w1, rfl, _, rfl, ?_⟩
        rw [show decide (V.str (one c) = V.str "+") = (c == 43) from dec_one]
        have q1 := q _ sm
        simp only [mk] at q1
        refine ite2 (fun h => ?_) (fun h => ?_)
        · rw [if_pos (by simpa using h)] at q1
          exact ⟨_, rfl, _, rfl, _, _, rfl, q1⟩
        · rw [if_neg (by simpa using h)] at q1
          exact ⟨_, rfl, _, rfl, _, _, rfl, q1⟩
theorem ok_mark {fdW fdS fdC fdL fdg fdp : FuncData} (F : FnP K "mark" iMark (He.ga K "mark") fd) (T : Txt K mg) (Z : Mkf K fdW fdS fdC fdL fdg fdp) : ∀ n, FnOk P w K mg base CX0 (4 + n) (He.ga K "mark") fd ["word", "kind"] (spMark K n) := by
  intro n
  induction n with
  | zero => exact ok_mark1 F T Z 0 ⟨fun _ _ _ _ h => h.elim, fun _ _ _ _ _ _ _ _ _ _ _ _ _ h => h.elim⟩
  | succ n ih => exact ok_mark1 F T Z (n + 1) (by rw [show 3 + (n + 1) = 4 + n by omega]; exact ih)
end
end KM

set_option Elab.async false
set_option linter.all false
set_option maxRecDepth 100000
set_option maxHeartbeats 4000000
/-! # classes.py: marks -/
namespace KM
open PySem PySem.Spec PyProof.Rows L2 VX KW
section
variable {P : Program} {w : World} {K : PySem.W.Frag} {mg : Str → Option Value} {base : Heap} {f : Addr} {fd : FuncData}
def dictK (g : List Nat → V) : List (Key × V) := kinds.map fun k => (Sum.inr (kS k), g k)
theorem dictK_put (g : List Nat → V) {i : Nat} {k : List Nat} (h : kinds[i]? = some k) : putK ((dictK g).take i) (Sum.inr (kS k)) (g k) = (dictK g).take (i + 1) := by
  match i, h with
  | 0, h => cases h; rfl
  | 1, h => cases h; rfl
  | 2, h => cases h; rfl
  | 3, h => cases h; rfl
  | 4, h => cases h; rfl
  | 5, h => cases h; rfl
  | 6, h => cases h; rfl
  | 7, h => cases h; rfl
  | 8, h => cases h; rfl
  | i + 9, h => exact absurd h (by simp [kinds])
theorem dictK_get (g : List Nat → V) {i : Nat} {k : List Nat} (h : kinds[i]? = some k) : valV (dictK g) (Sum.inr (kS k)) = some (g k) := by
  match i, h with
  | 0, h => cases h; rfl
  | 1, h => cases h; rfl
  | 2, h => cases h; rfl
  | 3, h => cases h; rfl
  | 4, h => cases h; rfl
  | 5, h => cases h; rfl
  | 6, h => cases h; rfl
  | 7, h => cases h; rfl
  | 8, h => cases h; rfl
  | i + 9, h => exact absurd h (by simp [kinds])
theorem kind_at {i : Nat} {v : V} (h : kindV[i]? = some v) : ∃ k, kinds[i]? = some k ∧ v = .str (kS k) := by
  match i, h with
  | 0, h => cases h; exact ⟨_, rfl, rfl⟩
  | 1, h => cases h; exact ⟨_, rfl, rfl⟩
  | 2, h => cases h; exact ⟨_, rfl, rfl⟩
  | 3, h => cases h; exact ⟨_, rfl, rfl⟩
  | 4, h => cases h; exact ⟨_, rfl, rfl⟩
  | 5, h => cases h; exact ⟨_, rfl, rfl⟩
  | 6, h => cases h; exact ⟨_, rfl, rfl⟩
  | 7, h => cases h; exact ⟨_, rfl, rfl⟩
  | 8, h => cases h; exact ⟨_, rfl, rfl⟩
  | i + 9, h => exact absurd h (by simp [kindV])
theorem it0 : PySem.intText? (one 48) = some 0 := by decide +kernel
theorem it1 : PySem.intText? (one 49) = some 1 := by decide +kernel
def markV (t : Tr) (k : List Nat) : V := if k = PL then .str (one (mk k t)) else .int ((mk k t : Int) - 48)
def spMarks (K : PySem.W.Frag) : Sp := fun vs H Q _ => ∃ (x : Addr) (t : Tr), vs = [.ref x] ∧ IsTr K H x t ∧ dep t ≤ 20 ∧ ∀ H' d, Same H H' → H d = none → H' d = some (.dK (dictK (markV t))) → Q (.ref d) H'
abbrev nMs : List Str := ["word", "told", "kind"]
theorem sc_marks : FnScope nMs ["word"] (defScope (top iMarks)) := ⟨rfl, rfl, rfl, by decide +kernel, rfl, by decide +kernel, by decide +kernel⟩
theorem ok_marks {fdM fdW fdS fdC fdL fdg fdp : FuncData} (F : FnP K "marks" iMarks f fd) (T : Txt K mg) (FM : FnP K "mark" iMark (He.ga K "mark") fdM) (Z : Mkf K fdW fdS fdC fdL fdg fdp) : FnOk P w K mg base CX0 25 f fd ["word"] (spMarks K) := by
  have GM : FnOk P w K mg base CX0 24 _ fdM ["word", "kind"] (spMark K 20) := ok_mark FM T Z 20
  have BM : Binds K fdM ["word", "kind"] [] := FM.bindsN fun _ _ _ _ _ _ us hl => match us, hl with | [_, _], _ => rfl
  obtain ⟨tm, hm⟩ := T.plane
  refine F.ok sc_marks (fun vs H Q E h => ?_) (fun cdv A outer s H vs Q E hr h => ?_)
  · obtain ⟨x, t, rfl, _⟩ := h
    rfl
  · obtain ⟨x, t, rfl, hx, hd, q⟩ := h
    have nd := sc_marks.nd
    have hu := hu_of hr
    have hwf := hx.wf
    refine ⟨_, PSs.nox (pss_cons (ps_set (i := 1) nd rfl (.inr rfl) (pe_dc (own := [("kind", 2)]) (g := gName 2) (tt := tYes) rfl nd (pi_tup (pe_glob (v := .ref (He.ga K "KINDS")) (by rfl) T.kinds rfl)) (blkOk_by (own := [("kind", 2)]) (N := nMs) (sc := defScope (top iMarks)) (by decide +kernel)) (fun _ _ _ _ _ => pg_name (i := 2) nd rfl (Or.inl rfl)) (fun _ _ _ _ _ => pts_nil) (fun _ _ _ _ _ => pv 2) (fun _ _ _ _ _ => pe_call GM hr (by rfl) (T.df "mark" iMark) FM.kp BM .nil pass0 (pa_cons (pv 0) (pa_cons (pv 2) pa_nil))))) (pss_one (ps_ret (pe_dc (own := [("kind", 2)]) (g := gName 2) (tt := tYes) rfl nd (pi_tup (pe_glob (v := .ref (He.ga K "KINDS")) (by rfl) T.kinds rfl)) (blkOk_by (own := [("kind", 2)]) (N := nMs) (sc := defScope (top iMarks)) (by decide +kernel)) (fun _ _ _ _ _ => pg_name (i := 2) nd rfl (Or.inl rfl)) (fun _ _ _ _ _ => pts_nil) (fun _ _ _ _ _ => pv 2) (fun _ _ _ _ _ => pe_ifExp (pt_cmpR op_eq (pv 2) (pe_glob (v := .str "plane") (by rfl) hm ⟨tm, rfl⟩) (nomark _)) (pe_dget hu (pv 1) (pv 2) (fun _ _ => rfl)) (pe_callTy call_int_str (by rfl) (T.fr "int") (by decide +kernel) (pa_cons (pe_dget hu (pv 1) (pv 2) (fun _ _ => rfl)) pa_nil))))))), ?_⟩
    refine ⟨_, rfl, ⟨_, T.ktup _⟩, fun D hD => dc_tup (K := K) (xs := kindV) (fun i H' => Same H H' ∧ H' D = some (.dK ((dictK fun k => .str (one (mk k t))).take i))) ⟨same_new hD, upd_same⟩ (fun i H' _ _ => T.ktup H') ?_ ?_⟩
    · rintro i v H1 hv ⟨sm, hDl⟩
      obtain ⟨k, hk, rfl⟩ := kind_at hv
      refine ⟨rfl, yes_if ?_⟩
      refine ⟨_, rfl, _, rfl, _, rfl, x, t, k, rfl, hx.same sm, hd, fun H2 s2 => ⟨_, Sum.inr (kS k), rfl, s2 _ _ hDl, lt_line (Nat.le_trans (List.length_take_le' _ _) (by show 9 ≤ 100000; decide)), Same.grow (sm.trans s2) hD, ?_⟩⟩
      rw [upd_same, dictK_put (fun k => .str (one (mk k t))) hk]
    · rintro H1 ⟨sm, hDl⟩
      have hDl : H1 D = some (.dK (dictK fun k => .str (one (mk k t)))) := hDl
      refine ⟨_, rfl, ⟨_, T.ktup _⟩, fun D2 hD2 => dc_tup (K := K) (xs := kindV) (fun i H' => Same H1 H' ∧ H' D2 = some (.dK ((dictK (markV t)).take i))) ⟨same_new hD2, upd_same⟩ (fun i H' _ _ => T.ktup H') ?_ ?_⟩
      · rintro i v H2 hv ⟨sm2, hDl2⟩
        obtain ⟨k, hk, rfl⟩ := kind_at hv
        refine ⟨rfl, yes_if ?_⟩
        have fin : ∃ kvs ky, V.str (kS k) = kV ky ∧ H2 D2 = some (.dK kvs) ∧ kvs.length < sizeLine ∧ Same H1 (upd H2 D2 (.dK (putK kvs ky (markV t k)))) ∧ (upd H2 D2 (.dK (putK kvs ky (markV t k)))) D2 = some (.dK ((dictK (markV t)).take (i + 1))) :=
          ⟨_, Sum.inr (kS k), rfl, hDl2, lt_line (Nat.le_trans (List.length_take_le' _ _) (by show 9 ≤ 100000; decide)), Same.grow sm2 hD2, by rw [upd_same, dictK_put (markV t) hk]⟩
        have get : DGet H2 D (.str (kS k)) (some (.str (one (mk k t)))) := by
          have := DGet.k (k := Sum.inr (kS k)) (sm2 _ _ hDl)
          rw [dictK_get (fun k => .str (one (mk k t))) hk] at this
          exact this
        refine ⟨_, rfl, _, rfl, rfl, _, rfl, ?_⟩
        rw [kS_pl]
        unfold markV at fin
        refine ite2 (fun h => ?_) (fun h => ?_)
        · rw [if_pos (of_decide_eq_true h)] at fin
          exact ⟨_, rfl, _, rfl, D, _, rfl, get, fin⟩
        · have h' : k ≠ PL := fun e => h (decide_eq_true e)
          rw [if_neg h'] at fin
          obtain ⟨b1, _⟩ := li_mk h' hwf
          refine ⟨_, rfl, _, rfl, D, _, rfl, get, _, (mk k t : Int) - 48, rfl, ?_, ?_, fin⟩
          · rcases b1 with e | e
            · rw [e]; exact it0
            · rw [e]; exact it1
          · show 1 ≤ 640; decide
      · rintro H2 ⟨sm2, hDl2⟩
        have hD0 : H D2 = none := sm.free hD2
        exact q _ _ (sm.trans sm2) hD0 hDl2
end
end KM

set_option Elab.async false
set_option linter.all false
set_option maxRecDepth 100000
set_option maxHeartbeats 4000000
/-! # classes.py: parting, breach, same, below -/
namespace KM
open PySem PySem.Spec PyProof.Rows L2 VX KW
section
variable {P : Program} {w : World} {K : PySem.W.Frag} {mg : Str → Option Value} {base : Heap} {f : Addr} {fd : FuncData}
def optV : Option (List Nat) → V
  | none => .non
  | some k => .str (kS k)
def spFind (K : PySem.W.Frag) (g : Tr → Tr → Option (List Nat)) : Sp := fun vs H Q _ => ∃ (x y : Addr) (s t : Tr), vs = [.ref x, .ref y] ∧ IsTr K H x s ∧ IsTr K H y t ∧ dep s ≤ 20 ∧ dep t ≤ 20 ∧ ∀ H', Same H H' → Q (optV (g s t)) H'
def spBool (K : PySem.W.Frag) (g : Tr → Tr → Option (List Nat)) : Sp := fun vs H Q _ => ∃ (x y : Addr) (s t : Tr), vs = [.ref x, .ref y] ∧ IsTr K H x s ∧ IsTr K H y t ∧ dep s ≤ 20 ∧ dep t ≤ 20 ∧ ∀ H', Same H H' → Q (.bl (decide (g s t = none))) H'
theorem find_no {p : List Nat → Bool} (h : ∀ (i : Nat) (k : List Nat), kinds[i]? = some k → p k = false) : kinds.find? p = none := by
  rw [List.find?_eq_none]
  intro k hk
  obtain ⟨i, hi⟩ := List.mem_iff_getElem?.mp hk
  rw [h i k hi]
  simp
theorem find_at {p : List Nat → Bool} {i : Nat} {k : List Nat} (hk : kinds[i]? = some k) (h : p k = true) (hn : ∀ j, j < i → ∀ (k : List Nat), kinds[j]? = some k → p k = false) : kinds.find? p = some k := by
  rw [List.find?_eq_some_iff_append]
  obtain ⟨hi, e⟩ := List.getElem?_eq_some_iff.mp hk
  refine ⟨h, kinds.take i, kinds.drop (i + 1), ?_, fun x hx => ?_⟩
  · conv => lhs; rw [← List.take_append_drop i kinds]
    rw [List.drop_eq_getElem_cons hi, e]
  · obtain ⟨j, hj⟩ := List.mem_iff_getElem?.mp hx
    rw [List.getElem?_take] at hj
    by_cases c : j < i
    · rw [if_pos c] at hj
      rw [hn j c x hj]
      rfl
    · rw [if_neg c] at hj
      cases hj
theorem sc_parting : FnScope ["one", "other", "kind"] ["one", "other"] (defScope (top iParting)) := ⟨rfl, rfl, rfl, by decide +kernel, rfl, by decide +kernel, by decide +kernel⟩
theorem ok_parting {fdM fdW fdS fdC fdL fdg fdp : FuncData} (F : FnP K "parting" iParting f fd) (T : Txt K mg) (FM : FnP K "mark" iMark (He.ga K "mark") fdM) (Z : Mkf K fdW fdS fdC fdL fdg fdp) : FnOk P w K mg base CX0 25 f fd ["one", "other"] (spFind K partK) := by
  have GM : FnOk P w K mg base CX0 24 _ fdM ["word", "kind"] (spMark K 20) := ok_mark FM T Z 20
  have BM : Binds K fdM ["word", "kind"] [] := FM.bindsN fun _ _ _ _ _ _ us hl => match us, hl with | [_, _], _ => rfl
  have GW : FnOk P w K mg base CX0 1 _ fdW ["one", "other"] spWithin := ok_within Z.fw T
  have BW : Binds K fdW ["one", "other"] [] := Z.fw.bindsN fun _ _ _ _ _ _ us hl => match us, hl with | [_, _], _ => rfl
  refine F.ok sc_parting (fun vs H Q E h => ?_) (fun cdv A outer s H vs Q E hr h => ?_)
  · obtain ⟨x, y, s, t, rfl, _⟩ := h
    rfl
  · obtain ⟨x, y, s', t, rfl, hx, hy, hds, hdt, q⟩ := h
    have nd := sc_parting.nd
    have hr1 : Room 1 _ := hr.mono (by decide)
    refine ⟨_, PSs.nox (pss_cons (ps_for PassesOwn.never rfl (pi_tup (pe_glob (v := .ref (He.ga K "KINDS")) (by rfl) T.kinds rfl)) (pg_name (i := 2) nd rfl (.inl rfl)) (pss_one (ps_if (pt_cmpR op_ne (pe_call GM hr (by rfl) (T.df "mark" iMark) FM.kp BM .nil pass0 (pa_cons (pv 0) (pa_cons (pv 2) pa_nil))) (pe_call GM hr (by rfl) (T.df "mark" iMark) FM.kp BM .nil pass0 (pa_cons (pv 1) (pa_cons (pv 2) pa_nil))) (nomark _)) (pss_one (ps_ret (pv 2))) pss_nil))) (pss_one (ps_ret pe_non))), ?_⟩
    refine ⟨_, rfl, ⟨_, T.ktup _⟩, for_it (walk_tup (K := K) (a := He.ga K "KINDS") (xs := kindV)) (fun i σ H' => (∃ y3, σ = [some (V.ref x), some (V.ref y), y3]) ∧ Same H H' ∧ ∀ j, j < i → ∀ k, kinds[j]? = some k → (fun k => mk k s' != mk k t) k = false) ⟨⟨none, rfl⟩, Same.refl _, fun j hj => absurd hj (Nat.not_lt_zero j)⟩ (fun _ _ H' _ _ => T.ktup H') ?_ ?_⟩
    · rintro i v σ H1 H2' hi ⟨⟨y3, rfl⟩, sm, hn⟩ ⟨rfl, hv⟩
      obtain ⟨k, hk, rfl⟩ := kind_at hv
      refine ⟨_, rfl, _, rfl, x, s', k, rfl, hx.same sm, hds, fun H2 s2 => ⟨_, rfl, _, rfl, y, t, k, rfl, (hy.same sm).same s2, hdt, fun H3 s3 => ?_⟩⟩
      have sm3 := (sm.trans s2).trans s3
      refine ⟨rfl, _, rfl, ?_⟩
      rw [show decide (V.str (one (mk k s')) = V.str (one (mk k t))) = (mk k s' == mk k t) from dec_one]
      cases hb : (mk k s' == mk k t) with
      | false =>
        refine iteT ⟨_, rfl, ?_⟩
        have e : partK s' t = some k := find_at hk (by show (mk k s' != mk k t) = true; rw [bne, hb]; rfl) hn
        rw [e] at q
        exact q _ sm3
      | true =>
        refine iteF ⟨⟨_, rfl⟩, sm3, fun j hj k2 hk2 => ?_⟩
        by_cases e : j = i
        · subst e
          rw [hk] at hk2
          cases hk2
          show (mk k s' != mk k t) = false
          rw [bne, hb]
          rfl
        · exact hn j (by omega) k2 hk2
    · rintro σ H1 ⟨⟨y3, rfl⟩, sm, hn⟩
      have e : partK s' t = none := find_no fun i k hk => hn i (by
        obtain ⟨hi, _⟩ := List.getElem?_eq_some_iff.mp hk
        exact hi) k hk
      rw [e] at q
      exact q _ sm
def spWon (K : PySem.W.Frag) : Sp := fun vs H Q _ => ∃ (x y : Addr) (s t : Tr) (k : List Nat), vs = [.ref x, .ref y, .str (kS k)] ∧ IsTr K H x s ∧ IsTr K H y t ∧ dep s ≤ 20 ∧ dep t ≤ 20 ∧ ∀ H', Same H H' → Q (.bl (isW (mk k s) (mk k t))) H'
theorem sc_won : FnScope ["one", "other", "kind"] ["one", "other", "kind"] (defScope (top iWon)) := ⟨rfl, rfl, rfl, by decide +kernel, rfl, by decide +kernel, by decide +kernel⟩
theorem ok_won {fdM fdW fdS fdC fdL fdg fdp : FuncData} (F : FnP K "within_on" iWon f fd) (T : Txt K mg) (FM : FnP K "mark" iMark (He.ga K "mark") fdM) (Z : Mkf K fdW fdS fdC fdL fdg fdp) : FnOk P w K mg base CX0 25 f fd ["one", "other", "kind"] (spWon K) := by
  have GM : FnOk P w K mg base CX0 24 _ fdM ["word", "kind"] (spMark K 20) := ok_mark FM T Z 20
  have BM : Binds K fdM ["word", "kind"] [] := FM.bindsN fun _ _ _ _ _ _ us hl => match us, hl with | [_, _], _ => rfl
  have GW : FnOk P w K mg base CX0 1 _ fdW ["one", "other"] spWithin := ok_within Z.fw T
  have BW : Binds K fdW ["one", "other"] [] := Z.fw.bindsN fun _ _ _ _ _ _ us hl => match us, hl with | [_, _], _ => rfl
  refine F.ok sc_won (fun vs H Q E h => ?_) (fun cdv A outer s H vs Q E hr h => ?_)
  · obtain ⟨x, y, s, t, k, rfl, _⟩ := h
    rfl
  · obtain ⟨x, y, s', t, k, rfl, hx, hy, hds, hdt, q⟩ := h
    have hr1 : Room 1 _ := hr.mono (by decide)
    refine ⟨_, PSs.nox (pss_one (ps_ret (pe_call GW hr1 (by rfl) (T.df "is_within" iWithin) Z.fw.kp BW .nil pass0 (pa_cons (pe_call GM hr (by rfl) (T.df "mark" iMark) FM.kp BM .nil pass0 (pa_cons (pv 0) (pa_cons (pv 2) pa_nil))) (pa_cons (pe_call GM hr (by rfl) (T.df "mark" iMark) FM.kp BM .nil pass0 (pa_cons (pv 1) (pa_cons (pv 2) pa_nil))) pa_nil))))), ?_⟩
    exact ⟨_, rfl, _, rfl, x, s', k, rfl, hx, hds, fun H2 s2 => ⟨_, rfl, _, rfl, y, t, k, rfl, hy.same s2, hdt, fun H3 s3 => ⟨mk k s', mk k t, rfl, q _ (s2.trans s3)⟩⟩⟩
theorem sc_breach : FnScope ["one", "other", "kind"] ["one", "other"] (defScope (top iBreach)) := ⟨rfl, rfl, rfl, by decide +kernel, rfl, by decide +kernel, by decide +kernel⟩
theorem ok_breach {fdN fdM fdW fdS fdC fdL fdg fdp : FuncData} (F : FnP K "breach" iBreach f fd) (T : Txt K mg) (FN : FnP K "within_on" iWon (He.ga K "within_on") fdN) (FM : FnP K "mark" iMark (He.ga K "mark") fdM) (Z : Mkf K fdW fdS fdC fdL fdg fdp) : FnOk P w K mg base CX0 26 f fd ["one", "other"] (spFind K gapK) := by
  have GN : FnOk P w K mg base CX0 25 _ fdN ["one", "other", "kind"] (spWon K) := ok_won FN T FM Z
  have BN : Binds K fdN ["one", "other", "kind"] [] := FN.bindsN fun _ _ _ _ _ _ us hl => match us, hl with | [_, _, _], _ => rfl
  refine F.ok sc_breach (fun vs H Q E h => ?_) (fun cdv A outer s H vs Q E hr h => ?_)
  · obtain ⟨x, y, s, t, rfl, _⟩ := h
    rfl
  · obtain ⟨x, y, s', t, rfl, hx, hy, hds, hdt, q⟩ := h
    have nd := sc_breach.nd
    refine ⟨_, PSs.nox (pss_cons (ps_for PassesOwn.never rfl (pi_tup (pe_glob (v := .ref (He.ga K "KINDS")) (by rfl) T.kinds rfl)) (pg_name (i := 2) nd rfl (.inl rfl)) (pss_one (ps_if (pt_not (pt_val (pe_call GN hr (by rfl) (T.df "within_on" iWon) FN.kp BN .nil pass0 (pa_cons (pv 0) (pa_cons (pv 1) (pa_cons (pv 2) pa_nil)))))) (pss_one (ps_ret (pv 2))) pss_nil))) (pss_one (ps_ret pe_non))), ?_⟩
    refine ⟨_, rfl, ⟨_, T.ktup _⟩, for_it (walk_tup (K := K) (a := He.ga K "KINDS") (xs := kindV)) (fun i σ H' => (∃ y3, σ = [some (V.ref x), some (V.ref y), y3]) ∧ Same H H' ∧ ∀ j, j < i → ∀ k, kinds[j]? = some k → (fun k => !isW (mk k s') (mk k t)) k = false) ⟨⟨none, rfl⟩, Same.refl _, fun j hj => absurd hj (Nat.not_lt_zero j)⟩ (fun _ _ H' _ _ => T.ktup H') ?_ ?_⟩
    · rintro i v σ H1 H2' hi ⟨⟨y3, rfl⟩, sm, hn⟩ ⟨rfl, hv⟩
      obtain ⟨k, hk, rfl⟩ := kind_at hv
      refine ⟨_, rfl, _, rfl, _, rfl, x, y, s', t, k, rfl, hx.same sm, hy.same sm, hds, hdt, fun H2 s2 => ?_⟩
      have sm3 := sm.trans s2
      refine ⟨_, rfl, ?_⟩
      cases hb : isW (mk k s') (mk k t) with
      | false =>
        refine iteT ⟨_, rfl, ?_⟩
        have e : gapK s' t = some k := find_at hk (by show (!isW (mk k s') (mk k t)) = true; rw [hb]; rfl) hn
        rw [e] at q
        exact q _ sm3
      | true =>
        refine iteF ⟨⟨_, rfl⟩, sm3, fun j hj k2 hk2 => ?_⟩
        by_cases e : j = i
        · subst e
          rw [hk] at hk2
          cases hk2
          show (!isW (mk k s') (mk k t)) = false
          rw [hb]
          rfl
        · exact hn j (by omega) k2 hk2
    · rintro σ H1 ⟨⟨y3, rfl⟩, sm, hn⟩
      have e : gapK s' t = none := find_no fun i k hk => hn i (by
        obtain ⟨hi, _⟩ := List.getElem?_eq_some_iff.mp hk
        exact hi) k hk
      rw [e] at q
      exact q _ sm
theorem sc_same : FnScope ["one", "other"] ["one", "other"] (defScope (top iSame)) := ⟨rfl, rfl, rfl, by decide +kernel, rfl, by decide +kernel, by decide +kernel⟩
theorem ok_same {fdF fdM fdW fdS fdC fdL fdg fdp : FuncData} (F : FnP K "same" iSame f fd) (T : Txt K mg) (FF : FnP K "parting" iParting (He.ga K "parting") fdF) (FM : FnP K "mark" iMark (He.ga K "mark") fdM) (Z : Mkf K fdW fdS fdC fdL fdg fdp) : FnOk P w K mg base CX0 26 f fd ["one", "other"] (spBool K partK) := by
  have GF : FnOk P w K mg base CX0 25 _ fdF ["one", "other"] (spFind K partK) := ok_parting FF T FM Z
  have BF : Binds K fdF ["one", "other"] [] := FF.bindsN fun _ _ _ _ _ _ us hl => match us, hl with | [_, _], _ => rfl
  refine F.ok sc_same (fun vs H Q E h => ?_) (fun cdv A outer s H vs Q E hr h => ?_)
  · obtain ⟨x, y, s, t, rfl, _⟩ := h
    rfl
  · obtain ⟨x, y, s', t, rfl, hx, hy, hds, hdt, q⟩ := h
    refine ⟨_, PSs.nox (pss_one (ps_ret (pe_cmpR op_isN (pe_call GF hr (by rfl) (T.df "parting" iParting) FF.kp BF .nil pass0 (pa_cons (pv 0) (pa_cons (pv 1) pa_nil))) pe_non (nomark _)))), ?_⟩
    refine ⟨_, rfl, _, rfl, x, y, s', t, rfl, hx, hy, hds, hdt, fun H1 s1 => ⟨rfl, ?_⟩⟩
    have q1 := q H1 s1
    cases hg : partK s' t with
    | none => rw [hg] at q1; exact q1
    | some k => rw [hg] at q1; exact q1
theorem sc_below : FnScope ["one", "other"] ["one", "other"] (defScope (top iBelow)) := ⟨rfl, rfl, rfl, by decide +kernel, rfl, by decide +kernel, by decide +kernel⟩
theorem ok_below {fdF fdN fdM fdW fdS fdC fdL fdg fdp : FuncData} (F : FnP K "below" iBelow f fd) (T : Txt K mg) (FF : FnP K "breach" iBreach (He.ga K "breach") fdF) (FN : FnP K "within_on" iWon (He.ga K "within_on") fdN) (FM : FnP K "mark" iMark (He.ga K "mark") fdM) (Z : Mkf K fdW fdS fdC fdL fdg fdp) : FnOk P w K mg base CX0 27 f fd ["one", "other"] (spBool K gapK) := by
  have GF : FnOk P w K mg base CX0 26 _ fdF ["one", "other"] (spFind K gapK) := ok_breach FF T FN FM Z
  have BF : Binds K fdF ["one", "other"] [] := FF.bindsN fun _ _ _ _ _ _ us hl => match us, hl with | [_, _], _ => rfl
  refine F.ok sc_below (fun vs H Q E h => ?_) (fun cdv A outer s H vs Q E hr h => ?_)
  · obtain ⟨x, y, s, t, rfl, _⟩ := h
    rfl
  · obtain ⟨x, y, s', t, rfl, hx, hy, hds, hdt, q⟩ := h
    refine ⟨_, PSs.nox (pss_one (ps_ret (pe_cmpR op_isN (pe_call GF hr (by rfl) (T.df "breach" iBreach) FF.kp BF .nil pass0 (pa_cons (pv 0) (pa_cons (pv 1) pa_nil))) pe_non (nomark _)))), ?_⟩
    refine ⟨_, rfl, _, rfl, x, y, s', t, rfl, hx, hy, hds, hdt, fun H1 s1 => ⟨rfl, ?_⟩⟩
    have q1 := q H1 s1
    cases hg : gapK s' t with
    | none => rw [hg] at q1; exact q1
    | some k => rw [hg] at q1; exact q1
end
end KM

set_option Elab.async false
set_option linter.all false
set_option maxRecDepth 100000
set_option maxHeartbeats 4000000
/-! # the draws, trees -/
namespace KM
open PySem PySem.Spec PyProof.Rows L2 VX KW
section
variable {P : Program} {w : World} {K : PySem.W.Frag} {mg : Str → Option Value} {base : Heap} {f : Addr} {fd : FuncData}
theorem sc_cell : FnScope ["_law_script", "_law_k"] ["_law_script", "_law_k"] (defScope (top iCell)) := ⟨rfl, rfl, rfl, by decide +kernel, rfl, by decide +kernel, by decide +kernel⟩
theorem ok_cell (F : FnP K "_law_cell" iCell f fd) (T : Txt K mg) : FnOk P w K mg base CX0 1 f fd ["_law_script", "_law_k"] (spCell K) := by
  refine F.ok sc_cell (fun vs H Q E h => ?_) (fun cdv A outer s H vs Q E hr h => ⟨tCellE K, PSs.nox ?_, cellE_run h⟩)
  · obtain ⟨l, ns, j, rfl, _⟩ := h
    rfl
  · exact pss_one (ps_ret (pe_ifExp (pt_cmp (pc_lt (pv 1) (pe_callB call_len (by rfl) (T.fr "len") boot_len (pa_cons (pv 0) pa_nil)))) (pe_ix ix_seq (pv 0) (pv 1) fun _ _ => rfl) pe_int))
/-! ### _law_box -/
theorem sc_box : FnScope ["_law_script", "_law_k"] ["_law_script", "_law_k"] (defScope (top iBox)) := ⟨rfl, rfl, rfl, by decide +kernel, rfl, by decide +kernel, by decide +kernel⟩
theorem ok_box {fd1 : FuncData} (F : FnP K "_law_box" iBox f fd) (T : Txt K mg) (F1 : FnP K "_law_cell" iCell (He.ga K "_law_cell") fd1) : FnOk P w K mg base CX0 2 f fd ["_law_script", "_law_k"] (spBox K) := by
  have G1 : FnOk P w K mg base CX0 1 _ fd1 ["_law_script", "_law_k"] (spCell K) := ok_cell F1 T
  have B1 : Binds K fd1 ["_law_script", "_law_k"] [] := F1.bindsN fun _ _ _ _ _ _ us hl => match us, hl with | [_, _], _ => rfl
  refine F.ok sc_box (fun vs H Q E h => ?_) (fun cdv A outer s H vs Q E hr h => ?_)
  · obtain ⟨l, ns, j, rfl, _⟩ := h
    rfl
  · obtain ⟨l, ns, j, rfl, hs, hj, k⟩ := h
    refine ⟨_, PSs.nox (pss_one (ps_ret (pe_lst (pa_cons (pe_callB call_abs (by rfl) (T.fr "abs") (by decide +kernel) (pa_cons (pe_callTy call_int1 (by rfl) (T.fr "int") boot_int
      (pa_cons (pe_call G1 hr (by rfl) (T.df "_law_cell" iCell) F1.kp B1 .nil pass0 (pa_cons (pv 0) (pa_cons (pv 1) pa_nil))) pa_nil)) pa_nil)) (pa_cons pe_int (pa_cons (pe_op op_add (pe_op op_mul pe_int (pv 1)) pe_int) pa_nil)))))), ?_⟩
    refine ⟨_, rfl, _, rfl, l, ns, j, rfl, hs, .inl ⟨_, rfl, _, rfl, _, rfl, _, _, rfl, rfl, .inl ⟨by decide, by decide⟩, _, _, rfl, rfl, (by show 3 ≤ sizeLine; decide), fun p hp => ?_⟩⟩
    have e : (if cellOf ns j < 0 then -cellOf ns j else cellOf ns j) = ((cellOf ns j).natAbs : Int) := by
      by_cases h : cellOf ns j < 0
      · rw [if_pos h]; omega
      · rw [if_neg h]; omega
    rw [e]
    exact k p _ hp (same_new hp) ⟨_, 0, _, upd_same, by omega, by omega, by omega, by omega, by omega⟩
/-! ### _law_take -/
theorem sc_take : FnScope ["_law_box_here", "_law_many", "_law_digit", "_law_mixed"] ["_law_box_here", "_law_many"] (defScope (top iTake)) := ⟨rfl, rfl, rfl, by decide +kernel, rfl, by decide +kernel, by decide +kernel⟩
theorem ok_take (F : FnP K "_law_take" iTake f fd) (T : Txt K mg) : FnOk P w K mg base CX0 1 f fd ["_law_box_here", "_law_many"] spTake := by
  refine F.ok sc_take (fun vs H Q E h => ?_) (fun cdv A outer s H vs Q E hr h => ?_)
  · obtain ⟨b, m, x, y, z, rfl, _⟩ := h
    rfl
  · obtain ⟨b, m, x, y, z, rfl, hb, x0, y0, y1, z0, z1, m0, m1, k⟩ := h
    have i0 := T.fr "int"
    refine ⟨_, PSs.nox (pss_cons (ps_if (pt_cmpR op_ge (pe_ix ix_list (pv 0) pe_int (fun _ _ => rfl)) (pe_op op_pow pe_int pe_int) (nomark _))
        (pss_cons (ps_set (i := 2) sc_take.nd rfl (Or.inl rfl) (pe_op op_mod (pe_callTy call_int1 (by rfl) i0 boot_int (pa_cons (pe_ix ix_list (pv 0) pe_int (fun _ _ => rfl)) pa_nil)) (pv 1)))
        (pss_cons (ps_asg (pe_op op_fdiv (pe_ix ix_list (pv 0) pe_int (fun _ _ => rfl)) (pv 1)) (pg_sub (pv 0) pe_int set_list))
        (pss_one (ps_ret (pv 2))))) pss_nil)
      (pss_cons (ps_asg (pe_op op_add (pe_ix ix_list (pv 0) pe_int (fun _ _ => rfl)) pe_int) (pg_sub (pv 0) pe_int set_list))
      (pss_cons (ps_set (i := 3) sc_take.nd rfl (Or.inl rfl) (pe_op op_mod (pe_op op_pw (pe_callTy call_int1 (by rfl) i0 boot_int (pa_cons (pe_op op_add (pe_op op_add (pe_op op_mul (pe_op op_add (pe_ix ix_list (pv 0) pe_int (fun _ _ => rfl)) pe_int) pe_int)
          (pe_op op_mul (pe_ix ix_list (pv 0) pe_int (fun _ _ => rfl)) pe_int)) (pe_ix ix_list (pv 0) pe_int (fun _ _ => rfl))) pa_nil)) pe_int) pe_int))
      (pss_cons (ps_set (i := 3) sc_take.nd rfl (Or.inl rfl) (pe_op op_mod (pe_op op_pw (pe_callTy call_int1 (by rfl) i0 boot_int (pa_cons (pe_op op_add (pv 3) (pe_op op_mul (pe_ix ix_list (pv 0) pe_int (fun _ _ => rfl)) pe_int)) pa_nil)) pe_int) pe_int))
      (pss_one (ps_ret (pe_op op_mod (pe_callTy call_int1 (by rfl) i0 boot_int (pa_cons (pe_op op_fdiv (pv 3) pe_int) pa_nil)) (pv 1)))))))), ?_⟩
    refine ⟨_, rfl, b, _, _, _, rfl, rfl, SqL.of hb, rfl, _, _, rfl, rfl, ⟨by decide, by decide, by decide⟩, _, _, rfl, rfl, _, rfl, ?_⟩
    refine ite2 (fun c => ?_) (fun c => ?_)
    · refine ⟨_, rfl, b, _, _, _, rfl, rfl, SqL.of hb, rfl, .inl ⟨_, rfl, _, rfl, _, _, rfl, rfl, m0, ?_⟩⟩
      refine ⟨_, rfl, b, _, _, _, rfl, rfl, SqL.of hb, rfl, _, rfl, _, _, rfl, rfl, ⟨m0, by omega⟩, ?_⟩
      refine ⟨_, rfl, b, _, _, 0, rfl, rfl, hb, rfl, _, rfl, ?_⟩
      have d0 : 0 ≤ x % m := Int.emod_nonneg x (by omega)
      have d1 : x % m < m := Int.emod_lt_of_pos x m0
      have q0 : 0 ≤ x / m := Int.ediv_nonneg x0 (by omega)
      have q1 : x / m ≤ x := Int.ediv_le_self m x0
      exact k (x % m) (x / m) y d0 d1 q0 q1 (by omega) (by omega)
    · have c' : x < 10 ^ 18 := by simpa using c
      refine ⟨_, rfl, b, _, _, _, rfl, rfl, SqL.of hb, rfl, _, _, rfl, rfl, ?_⟩
      refine ⟨_, rfl, b, _, _, 1, rfl, rfl, hb, rfl, ?_⟩
      have h1 : upd H b (.lst (([V.int x, V.int y, V.int z] : List V).set 1 (V.int (y + 1)))) b = some (.lst [.int x, .int (y + 1), .int z]) := upd_same
      refine ⟨_, rfl, b, _, _, _, rfl, rfl, SqL.of h1, rfl, _, _, rfl, rfl, _, _, rfl, rfl, .inr ⟨by decide, by decide⟩, _, rfl, b, _, _, _, rfl, rfl, SqL.of h1, rfl, _, _, rfl, rfl, .inr ⟨by decide, by decide⟩, _, _, rfl, rfl, _, rfl, b, _, _, _, rfl, rfl, SqL.of h1, rfl, _, _, rfl, rfl, .inl ⟨_, rfl, _, _, rfl, rfl, pw_ok (by omega) (by omega), _, _, rfl, rfl, (by show (0 : Int) < 2147483647; decide), ?_⟩⟩
      refine ⟨_, rfl, _, rfl, b, _, _, _, rfl, rfl, SqL.of h1, rfl, _, _, rfl, rfl, .inr ⟨by decide, by decide⟩, _, _, rfl, rfl, .inl ⟨_, rfl, _, _, rfl, rfl, ?_, _, _, rfl, rfl, (by show (0 : Int) < 2147483399; decide), ?_⟩⟩
      · have a0 := Int.emod_nonneg (((x + 7) * 69069 + (y + 1) * 40692 + z) ^ Int.toNat 3) (show (2147483647 : Int) ≠ 0 by decide)
        have a1 := Int.emod_lt_of_pos (((x + 7) * 69069 + (y + 1) * 40692 + z) ^ Int.toNat 3) (show (0 : Int) < 2147483647 by decide)
        exact pw_ok (by omega) (by omega)
      · refine ⟨_, rfl, _, _, rfl, rfl, ⟨by decide, by decide⟩, .inl ⟨_, rfl, _, rfl, _, _, rfl, rfl, m0, ?_⟩⟩
        exact k _ x (y + 1) (Int.emod_nonneg _ (by omega)) (Int.emod_lt_of_pos _ m0) x0 (Int.le_refl x) (by omega) (by omega)
/-! ### _law_tree -/
/-- the tree of tuples at v -/
def IsTT (H : Hp) : V → Tr → Prop
  | v, .lf c => leafC c = true ∧ ∃ a, v = .ref a ∧ H a = some (.tup [.str (one c), .non, .non])
  | v, .nd c l r => jointC c = true ∧ ∃ a u z, v = .ref a ∧ H a = some (.tup [.str (one c), u, z]) ∧ IsTT H u l ∧ IsTT H z r
theorem IsTT.wf {H : Hp} : ∀ {t : Tr} {v : V}, IsTT H v t → WF t = true
  | .lf c, _, h => h.1
  | .nd c l r, _, h => by
    obtain ⟨j, a, u, z, _, _, h2, h3⟩ := h
    simp only [WF, j, h2.wf, h3.wf, Bool.and_self]
theorem IsTT.same {H H' : Hp} (s : Same H H') : ∀ {t : Tr} {v : V}, IsTT H v t → IsTT H' v t
  | .lf c, _, h => by
    obtain ⟨j, a, e, h1⟩ := h
    exact ⟨j, a, e, s _ _ h1⟩
  | .nd c l r, _, h => by
    obtain ⟨j, a, u, z, e, h1, h2, h3⟩ := h
    exact ⟨j, a, u, z, e, s _ _ h1, h2.same s, h3.same s⟩
theorem IsTT.kept {H H' : Hp} {b : Addr} {N : Nat} (k : Kept b H H') (hb : BoxK H b N) : ∀ {t : Tr} {v : V}, IsTT H v t → IsTT H' v t
  | .lf c, _, h => by
    obtain ⟨j, a, e, h1⟩ := h
    obtain ⟨xs, hx⟩ := hb.at
    exact ⟨j, a, e, k _ _ h1 (ne_of h1 hx (by intro z; cases z))⟩
  | .nd c l r, _, h => by
    obtain ⟨j, a, u, z, e, h1, h2, h3⟩ := h
    obtain ⟨xs, hx⟩ := hb.at
    exact ⟨j, a, u, z, e, k _ _ h1 (ne_of h1 hx (by intro z; cases z)), h2.kept k hb, h3.kept k hb⟩
theorem IsTT.ref {H : Hp} : ∀ {t : Tr} {v : V}, IsTT H v t → ∃ a, v = .ref a
  | .lf _, _, h => let ⟨_, a, e, _⟩ := h; ⟨a, e⟩
  | .nd _ _ _, _, h => let ⟨_, a, _, _, e, _⟩ := h; ⟨a, e⟩
def spTree (n : Nat) : Sp := fun vs H Q _ => ∃ (b : Addr) (N m : Nat), vs = [.ref b, .int m] ∧ BoxK H b N ∧ N + 3 * m ≤ 800000 ∧ m ≤ 1000 ∧ 1 ≤ m ∧ m ≤ n + 1 ∧
  ∀ H' a t, Kept b H H' → BoxK H' b (N + (3 * m - 2)) → IsTT H' (.ref a) t → dep t < m → Q (.ref a) H'
def spTreeL : Nat → Sp
  | 0 => fun _ _ _ _ => False
  | n + 1 => spTree n
theorem sc_tree : FnScope ["_law_box_here", "_law_size", "_law_left"] ["_law_box_here", "_law_size"] (defScope (top iTree)) := ⟨rfl, rfl, rfl, by decide +kernel, rfl, by decide +kernel, by decide +kernel⟩
theorem ok_tree1 {fdT : FuncData} (F : FnP K "_law_tree" iTree (He.ga K "_law_tree") fd) (T : Txt K mg) (FT : FnP K "_law_take" iTake (He.ga K "_law_take") fdT) (n : Nat) (GR : FnOk P w K mg base CX0 (1 + n) (He.ga K "_law_tree") fd ["_law_box_here", "_law_size"] (spTreeL n)) :
    FnOk P w K mg base CX0 (2 + n) (He.ga K "_law_tree") fd ["_law_box_here", "_law_size"] (spTree n) := by
  have BR : Binds K fd ["_law_box_here", "_law_size"] [] := F.bindsN fun _ _ _ _ _ _ us hl => match us, hl with | [_, _], _ => rfl
  have GT : FnOk P w K mg base CX0 1 _ fdT ["_law_box_here", "_law_many"] spTake := ok_take FT T
  have BT : Binds K fdT ["_law_box_here", "_law_many"] [] := FT.bindsN fun _ _ _ _ _ _ us hl => match us, hl with | [_, _], _ => rfl
  rw [show 2 + n = (1 + n) + 1 by omega]
  refine F.ok sc_tree (fun vs H Q E h => ?_) (fun cdv A outer s H vs Q E hr h => ?_)
  · obtain ⟨b, N, m, rfl, _⟩ := h
    rfl
  · obtain ⟨b, N, m, rfl, hb, hN, hm9, hm1, hmn, q⟩ := h
    have nd := sc_tree.nd
    have hr1 : Room 1 _ := hr.mono (by omega)
    refine ⟨_, PSs.nox (pss_cons (ps_if (pt_cmpR op_eq (pv 1) pe_int (nomark _)) (pss_one (ps_ret (pe_tup (pa_cons (pe_ix ix_list (pe_lst (pa_cons pe_str (pa_cons pe_str (pa_cons pe_str (pa_cons pe_str (pa_cons pe_str (pa_cons pe_str (pa_cons pe_str (pa_cons pe_str pa_nil))))))))) (pe_call GT hr1 (by rfl) (T.df "_law_take" iTake) FT.kp BT .nil pass0 (pa_cons (pv 0) (pa_cons pe_int pa_nil))) (fun _ _ => rfl)) (pa_cons pe_non (pa_cons pe_non pa_nil)))))) pss_nil) (pss_cons (ps_set (i := 2) nd rfl (.inl rfl) (pe_op op_add pe_int (pe_call GT hr1 (by rfl) (T.df "_law_take" iTake) FT.kp BT .nil pass0 (pa_cons (pv 0) (pa_cons (pe_op op_sub (pv 1) pe_int) pa_nil))))) (pss_one (ps_ret (pe_tup (pa_cons (pe_ix ix_list (pe_lst (pa_cons pe_str (pa_cons pe_str pa_nil))) (pe_call GT hr1 (by rfl) (T.df "_law_take" iTake) FT.kp BT .nil pass0 (pa_cons (pv 0) (pa_cons pe_int pa_nil))) (fun _ _ => rfl)) (pa_cons (pe_call GR hr (by rfl) (T.df "_law_tree" iTree) F.kp BR .nil pass0 (pa_cons (pv 0) (pa_cons (pv 2) pa_nil))) (pa_cons (pe_call GR hr (by rfl) (T.df "_law_tree" iTree) F.kp BR .nil pass0 (pa_cons (pv 0) (pa_cons (pe_op op_sub (pv 1) (pv 2)) pa_nil))) pa_nil)))))))), ?_⟩
    refine ⟨_, rfl, rfl, _, rfl, ?_⟩
    refine ite2 (fun h1 => ?_) (fun h1 => ?_)
    · have e1 : m = 1 := by
        have := of_decide_eq_true h1
        injection this with this
        omega
      subst e1
      refine ⟨(by show 8 ≤ sizeLine; decide), fun l0 hl0 => ⟨_, rfl, ?_⟩⟩
      dsimp -proj only [tCons, tC, tNil, List.append_nil]
      refine pick_use (m := 8) hb hl0 (by omega) rfl (by decide) (by decide) fun v H1 hv k1 b1 => ?_
      have hv : ∃ c, v = .str (one c) ∧ leafC c = true := by
        simp only [List.mem_cons, List.not_mem_nil, or_false] at hv
        rcases hv with rfl | rfl | rfl | rfl | rfl | rfl | rfl | rfl
        · exact ⟨97, rfl, rfl⟩
        · exact ⟨98, rfl, rfl⟩
        · exact ⟨99, rfl, rfl⟩
        · exact ⟨97, rfl, rfl⟩
        · exact ⟨98, rfl, rfl⟩
        · exact ⟨99, rfl, rfl⟩
        · exact ⟨48, rfl, rfl⟩
        · exact ⟨49, rfl, rfl⟩
      obtain ⟨c, rfl, hc⟩ := hv
      refine ⟨(by show 3 ≤ sizeLine; decide), fun p hp => ?_⟩
      have s1 := same_new (o := .tup [.str (one c), .non, .non]) hp
      exact q _ p (.lf c) (k1.trans (Kept.of s1)) ((b1.same s1).mono (by omega)) ⟨hc, p, rfl, upd_same⟩ (by show 0 < 1; decide)
    · have h1' : m ≠ 1 := fun e => h1 (decide_eq_true (by rw [e]; rfl))
      obtain ⟨n, rfl⟩ : ∃ n', n = n' + 1 := ⟨n - 1, by omega⟩
      refine ⟨_, rfl, _, rfl, _, _, rfl, rfl, ?_⟩
      dsimp -proj only [tCons, tC, tNil, List.append_nil]
      refine take_use (m := (m : Int) - 1) hb (by omega) (by omega) (by omega) fun d H1 d0 d1 k1 b1 _ => ?_
      obtain ⟨e, rfl⟩ : ∃ e : Nat, d = (e : Int) := ⟨d.toNat, by omega⟩
      refine ⟨_, _, rfl, rfl, ?_⟩
      refine ⟨(by show 2 ≤ sizeLine; decide), fun l0 hl0 => ⟨_, rfl, ?_⟩⟩
      dsimp -proj only [tCons, tC, tNil, List.append_nil]
      refine pick_use (m := 2) b1 hl0 (by omega) rfl (by decide) (by decide) fun v H2 hv k2 b2 => ?_
      have hv : ∃ c, v = .str (one c) ∧ jointC c = true := by
        simp only [List.mem_cons, List.not_mem_nil, or_false] at hv
        rcases hv with rfl | rfl
        · exact ⟨43, rfl, rfl⟩
        · exact ⟨38, rfl, rfl⟩
      obtain ⟨c, rfl, hc⟩ := hv
      refine ⟨_, rfl, _, rfl, b, N + 1 + 1, e + 1, ?_, b2, by omega, by omega, by omega, by omega, fun H3 a1 t1 k3 b3 ht1 hd1 => ?_⟩
      · show [V.ref b, V.int (1 + (e : Int))] = _
        rw [show (1 + (e : Int)) = ((e + 1 : Nat) : Int) by omega]
      refine ⟨_, rfl, _, rfl, _, rfl, _, _, rfl, rfl, b, _, m - (e + 1), ?_, b3, by omega, by omega, by omega, by omega, fun H4 a2 t2 k4 b4 ht2 hd2 => ?_⟩
      · show [V.ref b, V.int ((m : Int) - (1 + (e : Int)))] = _
        rw [show ((m : Int) - (1 + (e : Int))) = ((m - (e + 1) : Nat) : Int) by omega]
      refine ⟨(by show 3 ≤ sizeLine; decide), fun p hp => ?_⟩
      have s1 := same_new (o := .tup [.str (one c), .ref a1, .ref a2]) hp
      refine q _ p (.nd c t1 t2) (k1.trans (k2.trans (k3.trans (k4.trans (Kept.of s1))))) ((b4.same s1).mono (by omega)) ⟨hc, p, .ref a1, .ref a2, rfl, upd_same, (ht1.kept k4 b3).same s1, ht2.same s1⟩ ?_
      simp only [dep]
      omega
theorem ok_tree {fdT : FuncData} (F : FnP K "_law_tree" iTree (He.ga K "_law_tree") fd) (T : Txt K mg) (FT : FnP K "_law_take" iTake (He.ga K "_law_take") fdT) : ∀ n, FnOk P w K mg base CX0 (2 + n) (He.ga K "_law_tree") fd ["_law_box_here", "_law_size"] (spTree n) := by
  intro n
  induction n with
  | zero => exact ok_tree1 F T FT 0 ⟨fun _ _ _ _ h => h.elim, fun _ _ _ _ _ _ _ _ _ _ _ _ _ h => h.elim⟩
  | succ n ih => exact ok_tree1 F T FT (n + 1) (by rw [show 1 + (n + 1) = 2 + n by omega]; exact ih)
end
end KM

set_option Elab.async false
set_option linter.all false
set_option maxRecDepth 100000
set_option maxHeartbeats 4000000
/-! # _law_word -/
namespace KM
open PySem PySem.Spec PyProof.Rows L2 VX KW
section
variable {P : Program} {w : World} {K : PySem.W.Frag} {mg : Str → Option Value} {base : Heap} {f : Addr} {fd : FuncData}
def spLWord (K : PySem.W.Frag) (n : Nat) : Sp := fun vs H Q _ => ∃ (v : V) (t : Tr), vs = [v] ∧ IsTT H v t ∧ dep t ≤ n ∧ ∀ H' x, Same H H' → IsTr K H' x t → Q (.ref x) H'
def spLWordL (K : PySem.W.Frag) : Nat → Sp
  | 0 => fun _ _ _ _ => False
  | n + 1 => spLWord K n
theorem sc_lword : FnScope ["_law_tree_here"] ["_law_tree_here"] (defScope (top iLWord)) := ⟨rfl, rfl, rfl, by decide +kernel, rfl, by decide +kernel, by decide +kernel⟩
theorem ok_lword1 {fdI fd1 : FuncData} {dv : V} (F : FnP K "_law_word" iLWord (He.ga K "_law_word") fd) (T : Txt K mg) (Z : Wif K fdI dv fd1) (n : Nat) (GR : FnOk P w K mg base CX0 (3 + n) (He.ga K "_law_word") fd ["_law_tree_here"] (spLWordL K n)) :
    FnOk P w K mg base CX0 (4 + n) (He.ga K "_law_word") fd ["_law_tree_here"] (spLWord K n) := by
  have BR : Binds K fd ["_law_tree_here"] [] := F.bindsN fun _ _ _ _ _ _ us hl => match us, hl with | [_], _ => rfl
  have GI : FnOk P w K mg base CX0 2 _ fdI ["self", "sign", "parts"] (spWI K) := ok_wi Z.fi T Z.ft
  obtain ⟨ds, h0, BI0⟩ := Z.b0
  have BI := Z.b1
  obtain ⟨ad, rfl, hdv⟩ := Z.dv
  rw [show 4 + n = (3 + n) + 1 by omega]
  refine F.ok sc_lword (fun vs H Q E h => ?_) (fun cdv A outer s H vs Q E hr h => ?_)
  · obtain ⟨v, t, rfl, _⟩ := h
    rfl
  · obtain ⟨v, t, rfl, ht, hd, q⟩ := h
    have nd := sc_lword.nd
    have hr3 : Room (2 + 1) _ := hr.mono (by omega)
    refine ⟨_, PSs.nox (pss_cons (ps_if (pt_cmpR op_isN (pe_ix ix_tup (pv 0) pe_int (fun _ _ => rfl)) pe_non (nomark _)) (pss_one (ps_ret (pe_make T.mks GI hr3 (by rfl) T.word BI0 h0 pass0 (pa_cons (pe_ix ix_tup (pv 0) pe_int (fun _ _ => rfl)) pa_nil)))) pss_nil) (pss_one (ps_ret (pe_make T.mks GI hr3 (by rfl) T.word BI .nil pass0 (pa_cons (pe_ix ix_tup (pv 0) pe_int (fun _ _ => rfl)) (pa_cons (pe_lst (pa_cons (pe_call GR hr (by rfl) (T.df "_law_word" iLWord) F.kp BR .nil pass0 (pa_cons (pe_ix ix_tup (pv 0) pe_int (fun _ _ => rfl)) pa_nil)) (pa_cons (pe_call GR hr (by rfl) (T.df "_law_word" iLWord) F.kp BR .nil pass0 (pa_cons (pe_ix ix_tup (pv 0) pe_int (fun _ _ => rfl)) pa_nil)) pa_nil))) pa_nil)))))), ?_⟩
    cases t with
    | lf c =>
      obtain ⟨hc, a, rfl, ha⟩ := ht
      refine ⟨_, rfl, a, _, 1, _, rfl, rfl, SqT.of ha, rfl, rfl, _, rfl, ?_⟩
      refine iteT ⟨_, rfl, a, _, 0, _, rfl, rfl, SqT.of ha, rfl, fun x dx hx hdx ne => ?_⟩
      have s1 : Same H (upd (upd H dx (.own x)) x (.ins (wC K) dx [])) := same_two hdx (by rw [upd_ne (Ne.symm ne)]; exact hx)
      refine ⟨x, c, ad, [], dx, rfl, upd_same, .inr (hdv _), (by show fitB c 0 = true; simp [fitB, hc]), (by show 0 ≤ 1000; decide), fun H' kept isw => ⟨rfl, ?_⟩⟩
      exact q H' x (fun b o z => kept b o (s1 _ _ z) (ne_of_none z hx)) ⟨hc, isw⟩
    | nd c l r =>
      obtain ⟨hc, a, u, z, rfl, ha, hl, hr'⟩ := ht
      simp only [dep] at hd
      obtain ⟨m, rfl⟩ : ∃ m, n = m + 1 := ⟨n - 1, by omega⟩
      have un : u ≠ .non := by obtain ⟨a, e⟩ := hl.ref; rw [e]; intro z; cases z
      refine ⟨_, rfl, a, _, 1, _, rfl, rfl, SqT.of ha, rfl, rfl, _, rfl, ?_⟩
      rw [show decide (u = V.non) = false from decide_eq_false un]
      refine iteF ⟨_, rfl, a, _, 0, _, rfl, rfl, SqT.of ha, rfl, ?_⟩
      refine ⟨_, rfl, a, _, 1, _, rfl, rfl, SqT.of ha, rfl, u, l, rfl, hl, by omega, fun H1 x1 s1 t1 => ?_⟩
      refine ⟨_, rfl, a, _, 2, _, rfl, rfl, SqT.of (s1 _ _ ha), rfl, z, r, rfl, hr'.same s1, by omega, fun H2 x2 s2 t2 => ?_⟩
      refine ⟨(by show 2 ≤ sizeLine; decide), fun p hp x dx hx hdx ne => ?_⟩
      have s12 := s1.trans s2
      have sp := same_new (o := .lst [.ref x1, .ref x2]) hp
      have s3 : Same (upd H2 p (.lst [.ref x1, .ref x2])) (upd (upd (upd H2 p (.lst [.ref x1, .ref x2])) dx (.own x)) x (.ins (wC K) dx [])) := same_two hdx (by rw [upd_ne (Ne.symm ne)]; exact hx)
      refine ⟨x, c, p, [.ref x1, .ref x2], dx, rfl, upd_same, .inl (SqL.of (s3 _ _ upd_same)), (by show fitB c 2 = true; rcases joint_two hc with rfl | rfl <;> rfl), (by show 2 ≤ 1000; decide), fun H' kept isw => ⟨rfl, ?_⟩⟩
      have s4 : Same H2 H' := fun b o y => kept b o (s3 _ _ (sp _ _ y)) (ne_of_none (sp _ _ y) hx)
      exact q H' x (s12.trans s4) ⟨hc, x1, x2, isw, t1.same (s2.trans s4), t2.same s4⟩
theorem ok_lword {fdI fd1 : FuncData} {dv : V} (F : FnP K "_law_word" iLWord (He.ga K "_law_word") fd) (T : Txt K mg) (Z : Wif K fdI dv fd1) : ∀ n, FnOk P w K mg base CX0 (4 + n) (He.ga K "_law_word") fd ["_law_tree_here"] (spLWord K n) := by
  intro n
  induction n with
  | zero => exact ok_lword1 F T Z 0 ⟨fun _ _ _ _ h => h.elim, fun _ _ _ _ _ _ _ _ _ _ _ _ _ h => h.elim⟩
  | succ n ih => exact ok_lword1 F T Z (n + 1) (by rw [show 3 + (n + 1) = 4 + n by omega]; exact ih)
end
end KM

set_option Elab.async false
set_option linter.all false
set_option maxRecDepth 100000
set_option maxHeartbeats 4000000
/-! # _law_mark, _law_within -/
namespace KM
open PySem PySem.Spec PyProof.Rows L2 VX KW
section
variable {P : Program} {w : World} {K : PySem.W.Frag} {mg : Str → Option Value} {base : Heap} {f : Addr} {fd : FuncData}
def lmV (k : List Nat) (t : Tr) : V := if k = PL then .str (one (lp t)) else .int (li k t)
def spLMark (n : Nat) : Sp := fun vs H Q _ => ∃ (v : V) (t : Tr) (k : List Nat), vs = [v, .str (kS k)] ∧ IsTT H v t ∧ dep t ≤ n ∧ ∀ H', Same H H' → Q (lmV k t) H'
def spLMarkL : Nat → Sp
  | 0 => fun _ _ _ _ => False
  | n + 1 => spLMark n
theorem hand_in (c : Nat) : inV (V.str (one c)) [V.str "a", V.str "b", V.str "c"] = hand c := in_hands c
theorem lp_five {t : Tr} (h : WF t = true) : five (lp t) = true := by rw [lp_mk h]; exact mk_five h
abbrev nLM : List Str := ["_law_tree_here", "_law_kind", "_law_sign", "_law_first_here", "_law_second", "_law_here", "_law_there", "_law_low", "_law_high"]
theorem sc_lmark : FnScope nLM ["_law_tree_here", "_law_kind"] (defScope (top iLMark)) := ⟨rfl, rfl, rfl, by decide +kernel, rfl, by decide +kernel, by decide +kernel⟩
theorem ok_lmark1 (F : FnP K "_law_mark" iLMark (He.ga K "_law_mark") fd) (T : Txt K mg) (n : Nat) (GR : FnOk P w K mg base CX0 (1 + n) (He.ga K "_law_mark") fd ["_law_tree_here", "_law_kind"] (spLMarkL n)) :
    FnOk P w K mg base CX0 (2 + n) (He.ga K "_law_mark") fd ["_law_tree_here", "_law_kind"] (spLMark n) := by
  have BR : Binds K fd ["_law_tree_here", "_law_kind"] [] := F.bindsN fun _ _ _ _ _ _ us hl => match us, hl with | [_, _], _ => rfl
  rw [show 2 + n = (1 + n) + 1 by omega]
  refine F.ok sc_lmark (fun vs H Q E h => ?_) (fun cdv A outer s H vs Q E hr h => ?_)
  · obtain ⟨v, t, k, rfl, _⟩ := h
    rfl
  · obtain ⟨v, t, k, rfl, ht, hd, q⟩ := h
    have nd := sc_lmark.nd
    refine ⟨_, PSs.nox (pss_cons (ps_asg (pv 0) (pg_tup (by rfl) (pgs_cons (pg_name (i := 2) nd rfl (.inl rfl)) (pgs_cons (pg_name (i := 3) nd rfl (.inl rfl)) (pgs_cons (pg_name (i := 4) nd rfl (.inl rfl)) pgs_nil))))) (pss_cons (ps_if (pt_cmpR op_isN (pv 3) pe_non (nomark _)) (pss_cons (ps_if (pt_cmpR op_eq (pv 1) pe_str (nomark _)) (pss_one (ps_ret (pv 2))) pss_nil) (pss_one (ps_ret (pe_callTy call_int1 (by rfl) (T.fr "int") boot_int (pa_cons ((pe_or (pe_cmpR op_eq (pv 2) pe_str (nomark _)) (pe_one (pe_and (pe_cmpR op_in_seq (pv 2) (pe_lst (pa_cons pe_str (pa_cons pe_str (pa_cons pe_str pa_nil)))) (by rfl)) (pe_one (pe_cmpR op_in_sign (pv 2) (pv 1) (by rfl))))))) pa_nil))))) pss_nil) (pss_cons (ps_set (i := 5) nd rfl (.inl rfl) (pe_call GR hr (by rfl) (T.df "_law_mark" iLMark) F.kp BR .nil pass0 (pa_cons (pv 3) (pa_cons (pv 1) pa_nil)))) (pss_cons (ps_set (i := 6) nd rfl (.inl rfl) (pe_call GR hr (by rfl) (T.df "_law_mark" iLMark) F.kp BR .nil pass0 (pa_cons (pv 4) (pa_cons (pv 1) pa_nil)))) (pss_cons (ps_if (pt_cmpR op_ne (pv 1) pe_str (nomark _)) (pss_one (ps_ret (pe_ifExp (pt_cmpR op_eq (pv 2) pe_str (nomark _)) (pe_callTy call_int1 (by rfl) (T.fr "int") boot_int (pa_cons (pe_cmpR op_gt (pe_op op_add (pv 5) (pv 6)) pe_int (nomark _)) pa_nil)) (pe_op op_mul (pv 5) (pv 6))))) pss_nil) (pss_cons (ps_if (pt_cmpR op_eq (pv 5) (pv 6) (nomark _)) (pss_one (ps_ret (pv 5))) pss_nil) (pss_cons (ps_asg (pe_ifExp (pt_cmpR op_eq (pv 2) pe_str (nomark _)) (pe_lst (pa_cons pe_str (pa_cons pe_str pa_nil))) (pe_lst (pa_cons pe_str (pa_cons pe_str pa_nil)))) (pg_unl rfl (pgs_cons (pg_name (i := 7) nd rfl (.inl rfl)) (pgs_cons (pg_name (i := 8) nd rfl (.inl rfl)) pgs_nil)))) (pss_cons (ps_if (PW.pt (pw_or (pt_cmpR op_eq (pv 5) (pv 7) (nomark _)) (pw_or1 (pt_cmpR op_eq (pv 6) (pv 7) (nomark _))))) (pss_one (ps_ret (pe_ifExp (pt_cmpR op_eq (pv 5) (pv 7) (nomark _)) (pv 6) (pv 5)))) pss_nil) (pss_one (ps_ret (pv 8))))))))))), ?_⟩
    have hwf := ht.wf
    cases t with
    | lf c =>
      obtain ⟨hc, a, rfl, ha⟩ := ht
      refine ⟨_, rfl, a, _, rfl, SqT.of ha, rfl, _, _, rfl, _, _, rfl, _, _, rfl, rfl, ?_⟩
      refine ⟨_, rfl, rfl, _, rfl, ?_⟩
      refine iteT ⟨_, rfl, rfl, _, rfl, ?_⟩
      rw [kS_pl]
      unfold lmV at q
      simp only [lp, li] at q
      refine ite2 (fun h => ?_) (fun h => ?_)
      · rw [if_pos (of_decide_eq_true h)] at q
        exact ⟨_, rfl, q _ (Same.refl _)⟩
      · rw [if_neg (fun e => h (decide_eq_true e))] at q
        refine ⟨_, rfl, rfl, _, rfl, ?_⟩
        rw [show decide (V.str (one c) = V.str "1") = (c == 49) from dec_one]
        cases h49 : (c == 49) with
        | true =>
          have e49 : c = 49 := by simpa using h49
          rw [if_pos (.inl e49)] at q
          exact iteT (.inr ⟨_, rfl, q _ (Same.refl _)⟩)
        | false =>
          have e49 : c ≠ 49 := by simpa using h49
          refine iteF ⟨_, rfl, (by show 3 ≤ sizeLine; decide), fun p hp => ⟨p, _, rfl, .inl (SqL.of upd_same), rfl, rfl, _, rfl, ?_⟩⟩
          simp only [Bool.false_eq_true, if_false, hand_in]
          have sp := same_new (o := .lst [.str "a", .str "b", .str "c"]) hp
          cases hh : hand c with
          | false =>
            rw [if_neg (by simp [e49, hh])] at q
            exact iteF (.inr ⟨_, rfl, q _ sp⟩)
          | true =>
            refine iteT ⟨_, rfl, _, rfl, c, _, rfl, rfl, ?_⟩
            refine .inr ⟨_, rfl, ?_⟩
            rw [kS_list]
            by_cases hm : c ∈ k
            · rw [if_pos (.inr ⟨hh, hm⟩)] at q
              rw [decide_eq_true hm]
              exact q _ sp
            · rw [if_neg (by simp [e49, hm])] at q
              rw [decide_eq_false hm]
              exact q _ sp
    | nd c l r =>
      obtain ⟨hc, a, u, z, rfl, ha, hl, hr'⟩ := ht
      simp only [dep] at hd
      obtain ⟨m, rfl⟩ : ∃ m, n = m + 1 := ⟨n - 1, by omega⟩
      have un : u ≠ .non := by obtain ⟨a, e⟩ := hl.ref; rw [e]; intro z; cases z
      have wl := hl.wf
      have wr := hr'.wf
      refine ⟨_, rfl, a, _, rfl, SqT.of ha, rfl, _, _, rfl, _, _, rfl, _, _, rfl, rfl, ?_⟩
      refine ⟨_, rfl, rfl, _, rfl, ?_⟩
      rw [show decide (u = V.non) = false from decide_eq_false un]
      refine iteF ⟨_, rfl, _, rfl, u, l, k, rfl, hl, by omega, fun H1 s1 => ?_⟩
      refine ⟨_, rfl, _, rfl, z, r, k, rfl, hr'.same s1, by omega, fun H2 s2 => ?_⟩
      have s12 := s1.trans s2
      refine ⟨_, rfl, rfl, _, rfl, ?_⟩
      rw [kS_pl]
      unfold lmV at q
      by_cases hk : k = PL
      · subst hk
        simp only [if_true, lp] at q
        rw [decide_eq_true (rfl : PL = PL)]
        refine iteF ?_
        have e1 : lmV PL l = .str (one (lp l)) := if_pos rfl
        have e2 : lmV PL r = .str (one (lp r)) := if_pos rfl
        rw [e1, e2]
        refine ⟨_, rfl, _, rfl, rfl, _, rfl, ?_⟩
        rw [show decide (V.str (one (lp l)) = V.str (one (lp r))) = (lp l == lp r) from dec_one]
        refine ite2 (fun h => ?_) (fun h => ?_)
        · rw [if_pos (by simpa using h)] at q
          exact ⟨_, rfl, q _ s12⟩
        · rw [if_neg (by simpa using h)] at q
          rcases joint_two hc with rfl | rfl
          · simp only [if_true] at q
            refine ⟨_, rfl, rfl, _, rfl, ?_⟩
            rw [show decide (V.str (one 43) = V.str "+") = true from dec_one]
            refine iteT ⟨(by show 2 ≤ sizeLine; decide), fun p hp => ⟨p, _, rfl, SqL.of upd_same, rfl, _, _, rfl, _, _, rfl, rfl, ?_⟩⟩
            have s3 := s12.trans (same_new (o := .lst [.str "0", .str "1"]) hp)
            have q := q _ s3
            refine ⟨_, rfl, _, rfl, rfl, _, rfl, ?_⟩
            rw [show decide (V.str (one (lp l)) = V.str "0") = (lp l == 48) from dec_one]
            refine ite2 (fun h1 => ?_) (fun h1 => ?_)
            · have h1' : lp l = 48 := by simpa using h1
              rw [if_pos (.inl h1'), if_pos h1'] at q
              refine ⟨_, rfl, _, rfl, rfl, _, rfl, ?_⟩
              rw [show decide (V.str (one (lp l)) = V.str "0") = (lp l == 48) from dec_one]
              rw [h1]
              exact iteT ⟨_, rfl, q⟩
            · have h1' : lp l ≠ 48 := by simpa using h1
              refine ⟨_, rfl, _, rfl, rfl, _, rfl, ?_⟩
              rw [show decide (V.str (one (lp r)) = V.str "0") = (lp r == 48) from dec_one]
              refine ite2 (fun h2 => ?_) (fun h2 => ?_)
              · have h2' : lp r = 48 := by simpa using h2
                rw [if_pos (.inr h2'), if_neg h1'] at q
                refine ⟨_, rfl, _, rfl, rfl, _, rfl, ?_⟩
                rw [show decide (V.str (one (lp l)) = V.str "0") = (lp l == 48) from dec_one]
                rw [Bool.eq_false_iff.mpr h1]
                exact iteF ⟨_, rfl, q⟩
              · have h2' : lp r ≠ 48 := by simpa using h2
                rw [if_neg (by rintro (e | e); exact h1' e; exact h2' e)] at q
                exact ⟨_, rfl, q⟩
          · simp only [show (38 : Nat) ≠ 43 by decide, if_false] at q
            refine ⟨_, rfl, rfl, _, rfl, ?_⟩
            rw [show decide (V.str (one 38) = V.str "+") = false from dec_one]
            refine iteF ⟨(by show 2 ≤ sizeLine; decide), fun p hp => ⟨p, _, rfl, SqL.of upd_same, rfl, _, _, rfl, _, _, rfl, rfl, ?_⟩⟩
            have s3 := s12.trans (same_new (o := .lst [.str "1", .str "0"]) hp)
            have q := q _ s3
            refine ⟨_, rfl, _, rfl, rfl, _, rfl, ?_⟩
            rw [show decide (V.str (one (lp l)) = V.str "1") = (lp l == 49) from dec_one]
            refine ite2 (fun h1 => ?_) (fun h1 => ?_)
            · have h1' : lp l = 49 := by simpa using h1
              rw [if_pos (.inl h1'), if_pos h1'] at q
              refine ⟨_, rfl, _, rfl, rfl, _, rfl, ?_⟩
              rw [show decide (V.str (one (lp l)) = V.str "1") = (lp l == 49) from dec_one]
              rw [h1]
              exact iteT ⟨_, rfl, q⟩
            · have h1' : lp l ≠ 49 := by simpa using h1
              refine ⟨_, rfl, _, rfl, rfl, _, rfl, ?_⟩
              rw [show decide (V.str (one (lp r)) = V.str "1") = (lp r == 49) from dec_one]
              refine ite2 (fun h2 => ?_) (fun h2 => ?_)
              · have h2' : lp r = 49 := by simpa using h2
                rw [if_pos (.inr h2'), if_neg h1'] at q
                refine ⟨_, rfl, _, rfl, rfl, _, rfl, ?_⟩
                rw [show decide (V.str (one (lp l)) = V.str "1") = (lp l == 49) from dec_one]
                rw [Bool.eq_false_iff.mpr h1]
                exact iteF ⟨_, rfl, q⟩
              · have h2' : lp r ≠ 49 := by simpa using h2
                rw [if_neg (by rintro (e | e); exact h1' e; exact h2' e)] at q
                exact ⟨_, rfl, q⟩
      · rw [decide_eq_false hk]
        rw [if_neg hk] at q
        have e1 : lmV k l = .int (li k l) := if_neg hk
        have e2 : lmV k r = .int (li k r) := if_neg hk
        obtain ⟨b1, f1⟩ := li_mk hk wl
        obtain ⟨b2, f2⟩ := li_mk hk wr
        have g1 : 0 ≤ li k l ∧ li k l ≤ 1 := by rw [f1]; rcases b1 with e | e <;> rw [e] <;> decide
        rw [e1, e2]
        simp only [li] at q
        refine iteT ⟨_, rfl, rfl, _, rfl, ?_⟩
        rw [show decide (V.str (one c) = V.str "+") = (c == 43) from dec_one]
        refine ite2 (fun h => ?_) (fun h => ?_)
        · rw [if_pos (by simpa using h)] at q
          refine ⟨_, rfl, _, rfl, _, _, rfl, rfl, _, _, rfl, rfl, .inr ⟨_, rfl, ?_⟩⟩
          have := q _ s12
          by_cases hp : li k l + li k r > 0
          · rw [if_pos hp] at this
            rw [decide_eq_true hp]
            exact this
          · rw [if_neg hp] at this
            rw [decide_eq_false hp]
            exact this
        · rw [if_neg (by simpa using h)] at q
          exact ⟨_, rfl, _, rfl, _, _, rfl, rfl, .inl ⟨by omega, by omega⟩, q _ s12⟩
end
end KM

set_option Elab.async false
set_option linter.all false
set_option maxRecDepth 100000
set_option maxHeartbeats 4000000
/-! # _law_within, _law_near -/
namespace KM
open PySem PySem.Spec PyProof.Rows L2 VX KW
section
variable {P : Program} {w : World} {K : PySem.W.Frag} {mg : Str → Option Value} {base : Heap} {f : Addr} {fd : FuncData}
theorem ok_lmark (F : FnP K "_law_mark" iLMark (He.ga K "_law_mark") fd) (T : Txt K mg) : ∀ n, FnOk P w K mg base CX0 (2 + n) (He.ga K "_law_mark") fd ["_law_tree_here", "_law_kind"] (spLMark n) := by
  intro n
  induction n with
  | zero => exact ok_lmark1 F T 0 ⟨fun _ _ _ _ h => h.elim, fun _ _ _ _ _ _ _ _ _ _ _ _ _ h => h.elim⟩
  | succ n ih => exact ok_lmark1 F T (n + 1) (by rw [show 1 + (n + 1) = 2 + n by omega]; exact ih)
def spLWithin : Sp := fun vs H Q _ => ∃ (v u : V) (s t : Tr) (k : List Nat), vs = [v, u, .str (kS k)] ∧ IsTT H v s ∧ IsTT H u t ∧ dep s ≤ 20 ∧ dep t ≤ 20 ∧ ∀ H', Same H H' → Q (.bl (liW k s t)) H'
theorem sc_lwithin : FnScope ["_law_here", "_law_there", "_law_kind", "_law_low", "_law_high"] ["_law_here", "_law_there", "_law_kind"] (defScope (top iLWithin)) := ⟨rfl, rfl, rfl, by decide +kernel, rfl, by decide +kernel, by decide +kernel⟩
theorem ok_lwithin {fdM : FuncData} (F : FnP K "_law_within" iLWithin f fd) (T : Txt K mg) (FM : FnP K "_law_mark" iLMark (He.ga K "_law_mark") fdM) : FnOk P w K mg base CX0 23 f fd ["_law_here", "_law_there", "_law_kind"] spLWithin := by
  have GM : FnOk P w K mg base CX0 22 _ fdM ["_law_tree_here", "_law_kind"] (spLMark 20) := ok_lmark FM T 20
  have BM : Binds K fdM ["_law_tree_here", "_law_kind"] [] := FM.bindsN fun _ _ _ _ _ _ us hl => match us, hl with | [_, _], _ => rfl
  refine F.ok sc_lwithin (fun vs H Q E h => ?_) (fun cdv A outer s H vs Q E hr h => ?_)
  · obtain ⟨v, u, s, t, k, rfl, _⟩ := h
    rfl
  · obtain ⟨v, u, s', t, k, rfl, hs, ht, ds, dt, q⟩ := h
    have nd := sc_lwithin.nd
    refine ⟨_, PSs.nox (pss_cons (ps_set (i := 3) nd rfl (.inl rfl) (pe_call GM hr (by rfl) (T.df "_law_mark" iLMark) FM.kp BM .nil pass0 (pa_cons (pv 0) (pa_cons (pv 2) pa_nil)))) (pss_cons (ps_set (i := 4) nd rfl (.inl rfl) (pe_call GM hr (by rfl) (T.df "_law_mark" iLMark) FM.kp BM .nil pass0 (pa_cons (pv 1) (pa_cons (pv 2) pa_nil)))) (pss_cons (ps_if (pt_cmpR op_ne (pv 2) pe_str (nomark _)) (pss_one (ps_ret (pe_cmpR op_le (pv 3) (pv 4) (nomark _)))) pss_nil) (pss_one (ps_ret (pe_or (pe_cmpR op_eq (pv 3) (pv 4) (nomark _)) (pe_or (pe_cmpR op_eq (pv 3) pe_str (nomark _)) (pe_one (pe_cmpR op_eq (pv 4) pe_str (nomark _)))))))))), ?_⟩
    refine ⟨_, rfl, _, rfl, v, s', k, rfl, hs, ds, fun H1 s1 => ?_⟩
    refine ⟨_, rfl, _, rfl, u, t, k, rfl, ht.same s1, dt, fun H2 s2 => ?_⟩
    refine ⟨_, rfl, rfl, _, rfl, ?_⟩
    rw [kS_pl]
    have q := q _ (s1.trans s2)
    unfold liW at q
    by_cases hk : k = PL
    · subst hk
      rw [if_pos rfl] at q
      rw [decide_eq_true (rfl : PL = PL)]
      rw [show lmV PL s' = .str (one (lp s')) from if_pos rfl, show lmV PL t = .str (one (lp t)) from if_pos rfl]
      refine iteF ⟨_, rfl, _, rfl, rfl, _, rfl, ?_⟩
      rw [show decide (V.str (one (lp s')) = V.str (one (lp t))) = (lp s' == lp t) from dec_one]
      unfold isW at q
      refine ite2 (fun h => ?_) (fun h => ?_)
      · rw [h] at q
        exact q
      · rw [Bool.eq_false_iff.mpr h] at q
        refine ⟨_, rfl, rfl, _, rfl, ?_⟩
        rw [show decide (V.str (one (lp s')) = V.str "0") = (lp s' == 48) from dec_one]
        refine ite2 (fun h => ?_) (fun h => ?_)
        · rw [h] at q
          exact q
        · rw [Bool.eq_false_iff.mpr h] at q
          refine ⟨_, rfl, rfl, ?_⟩
          show Q (.bl (decide (V.str (one (lp t)) = V.str "1"))) _
          rw [show decide (V.str (one (lp t)) = V.str "1") = (lp t == 49) from dec_one]
          exact q
    · rw [if_neg hk] at q
      rw [decide_eq_false hk]
      rw [show lmV k s' = .int (li k s') from if_neg hk, show lmV k t = .int (li k t) from if_neg hk]
      exact iteT ⟨_, rfl, _, rfl, _, _, rfl, rfl, q⟩
/-! ### trees as data -/
def toD : Tr → PyData
  | .lf c => .tuple [.str (one c), .none, .none]
  | .nd c l r => .tuple [.str (one c), toD l, toD r]
theorem IsTT.dp {H : Hp} : ∀ {t : Tr} {v : V}, IsTT H v t → Dp K H v (toD t)
  | .lf c, _, h => by
    obtain ⟨_, a, rfl, ha⟩ := h
    exact .tup (SqT.of ha) (.cons (.str _) (.cons .non (.cons .non .nil)))
  | .nd c l r, _, h => by
    obtain ⟨_, a, u, z, rfl, ha, h1, h2⟩ := h
    exact .tup (SqT.of ha) (.cons (.str _) (.cons h1.dp (.cons h2.dp .nil)))
theorem strOk_one {c : Nat} (h : leafC c = true ∨ jointC c = true) : PyData.canLay0 (.str (one c)) = true := by
  have : c = 97 ∨ c = 98 ∨ c = 99 ∨ c = 48 ∨ c = 49 ∨ c = 43 ∨ c = 38 := by
    rcases h with h | h
    · simp only [leafC, Bool.or_eq_true, beq_iff_eq] at h; omega
    · rcases joint_two h with e | e <;> omega
  rcases this with rfl | rfl | rfl | rfl | rfl | rfl | rfl <;> decide +kernel
theorem toD_lay : ∀ {t : Tr}, WF t = true → PyData.canLay0 (toD t) = true
  | .lf c, h => by
    simp only [toD, PyData.canLay0, PyData.canLayAll0, Bool.and_true]
    have := strOk_one (c := c) (.inl h)
    simpa only [PyData.canLay0] using this
  | .nd c l r, h => by
    simp only [WF, Bool.and_eq_true] at h
    simp only [toD, PyData.canLay0, PyData.canLayAll0, Bool.and_true, toD_lay h.1.2, toD_lay h.2]
    have := strOk_one (c := c) (.inr h.1.1)
    simpa only [PyData.canLay0] using this
theorem toD_dep : ∀ {t : Tr}, (toD t).depth ≤ dep t + 2
  | .lf c => by
    simp only [toD, dep, PyData.depth, PyData.depthAll]
    omega
  | .nd c l r => by
    have h1 := toD_dep (t := l)
    have h2 := toD_dep (t := r)
    simp only [toD, dep, PyData.depth, PyData.depthAll]
    omega
theorem toD_shaped {t : Tr} (h : WF t = true) (hd : dep t ≤ 60) : SeqAt.shaped (toD t) = true := by
  have := toD_dep (t := t)
  show ((toD t).canLay0 && decide ((toD t).depth ≤ 64)) = true
  rw [toD_lay h, decide_eq_true (by omega)]
  rfl
/-- the tuple at a tree -/
theorem IsTT.at {H : Hp} : ∀ {t : Tr} {v : V}, IsTT H v t → ∃ a c u z, v = .ref a ∧ H a = some (.tup [.str (one c), u, z]) ∧ (jointC c = true → ∃ l r, t = .nd c l r ∧ IsTT H u l ∧ IsTT H z r)
  | .lf c, _, h => by
    obtain ⟨hc, a, rfl, ha⟩ := h
    exact ⟨a, c, _, _, rfl, ha, fun j => absurd j (by rw [(leaf_no hc).2.2.2]; exact Bool.false_ne_true)⟩
  | .nd c l r, _, h => by
    obtain ⟨hc, a, u, z, rfl, ha, h1, h2⟩ := h
    exact ⟨a, c, u, z, rfl, ha, fun _ => ⟨l, r, rfl, h1, h2⟩⟩
theorem ite_tC {b : Bool} {x y : V} {σ : L2.St} {H : Hp} {Q : VK} (h : Q (if b = true then x else y) H) : if b = true then tC x σ H Q else tC y σ H Q := by
  cases b
  · exact h
  · exact h
theorem ite_keep {b : Bool} {A Y : Prop} (hY : Y) (hA : b = true → Y → A) : if b = true then A else Y := by
  cases b
  · exact hY
  · exact hA rfl hY
/-! ### _law_near -/
def spNear (n : Nat) : Sp := fun vs H Q _ => ∃ (b : Addr) (N : Nat) (v : V) (t : Tr), vs = [.ref b, v] ∧ BoxK H b N ∧ N + 2 * n ≤ 700000 ∧ n ≤ 50 ∧ IsTT H v t ∧ dep t ≤ n ∧
  ∀ H' v' t', Kept b H H' → BoxK H' b (N + 2 * (n + 1)) → IsTT H' v' t' → dep t' ≤ dep t + 2 → Q v' H'
def spNearL : Nat → Sp
  | 0 => fun _ _ _ _ => False
  | n + 1 => spNear n
abbrev nN : List Str := ["_law_box_here", "_law_tree_here", "_law_sign", "_law_first_here", "_law_second", "_law_way", "_law_dual", "_law_letter", "_law_inner"]
theorem sc_near : FnScope nN ["_law_box_here", "_law_tree_here"] (defScope (top iNear)) := ⟨rfl, rfl, rfl, by decide +kernel, rfl, by decide +kernel, by decide +kernel⟩
theorem ok_near1 {fdT : FuncData} (F : FnP K "_law_near" iNear (He.ga K "_law_near") fd) (T : Txt K mg) (FT : FnP K "_law_take" iTake (He.ga K "_law_take") fdT) (n : Nat) (GR : FnOk P w K mg base CX0 (1 + n) (He.ga K "_law_near") fd ["_law_box_here", "_law_tree_here"] (spNearL n)) :
    FnOk P w K mg base CX0 (2 + n) (He.ga K "_law_near") fd ["_law_box_here", "_law_tree_here"] (spNear n) := by
  have BR : Binds K fd ["_law_box_here", "_law_tree_here"] [] := F.bindsN fun _ _ _ _ _ _ us hl => match us, hl with | [_, _], _ => rfl
  have GT : FnOk P w K mg base CX0 1 _ fdT ["_law_box_here", "_law_many"] spTake := ok_take FT T
  have BT : Binds K fdT ["_law_box_here", "_law_many"] [] := FT.bindsN fun _ _ _ _ _ _ us hl => match us, hl with | [_, _], _ => rfl
  rw [show 2 + n = (1 + n) + 1 by omega]
  refine F.ok sc_near (fun vs H Q E h => ?_) (fun cdv A outer s H vs Q E hr h => ?_)
  · obtain ⟨b, N, v, t, rfl, _⟩ := h
    rfl
  · obtain ⟨b, N, v, t, rfl, hb, hN, hn, ht, hd, q⟩ := h
    have nd := sc_near.nd
    have hr1 : Room 1 _ := hr.mono (by omega)
    refine ⟨_, PSs.nox (pss_cons (ps_asg (pv 1) (pg_tup (by rfl) (pgs_cons (pg_name (i := 2) nd rfl (.inl rfl)) (pgs_cons (pg_name (i := 3) nd rfl (.inl rfl)) (pgs_cons (pg_name (i := 4) nd rfl (.inl rfl)) pgs_nil))))) (pss_cons (ps_set (i := 5) nd rfl (.inl rfl) (pe_call GT hr1 (by rfl) (T.df "_law_take" iTake) FT.kp BT .nil pass0 (pa_cons (pv 0) (pa_cons pe_int pa_nil)))) (pss_cons (ps_set (i := 6) nd rfl (.inl rfl) (pe_ifExp (pt_cmpR op_eq (pv 2) pe_str (nomark _)) pe_str pe_str)) (pss_cons (ps_if (pt_cmpR op_isN (pv 3) pe_non (nomark _)) (pss_cons (ps_set (i := 7) nd rfl (.inl rfl) (pe_tup (pa_cons (pe_ix ix_list (pe_lst (pa_cons pe_str (pa_cons pe_str (pa_cons pe_str (pa_cons pe_str (pa_cons pe_str pa_nil)))))) (pe_call GT hr1 (by rfl) (T.df "_law_take" iTake) FT.kp BT .nil pass0 (pa_cons (pv 0) (pa_cons pe_int pa_nil))) (fun _ _ => rfl)) (pa_cons pe_non (pa_cons pe_non pa_nil))))) (pss_one (ps_ret (pe_ix ix_list (pe_lst (pa_cons (pv 1) (pa_cons (pe_tup (pa_cons pe_str (pa_cons (pv 1) (pa_cons (pv 1) pa_nil)))) (pa_cons (pe_tup (pa_cons pe_str (pa_cons (pv 1) (pa_cons (pe_tup (pa_cons pe_str (pa_cons (pv 7) (pa_cons (pv 1) pa_nil)))) pa_nil)))) (pa_cons (pe_tup (pa_cons pe_str (pa_cons (pv 1) (pa_cons (pe_tup (pa_cons pe_str (pa_cons (pv 1) (pa_cons (pv 7) pa_nil)))) pa_nil)))) pa_nil))))) (pe_op op_mod (pv 5) pe_int) (fun _ _ => rfl))))) pss_nil) (pss_cons (ps_if (pt_cmpR op_eq (pv 5) pe_int (nomark _)) (pss_one (ps_ret (pe_tup (pa_cons (pv 2) (pa_cons (pv 4) (pa_cons (pv 3) pa_nil)))))) pss_nil) (pss_cons (ps_if (PW.pt (pw_and (pt_cmpR op_eq (pv 5) pe_int (nomark _)) (pw_and1 (pt_cmpR op_eq (pe_ix ix_tup (pv 4) pe_int (fun _ _ => rfl)) (pv 2) (nomark _))))) (pss_one (ps_ret (pe_tup (pa_cons (pv 2) (pa_cons (pe_tup (pa_cons (pv 2) (pa_cons (pv 3) (pa_cons (pe_ix ix_tup (pv 4) pe_int (fun _ _ => rfl)) pa_nil)))) (pa_cons (pe_ix ix_tup (pv 4) pe_int (fun _ _ => rfl)) pa_nil)))))) pss_nil) (pss_cons (ps_if (PW.pt (pw_and (pt_cmpR op_eq (pv 5) pe_int (nomark _)) (pw_and1 (pt_cmpR op_eq (pe_ix ix_tup (pv 4) pe_int (fun _ _ => rfl)) (pv 6) (nomark _))))) (pss_cons (ps_set (i := 8) nd rfl (.inl rfl) (pe_tup (pa_cons (pv 2) (pa_cons (pv 3) (pa_cons (pe_ix ix_tup (pv 4) pe_int (fun _ _ => rfl)) pa_nil))))) (pss_cons (ps_if (PW.pt (pw_and (pt_cmpR op_eq (pe_ix ix_tup (pe_ix ix_tup (pv 4) pe_int (fun _ _ => rfl)) pe_int (fun _ _ => rfl)) (pv 2) (nomark _)) (pw_and1 (pt_cmpR (op_eqD hr.units) (pe_ix ix_tup (pe_ix ix_tup (pv 4) pe_int (fun _ _ => rfl)) pe_int (fun _ _ => rfl)) (pv 3) (nomark _))))) (pss_one (ps_ret (pe_tup (pa_cons (pv 6) (pa_cons (pe_tup (pa_cons (pv 2) (pa_cons (pv 3) (pa_cons (pe_ix ix_tup (pv 4) pe_int (fun _ _ => rfl)) pa_nil)))) (pa_cons (pv 8) pa_nil)))))) pss_nil) (pss_one (ps_ret (pv 1))))) pss_nil) (pss_one (ps_ret (pe_ifExp (pt_cmpR op_eq (pe_op op_mod (pv 5) pe_int) pe_int (nomark _)) (pe_tup (pa_cons (pv 2) (pa_cons (pe_call GR hr (by rfl) (T.df "_law_near" iNear) F.kp BR .nil pass0 (pa_cons (pv 0) (pa_cons (pv 3) pa_nil))) (pa_cons (pv 4) pa_nil)))) (pe_tup (pa_cons (pv 2) (pa_cons (pv 3) (pa_cons (pe_call GR hr (by rfl) (T.df "_law_near" iNear) F.kp BR .nil pass0 (pa_cons (pv 0) (pa_cons (pv 4) pa_nil))) pa_nil)))))))))))))), ?_⟩
    cases t with
    | lf c =>
      obtain ⟨hc, a, rfl, ha⟩ := id ht
      refine ⟨_, rfl, a, _, rfl, SqT.of ha, rfl, _, _, rfl, _, _, rfl, _, _, rfl, rfl, ?_⟩
      refine ⟨_, rfl, ?_⟩
      dsimp -proj only [tCons, tC, tNil, List.append_nil]
      refine take_use (m := 6) hb (by omega) (by decide) (by decide) fun d H1 d0 d1 k1 b1 _ => ?_
      have t1 := ht.kept k1 hb
      refine ⟨_, rfl, rfl, _, rfl, ite_tC ?_⟩
      refine ⟨_, rfl, rfl, _, rfl, iteT ?_⟩
      refine ⟨(by show 5 ≤ sizeLine; decide), fun l0 hl0 => ⟨_, rfl, ?_⟩⟩
      dsimp -proj only [tCons, tC, tNil, List.append_nil]
      refine pick_use (m := 5) b1 hl0 (by omega) rfl (by decide) (by decide) fun v H2 hv k2 b2 => ?_
      have hv : ∃ c, v = .str (one c) ∧ leafC c = true := by
        simp only [List.mem_cons, List.not_mem_nil, or_false] at hv
        rcases hv with rfl | rfl | rfl | rfl | rfl
        · exact ⟨97, rfl, rfl⟩
        · exact ⟨98, rfl, rfl⟩
        · exact ⟨99, rfl, rfl⟩
        · exact ⟨48, rfl, rfl⟩
        · exact ⟨49, rfl, rfl⟩
      obtain ⟨e, rfl, he⟩ := hv
      have t2 := t1.kept k2 b1
      refine ⟨(by show 3 ≤ sizeLine; decide), fun p hp => ?_⟩
      have sp := same_new (o := .tup [.str (one e), .non, .non]) hp
      have tl : IsTT (upd H2 p (.tup [.str (one e), .non, .non])) (.ref p) (.lf e) := ⟨he, p, rfl, upd_same⟩
      have t3 := t2.same sp
      refine ⟨_, rfl, _, rfl, _, rfl, (by show 3 ≤ sizeLine; decide), fun p1 hp1 => ?_⟩
      have s1 := same_new (o := .tup [.str "+", .ref a, .ref a]) hp1
      refine ⟨_, rfl, _, rfl, _, rfl, (by show 3 ≤ sizeLine; decide), fun p2 hp2 => ?_⟩
      have s2 := same_new (o := .tup [.str "+", .ref p, .ref a]) hp2
      refine ⟨(by show 3 ≤ sizeLine; decide), fun p3 hp3 => ?_⟩
      have s3 := same_new (o := .tup [.str "&", .ref a, .ref p2]) hp3
      refine ⟨_, rfl, _, rfl, _, rfl, (by show 3 ≤ sizeLine; decide), fun p4 hp4 => ?_⟩
      have s4 := same_new (o := .tup [.str "&", .ref a, .ref p]) hp4
      refine ⟨(by show 3 ≤ sizeLine; decide), fun p5 hp5 => ?_⟩
      have s5 := same_new (o := .tup [.str "+", .ref a, .ref p4]) hp5
      refine ⟨(by show 4 ≤ sizeLine; decide), fun l hl => ?_⟩
      have s6 := same_new (o := .lst [.ref a, .ref p1, .ref p3, .ref p5]) hl
      have m0 : 0 ≤ d % 4 := Int.emod_nonneg d (by decide)
      have m1 : d % 4 < 4 := Int.emod_lt_of_pos d (by decide)
      obtain ⟨w', hw, hm⟩ := atI_ex (xs := [.ref a, .ref p1, .ref p3, .ref p5]) m0 m1
      refine ⟨_, rfl, _, _, rfl, rfl, (by show (0 : Int) < 4; decide), l, _, _, w', rfl, rfl, SqL.of upd_same, hw, ?_⟩
      have s16 := s1.trans (s2.trans (s3.trans (s4.trans (s5.trans s6))))
      have s26 := s2.trans (s3.trans (s4.trans (s5.trans s6)))
      have s36 := s3.trans (s4.trans (s5.trans s6))
      have s46 := s4.trans (s5.trans s6)
      have s56 := s5.trans s6
      have kk := k1.trans (k2.trans (Kept.of (sp.trans s16)))
      have bb := (b2.same (sp.trans s16)).mono (show N + 1 + 1 ≤ N + 2 * (n + 1) by omega)
      have tt := t3.same s16
      have tl2 := tl.same s16
      simp only [List.mem_cons, List.not_mem_nil, or_false] at hm
      rcases hm with rfl | rfl | rfl | rfl
      · exact q _ _ (.lf c) kk bb tt (by simp only [dep]; omega)
      · exact q _ _ (.nd 43 (.lf c) (.lf c)) kk bb ⟨rfl, p1, _, _, rfl, s26 _ _ upd_same, tt, tt⟩ (by simp only [dep]; omega)
      · exact q _ _ (.nd 38 (.lf c) (.nd 43 (.lf e) (.lf c))) kk bb ⟨rfl, p3, _, _, rfl, s46 _ _ upd_same, tt, ⟨rfl, p2, _, _, rfl, s36 _ _ upd_same, tl2, tt⟩⟩ (by simp only [dep]; omega)
      · exact q _ _ (.nd 43 (.lf c) (.nd 38 (.lf c) (.lf e))) kk bb ⟨rfl, p5, _, _, rfl, s6 _ _ upd_same, tt, ⟨rfl, p4, _, _, rfl, s56 _ _ upd_same, tt, tl2⟩⟩ (by simp only [dep]; omega)
    | nd c l r =>
      obtain ⟨hc, a, u, z, rfl, ha, hl, hr'⟩ := id ht
      have hwf := ht.wf
      simp only [dep] at hd q
      obtain ⟨m, rfl⟩ : ∃ m, n = m + 1 := ⟨n - 1, by omega⟩
      have un : u ≠ .non := by obtain ⟨a, e⟩ := hl.ref; rw [e]; intro z; cases z
      refine ⟨_, rfl, a, _, rfl, SqT.of ha, rfl, _, _, rfl, _, _, rfl, _, _, rfl, rfl, ?_⟩
      refine ⟨_, rfl, ?_⟩
      dsimp -proj only [tCons, tC, tNil, List.append_nil]
      refine take_use (m := 6) hb (by omega) (by decide) (by decide) fun d H1 d0 d1 k1 b1 _ => ?_
      have tt := ht.kept k1 hb
      have tL := hl.kept k1 hb
      have tR := hr'.kept k1 hb
      refine ⟨_, rfl, rfl, _, rfl, ite_tC ?_⟩
      obtain ⟨e, he, hej⟩ : ∃ e, (if decide (V.str (one c) = V.str "+") = true then V.str "&" else V.str "+") = .str (one e) ∧ jointC e = true := by
        rcases joint_two hc with rfl | rfl
        · exact ⟨38, rfl, rfl⟩
        · exact ⟨43, rfl, rfl⟩
      rw [he]
      refine ⟨_, rfl, rfl, _, rfl, ?_⟩
      rw [show decide (u = V.non) = false from decide_eq_false un]
      refine iteF ?_
      have fin : ∀ {H2 H3 : Hp} {t' : Tr} {v' : V} {M : Nat}, Kept b H H2 → Same H2 H3 → BoxK H2 b M → M ≤ N + 2 * (m + 1 + 1) → IsTT H3 v' t' → dep t' ≤ max (dep l) (dep r) + 1 + 2 → Q v' H3 := fun {H2 H3 t' v' M} k s bx hM ht' hd' =>
        q _ _ t' (k.trans (Kept.of s)) ((bx.same s).mono hM) ht' hd'
      refine ⟨_, rfl, rfl, _, rfl, ?_⟩
      refine ite2 (fun h0 => ?_) (fun h0 => ?_)
      · refine ⟨_, rfl, _, rfl, _, rfl, (by show 3 ≤ sizeLine; decide), fun p hp => ?_⟩
        have sp := same_new (o := .tup [.str (one c), z, u]) hp
        exact fin (t' := .nd c r l) k1 sp b1 (by omega) ⟨hc, p, _, _, rfl, upd_same, tR.same sp, tL.same sp⟩ (by simp only [dep]; omega)
      · obtain ⟨a2, c2, u2, z2, rfl, h2, hj2⟩ := tR.at
        refine ⟨_, rfl, rfl, _, rfl, ite_keep ?_ fun _ y => ?_⟩
        · refine ⟨_, rfl, rfl, _, rfl, ite_keep ?_ fun _ y => ?_⟩
          · -- the tail
            refine ⟨_, rfl, _, _, rfl, rfl, (by show (0 : Int) < 2; decide), rfl, _, rfl, ?_⟩
            refine ite2 (fun _ => ?_) (fun _ => ?_)
            · refine ⟨_, rfl, _, rfl, _, rfl, b, N + 1, u, l, rfl, b1, by omega, by omega, tL, by omega, fun H2 v2 t2 k2 b2 ht2 hd2 => ?_⟩
              refine ⟨_, rfl, (by show 3 ≤ sizeLine; decide), fun p hp => ?_⟩
              have sp := same_new (o := .tup [.str (one c), v2, .ref a2]) hp
              exact fin (t' := .nd c t2 r) (k1.trans k2) sp b2 (by omega) ⟨hc, p, _, _, rfl, upd_same, ht2.same sp, (tR.kept k2 b1).same sp⟩ (by simp only [dep]; omega)
            · refine ⟨_, rfl, _, rfl, _, rfl, _, rfl, b, N + 1, .ref a2, r, rfl, b1, by omega, by omega, tR, by omega, fun H2 v2 t2 k2 b2 ht2 hd2 => ?_⟩
              refine ⟨(by show 3 ≤ sizeLine; decide), fun p hp => ?_⟩
              have sp := same_new (o := .tup [.str (one c), u, v2]) hp
              exact fin (t' := .nd c l t2) (k1.trans k2) sp b2 (by omega) ⟨hc, p, _, _, rfl, upd_same, (tL.kept k2 b1).same sp, ht2.same sp⟩ (by simp only [dep]; omega)
          · refine ⟨_, rfl, a2, _, 0, _, rfl, rfl, SqT.of h2, rfl, _, rfl, rfl, _, rfl, ?_⟩
            rw [show decide (V.str (one c2) = V.str (one e)) = (c2 == e) from dec_one]
            refine ite2 (fun hce => ?_) (fun _ => y)
            have ece : c2 = e := by simpa using hce
            obtain ⟨l2, r2, rfl, tu2, tz2⟩ := hj2 (by rw [ece]; exact hej)
            refine ⟨_, rfl, _, rfl, _, rfl, a2, _, 2, _, rfl, rfl, SqT.of h2, rfl, (by show 3 ≤ sizeLine; decide), fun p1 hp1 => ?_⟩
            have s1 := same_new (o := .tup [.str (one c), u, z2]) hp1
            obtain ⟨a3, c3, u3, z3, rfl, h3, hj3⟩ := tz2.at
            simp only [dep] at hd q fin
            have back : Q (.ref a) (upd H1 p1 (.tup [.str (one c), u, .ref a3])) := fin (t' := .nd c l (.nd c2 l2 r2)) k1 s1 b1 (by omega) (tt.same s1) (by simp only [dep]; omega)
            refine ⟨_, rfl, a2, _, 2, _, rfl, rfl, SqT.of (s1 _ _ h2), rfl, a3, _, 0, _, rfl, rfl, SqT.of (s1 _ _ h3), rfl, _, rfl, rfl, _, rfl, ite_keep ⟨_, rfl, back⟩ fun hcc y2 => ?_⟩
            have ecc : c3 = c := by
              have : (c3 == c) = true := by rw [← hcc]; exact dec_one.symm
              simpa using this
            obtain ⟨l3, r3, rfl, tu3, tz3⟩ := hj3 (by rw [ecc]; exact hc)
            have w3 := tu3.wf
            have w1 := tL.wf
            simp only [dep] at hd q fin
            refine ⟨_, rfl, a2, _, 2, _, rfl, rfl, SqT.of (s1 _ _ h2), rfl, a3, _, 1, _, rfl, rfl, SqT.of (s1 _ _ h3), rfl, _, rfl, toD l3, toD l, (tu3.same s1).dp, (tL.same s1).dp, toD_shaped w3 (by omega), toD_shaped w1 (by omega), _, rfl, ite_keep y2 fun _ _ => ?_⟩
            refine ⟨_, rfl, _, rfl, _, rfl, _, rfl, a2, _, 1, _, rfl, rfl, SqT.of (s1 _ _ h2), rfl, (by show 3 ≤ sizeLine; decide), fun p2 hp2 => ?_⟩
            have s2 := same_new (o := .tup [.str (one c), u, u2]) hp2
            refine ⟨_, rfl, (by show 3 ≤ sizeLine; decide), fun p3 hp3 => ?_⟩
            have s3 := same_new (o := .tup [.str (one e), .ref p2, .ref p1]) hp3
            have sa := s1.trans (s2.trans s3)
            exact fin (t' := .nd e (.nd c l l2) (.nd c l (.nd c3 l3 r3))) k1 sa b1 (by omega) ⟨hej, p3, _, _, rfl, upd_same, ⟨hc, p2, _, _, rfl, s3 _ _ upd_same, tL.same sa, tu2.same sa⟩, ⟨hc, p1, _, _, rfl, (s2.trans s3) _ _ upd_same, tL.same sa, tz2.same sa⟩⟩ (by simp only [dep]; omega)
        · refine ⟨_, rfl, a2, _, 0, _, rfl, rfl, SqT.of h2, rfl, _, rfl, rfl, _, rfl, ?_⟩
          rw [show decide (V.str (one c2) = V.str (one c)) = (c2 == c) from dec_one]
          refine ite2 (fun hce => ?_) (fun _ => y)
          have ece : c2 = c := by simpa using hce
          obtain ⟨l2, r2, rfl, tu2, tz2⟩ := hj2 (by rw [ece]; exact hc)
          simp only [dep] at hd q fin
          refine ⟨_, rfl, _, rfl, _, rfl, _, rfl, a2, _, 1, _, rfl, rfl, SqT.of h2, rfl, (by show 3 ≤ sizeLine; decide), fun p1 hp1 => ?_⟩
          have s1 := same_new (o := .tup [.str (one c), u, u2]) hp1
          refine ⟨_, rfl, a2, _, 2, _, rfl, rfl, SqT.of (s1 _ _ h2), rfl, (by show 3 ≤ sizeLine; decide), fun p2 hp2 => ?_⟩
          have s2 := same_new (o := .tup [.str (one c), .ref p1, z2]) hp2
          have sa := s1.trans s2
          exact fin (t' := .nd c (.nd c l l2) r2) k1 sa b1 (by omega) ⟨hc, p2, _, _, rfl, upd_same, ⟨hc, p1, _, _, rfl, s2 _ _ upd_same, tL.same sa, tu2.same sa⟩, tz2.same sa⟩ (by simp only [dep]; omega)
theorem ok_near {fdT : FuncData} (F : FnP K "_law_near" iNear (He.ga K "_law_near") fd) (T : Txt K mg) (FT : FnP K "_law_take" iTake (He.ga K "_law_take") fdT) : ∀ n, FnOk P w K mg base CX0 (2 + n) (He.ga K "_law_near") fd ["_law_box_here", "_law_tree_here"] (spNear n) := by
  intro n
  induction n with
  | zero => exact ok_near1 F T FT 0 ⟨fun _ _ _ _ h => h.elim, fun _ _ _ _ _ _ _ _ _ _ _ _ _ h => h.elim⟩
  | succ n ih => exact ok_near1 F T FT (n + 1) (by rw [show 1 + (n + 1) = 2 + n by omega]; exact ih)
end
end KM

set_option Elab.async false
set_option linter.all false
set_option maxRecDepth 100000
set_option maxHeartbeats 4000000
/-! # _law_first -/
namespace KM
open PySem PySem.Spec PyProof.Rows L2 VX KW
section
variable {P : Program} {w : World} {K : PySem.W.Frag} {mg : Str → Option Value} {base : Heap} {f : Addr} {fd : FuncData}
theorem lmV_eq {k : List Nat} {s t : Tr} (hs : WF s = true) (ht : WF t = true) : decide (lmV k s = lmV k t) = (mk k s == mk k t) := by
  unfold lmV
  by_cases hk : k = PL
  · subst hk
    rw [if_pos rfl, if_pos rfl, lp_mk hs, lp_mk ht]
    exact dec_one
  · rw [if_neg hk, if_neg hk]
    obtain ⟨_, e1⟩ := li_mk hk hs
    obtain ⟨_, e2⟩ := li_mk hk ht
    rw [e1, e2, Bool.eq_iff_iff, decide_eq_true_eq, beq_iff_eq]
    constructor
    · intro h
      injection h with h
      omega
    · intro h
      rw [h]
theorem lmV_ne {k : List Nat} {s t : Tr} {Q : VK} {H : Hp} (h : Q (.bl (!decide (lmV k s = lmV k t))) H) : rNe (lmV k s) (lmV k t) H Q := by
  unfold lmV at *
  by_cases hk : k = PL
  · simp only [if_pos hk] at *
    exact ⟨rfl, h⟩
  · simp only [if_neg hk] at *
    exact ⟨rfl, h⟩
def spFirst : Sp := fun vs H Q _ => ∃ (v u : V) (s t : Tr) (o : Bool), vs = [v, u, .str (if o = true then "same" else "below")] ∧ IsTT H v s ∧ IsTT H u t ∧ dep s ≤ 20 ∧ dep t ≤ 20 ∧ ∀ H', Same H H' → Q (optV (if o = true then partK s t else gapK s t)) H'
theorem sc_first : FnScope ["_law_here", "_law_there", "_law_sort", "_law_kind"] ["_law_here", "_law_there", "_law_sort"] (defScope (top iFirst)) := ⟨rfl, rfl, rfl, by decide +kernel, rfl, by decide +kernel, by decide +kernel⟩
theorem ok_first {fdM fdW : FuncData} (F : FnP K "_law_first" iFirst f fd) (T : Txt K mg) (FM : FnP K "_law_mark" iLMark (He.ga K "_law_mark") fdM) (FW : FnP K "_law_within" iLWithin (He.ga K "_law_within") fdW) : FnOk P w K mg base CX0 24 f fd ["_law_here", "_law_there", "_law_sort"] spFirst := by
  have GM : FnOk P w K mg base CX0 22 _ fdM ["_law_tree_here", "_law_kind"] (spLMark 20) := ok_lmark FM T 20
  have BM : Binds K fdM ["_law_tree_here", "_law_kind"] [] := FM.bindsN fun _ _ _ _ _ _ us hl => match us, hl with | [_, _], _ => rfl
  have GW : FnOk P w K mg base CX0 23 _ fdW ["_law_here", "_law_there", "_law_kind"] spLWithin := ok_lwithin FW T FM
  have BW : Binds K fdW ["_law_here", "_law_there", "_law_kind"] [] := FW.bindsN fun _ _ _ _ _ _ us hl => match us, hl with | [_, _, _], _ => rfl
  refine F.ok sc_first (fun vs H Q E h => ?_) (fun cdv A outer s H vs Q E hr h => ?_)
  · obtain ⟨v, u, s, t, o, rfl, _⟩ := h
    rfl
  · obtain ⟨v, u, s', t, o, rfl, hs, ht, ds, dt, q⟩ := h
    have nd := sc_first.nd
    have hr1 : Room 22 _ := hr.mono (by decide)
    have ws := hs.wf
    have wt := ht.wf
    refine ⟨_, PSs.nox (pss_cons (ps_for PassesOwn.never rfl (pi_list (pe_lst (pa_cons pe_str (pa_cons pe_str (pa_cons pe_str (pa_cons pe_str (pa_cons pe_str (pa_cons pe_str (pa_cons pe_str (pa_cons pe_str (pa_cons pe_str pa_nil))))))))))) (pg_name (i := 3) nd rfl (.inl rfl)) (pss_cons (ps_if (PW.pt (pw_and (pt_cmpR op_eq (pv 2) pe_str (nomark _)) (pw_and1 (pt_cmpR op_ne (pe_call GM hr1 (by rfl) (T.df "_law_mark" iLMark) FM.kp BM .nil pass0 (pa_cons (pv 0) (pa_cons (pv 3) pa_nil))) (pe_call GM hr1 (by rfl) (T.df "_law_mark" iLMark) FM.kp BM .nil pass0 (pa_cons (pv 1) (pa_cons (pv 3) pa_nil))) (nomark _))))) (pss_one (ps_ret (pv 3))) pss_nil) (pss_one (ps_if (PW.pt (pw_and (pt_cmpR op_eq (pv 2) pe_str (nomark _)) (pw_and1 (pt_not (pt_val (pe_call GW hr (by rfl) (T.df "_law_within" iLWithin) FW.kp BW .nil pass0 (pa_cons (pv 0) (pa_cons (pv 1) (pa_cons (pv 3) pa_nil))))))))) (pss_one (ps_ret (pv 3))) pss_nil)))) (pss_one (ps_ret pe_non))), ?_⟩
    refine ⟨(by show 9 ≤ sizeLine; decide), fun p hp => ⟨p, rfl, ⟨_, SqL.of upd_same⟩, ?_⟩⟩
    have sp := same_new (o := .lst kindV) hp
    cases o with
    | true =>
      refine for_it (walk_list (K := K) (a := p) (xs := kindV)) (fun i σ H' => (∃ y3, σ = [some v, some u, some (.str "same"), y3]) ∧ Same (upd H p (.lst kindV)) H' ∧ ∀ j, j < i → ∀ k, kinds[j]? = some k → (fun k => mk k s' != mk k t) k = false) ⟨⟨none, rfl⟩, Same.refl _, fun j hj => absurd hj (Nat.not_lt_zero j)⟩ (fun _ _ H' _ y => SqL.of (y.2.1 _ _ upd_same)) ?_ ?_
      · rintro i v1 σ H1 H2' hi ⟨⟨y3, rfl⟩, sm, hn⟩ ⟨rfl, hv⟩
        obtain ⟨k, hk, rfl⟩ := kind_at hv
        have s0 := sp.trans sm
        refine ⟨_, rfl, rfl, _, rfl, ?_⟩
        refine iteT ⟨_, rfl, _, rfl, v, s', k, rfl, hs.same s0, ds, fun H2 s2 => ⟨_, rfl, _, rfl, u, t, k, rfl, (ht.same s0).same s2, dt, fun H3 s3 => lmV_ne ?_⟩⟩
        have s03 := (s0.trans s2).trans s3
        refine ⟨_, rfl, ?_⟩
        rw [lmV_eq ws wt]
        cases hb : (mk k s' == mk k t) with
        | false =>
          refine iteT ⟨_, rfl, ?_⟩
          have e : partK s' t = some k := find_at hk (by show (mk k s' != mk k t) = true; rw [bne, hb]; rfl) hn
          simp only [if_true] at q
          rw [e] at q
          exact q _ s03
        | true =>
          refine iteF ⟨_, rfl, rfl, _, rfl, iteF ⟨⟨_, rfl⟩, (sm.trans s2).trans s3, fun j hj k2 hk2 => ?_⟩⟩
          by_cases e : j = i
          · subst e
            rw [hk] at hk2
            cases hk2
            show (mk k s' != mk k t) = false
            rw [bne, hb]
            rfl
          · exact hn j (by omega) k2 hk2
      · rintro σ H1 ⟨⟨y3, rfl⟩, sm, hn⟩
        have e : partK s' t = none := find_no fun i k hk => hn i (by
          obtain ⟨hi, _⟩ := List.getElem?_eq_some_iff.mp hk
          exact hi) k hk
        simp only [if_true] at q
        rw [e] at q
        exact q _ (sp.trans sm)
    | false =>
      refine for_it (walk_list (K := K) (a := p) (xs := kindV)) (fun i σ H' => (∃ y3, σ = [some v, some u, some (.str "below"), y3]) ∧ Same (upd H p (.lst kindV)) H' ∧ ∀ j, j < i → ∀ k, kinds[j]? = some k → (fun k => !isW (mk k s') (mk k t)) k = false) ⟨⟨none, rfl⟩, Same.refl _, fun j hj => absurd hj (Nat.not_lt_zero j)⟩ (fun _ _ H' _ y => SqL.of (y.2.1 _ _ upd_same)) ?_ ?_
      · rintro i v1 σ H1 H2' hi ⟨⟨y3, rfl⟩, sm, hn⟩ ⟨rfl, hv⟩
        obtain ⟨k, hk, rfl⟩ := kind_at hv
        have s0 := sp.trans sm
        refine ⟨_, rfl, rfl, _, rfl, iteF ⟨_, rfl, rfl, _, rfl, iteT ⟨_, rfl, _, rfl, _, rfl, v, u, s', t, k, rfl, hs.same s0, ht.same s0, ds, dt, fun H2 s2 => ⟨_, rfl, ?_⟩⟩⟩⟩
        rw [liW_eq ws wt]
        cases hb : isW (mk k s') (mk k t) with
        | false =>
          refine iteT ⟨_, rfl, ?_⟩
          have e : gapK s' t = some k := find_at hk (by show (!isW (mk k s') (mk k t)) = true; rw [hb]; rfl) hn
          simp only [Bool.false_eq_true, if_false] at q
          rw [e] at q
          exact q _ (s0.trans s2)
        | true =>
          refine iteF ⟨⟨_, rfl⟩, sm.trans s2, fun j hj k2 hk2 => ?_⟩
          by_cases e : j = i
          · subst e
            rw [hk] at hk2
            cases hk2
            show (!isW (mk k s') (mk k t)) = false
            rw [hb]
            rfl
          · exact hn j (by omega) k2 hk2
      · rintro σ H1 ⟨⟨y3, rfl⟩, sm, hn⟩
        have e : gapK s' t = none := find_no fun i k hk => hn i (by
          obtain ⟨hi, _⟩ := List.getElem?_eq_some_iff.mp hk
          exact hi) k hk
        simp only [Bool.false_eq_true, if_false] at q
        rw [e] at q
        exact q _ (sp.trans sm)
end
end KM

set_option Elab.async false
set_option linter.all false
set_option maxRecDepth 100000
set_option maxHeartbeats 4000000
/-! # law -/
namespace KM
open PySem PySem.Spec PyProof.Rows L2 VX KW
section
variable {P : Program} {w : World} {K : PySem.W.Frag} {mg : Str → Option Value} {base : Heap} {f : Addr} {fd : FuncData}
/-- the law's defs; the program's -/
structure Lwf (K : PySem.W.Frag) (fdT fdB fdR fdN fdW fdM fdF fdC fdI : FuncData) : Prop where
  ft : FnP K "_law_take" iTake (He.ga K "_law_take") fdT
  fb : FnP K "_law_box" iBox (He.ga K "_law_box") fdB
  fc : FnP K "_law_cell" iCell (He.ga K "_law_cell") fdC
  fr : FnP K "_law_tree" iTree (He.ga K "_law_tree") fdR
  fn : FnP K "_law_near" iNear (He.ga K "_law_near") fdN
  fw : FnP K "_law_word" iLWord (He.ga K "_law_word") fdW
  fm : FnP K "_law_mark" iLMark (He.ga K "_law_mark") fdM
  fi : FnP K "_law_within" iLWithin (He.ga K "_law_within") fdI
  ff : FnP K "_law_first" iFirst (He.ga K "_law_first") fdF
structure Prf (K : PySem.W.Frag) (fdMs fdMk fdSa fdPt fdBe fdBr fdWn : FuncData) : Prop where
  fmarks : FnP K "marks" iMarks (He.ga K "marks") fdMs
  fmark : FnP K "mark" iMark (He.ga K "mark") fdMk
  fsame : FnP K "same" iSame (He.ga K "same") fdSa
  fpart : FnP K "parting" iParting (He.ga K "parting") fdPt
  fbel : FnP K "below" iBelow (He.ga K "below") fdBe
  fwn : FnP K "within_on" iWon (He.ga K "within_on") fdWn
  fbre : FnP K "breach" iBreach (He.ga K "breach") fdBr
theorem kw_one {x g : Str} {pa : Arguments} {bd : List Stmt} {sc : Scope} (F : FunD K x x pa bd sc [] [] f fd) (b : ∀ (kV doc pm : Value) (an : Option Addr) (cdv ct u : Value), bindArgs (PySem.W.fnOf x x pa bd sc .none kV doc pm an cdv ct) ⟨[], [(g, u)]⟩ = pure ([(g, u)] : List (Str × Value))) (s : Shared) (u : Value) : BindsTo s fd ⟨[], [(g, u)]⟩ [(g, u)] := by
  obtain ⟨oc, od, dV, kV, doc, pm, an, cdv, ct, osl, rfl, lk, hcd, hD, hK⟩ := F.ex
  rcases hD with ⟨_, rfl⟩ | ⟨e, _⟩
  · exact .of_eq (b _ _ _ _ _ _ _)
  · exact absurd rfl e
theorem kw_two {x g h a b : Str} {o : Bool} {pa : Arguments} {bd : List Stmt} {sc : Scope} (F : FunD K x x pa bd sc [] [] f fd) (bb : ∀ (kV doc pm : Value) (an : Option Addr) (cdv ct u v : Value), bindArgs (PySem.W.fnOf x x pa bd sc .none kV doc pm an cdv ct) ⟨[], [(a, u), (b, v)]⟩ = pure ((if o = true then [(g, u), (h, v)] else [(g, v), (h, u)]) : List (Str × Value))) (s : Shared) (u v : Value) :
    BindsTo s fd ⟨[], [(a, u), (b, v)]⟩ (if o = true then [(g, u), (h, v)] else [(g, v), (h, u)]) := by
  obtain ⟨oc, od, dV, kV, doc, pm, an, cdv, ct, osl, rfl, lk, hcd, hD, hK⟩ := F.ex
  rcases hD with ⟨_, rfl⟩ | ⟨e, _⟩
  · exact .of_eq (bb _ _ _ _ _ _ _ _)
  · exact absurd rfl e
theorem rNe_opt {o : Option (List Nat)} {Q : VK} {H : Hp} (h : Q (.bl false) H) : rNe (optV o) (optV o) H Q := by
  cases o with
  | none => exact ⟨rfl, h⟩
  | some k =>
    refine ⟨rfl, ?_⟩
    show Q (.bl (!decide (V.str (kS k) = V.str (kS k)))) H
    rw [decide_eq_true rfl]
    exact h
theorem opt_non {o : Option (List Nat)} : decide (optV o = V.non) = decide (o = none) := by
  cases o with
  | none => rfl
  | some k => rfl
theorem rNe_bl {a b : Bool} {Q : VK} {H : Hp} (e : a = b) (h : Q (.bl false) H) : rNe (.bl a) (.bl b) H Q := by
  subst e
  refine ⟨rfl, ?_⟩
  show Q (.bl (!decide (V.bl a = V.bl a))) H
  rw [decide_eq_true rfl]
  exact h
theorem part_sym (s t : Tr) : partK s t = partK t s := by
  unfold partK
  congr 1
  funext k
  show (!(mk k s == mk k t)) = (!(mk k t == mk k s))
  rw [Bool.beq_comm]
theorem lm_mark {s : Tr} (h : WF s = true) : kinds.map (fun k => lmV k s) = kinds.map (markV s) := by
  refine List.map_congr_left fun k _ => ?_
  unfold lmV markV
  by_cases hk : k = PL
  · subst hk
    rw [if_pos rfl, if_pos rfl, lp_mk h]
  · rw [if_neg hk, if_neg hk, (li_mk hk h).2]
theorem markV_one (s : Tr) (k : List Nat) : OneV (markV s k) := by
  unfold markV
  split
  · exact .inl rfl
  · exact .inl rfl
def spLaw (K : PySem.W.Frag) : Sp := fun vs H Q _ => ∃ (l : Addr) (ns : List Int), vs = [.ref l] ∧ SqL K H l (ns.map V.int) ∧ ∀ H', Q (.bl true) H'
abbrev nW : List Str := ["_law_script", "_law_names", "_law_k", "_law_box_here", "_law_tree_here", "_law_near_here", "_law_turn", "_law_far", "_law_here", "_law_there", "_law_first_here", "_law_second", "_law_told", "_law_due", "_law_part", "_law_gap", "_law_back", "_law_name"]
theorem sc_law : FnScope nW ["_law_script"] (defScope (top iLaw)) := ⟨rfl, rfl, rfl, by decide +kernel, rfl, by decide +kernel, by decide +kernel⟩
theorem ok_law {fdT fdB fdR fdN fdW fdM fdF fdC fdI fdMs fdMk fdSa fdPt fdBe fdBr fdWn fdw fds fdc fdl fdg fdp fdWi fd1 : FuncData} {dv : V} (F : FnP K "law" iLaw f fd) (T : Txt K mg) (Z : Lwf K fdT fdB fdR fdN fdW fdM fdF fdC fdI) (Y : Prf K fdMs fdMk fdSa fdPt fdBe fdBr fdWn) (X : Mkf K fdw fds fdc fdl fdg fdp) (W : Wif K fdWi dv fd1) : FnOk P w K mg base CX0 28 f fd ["_law_script"] (spLaw K) := by
  have GT : FnOk P w K mg base CX0 1 _ fdT ["_law_box_here", "_law_many"] (spTake) := ok_take Z.ft T
  have BT : Binds K fdT ["_law_box_here", "_law_many"] [] := Z.ft.bindsN fun _ _ _ _ _ _ us hl => match us, hl with | [_, _], _ => rfl
  have GBx : FnOk P w K mg base CX0 2 _ fdB ["_law_script", "_law_k"] (spBox K) := ok_box Z.fb T Z.fc
  have BBx : Binds K fdB ["_law_script", "_law_k"] [] := Z.fb.bindsN fun _ _ _ _ _ _ us hl => match us, hl with | [_, _], _ => rfl
  have GTr : FnOk P w K mg base CX0 12 _ fdR ["_law_box_here", "_law_size"] (spTree 10) := ok_tree Z.fr T Z.ft 10
  have BTr : Binds K fdR ["_law_box_here", "_law_size"] [] := Z.fr.bindsN fun _ _ _ _ _ _ us hl => match us, hl with | [_, _], _ => rfl
  have GN : FnOk P w K mg base CX0 22 _ fdN ["_law_box_here", "_law_tree_here"] (spNear 20) := ok_near Z.fn T Z.ft 20
  have BN : Binds K fdN ["_law_box_here", "_law_tree_here"] [] := Z.fn.bindsN fun _ _ _ _ _ _ us hl => match us, hl with | [_, _], _ => rfl
  have GLw : FnOk P w K mg base CX0 24 _ fdW ["_law_tree_here"] (spLWord K 20) := ok_lword Z.fw T W 20
  have BLw : Binds K fdW ["_law_tree_here"] [] := Z.fw.bindsN fun _ _ _ _ _ _ us hl => match us, hl with | [_], _ => rfl
  have GLm : FnOk P w K mg base CX0 22 _ fdM ["_law_tree_here", "_law_kind"] (spLMark 20) := ok_lmark Z.fm T 20
  have BLm : Binds K fdM ["_law_tree_here", "_law_kind"] [] := Z.fm.bindsN fun _ _ _ _ _ _ us hl => match us, hl with | [_, _], _ => rfl
  have GF : FnOk P w K mg base CX0 24 _ fdF ["_law_here", "_law_there", "_law_sort"] (spFirst) := ok_first Z.ff T Z.fm Z.fi
  have BF : Binds K fdF ["_law_here", "_law_there", "_law_sort"] [] := Z.ff.bindsN fun _ _ _ _ _ _ us hl => match us, hl with | [_, _, _], _ => rfl
  have GMs : FnOk P w K mg base CX0 25 _ fdMs ["word"] (spMarks K) := ok_marks Y.fmarks T Y.fmark X
  have KMs := kw_one (g := "word") Y.fmarks fun _ _ _ _ _ _ _ => rfl
  have GSa : FnOk P w K mg base CX0 26 _ fdSa ["one", "other"] (spBool K partK) := ok_same Y.fsame T Y.fpart Y.fmark X
  have BSa : Binds K fdSa ["one", "other"] [] := Y.fsame.bindsN fun _ _ _ _ _ _ us hl => match us, hl with | [_, _], _ => rfl
  have GPt : FnOk P w K mg base CX0 25 _ fdPt ["one", "other"] (spFind K partK) := ok_parting Y.fpart T Y.fmark X
  have BPt : Binds K fdPt ["one", "other"] [] := Y.fpart.bindsN fun _ _ _ _ _ _ us hl => match us, hl with | [_, _], _ => rfl
  have GBe : FnOk P w K mg base CX0 27 _ fdBe ["one", "other"] (spBool K gapK) := ok_below Y.fbel T Y.fbre Y.fwn Y.fmark X
  have BBe : Binds K fdBe ["one", "other"] [] := Y.fbel.bindsN fun _ _ _ _ _ _ us hl => match us, hl with | [_, _], _ => rfl
  have GBr : FnOk P w K mg base CX0 26 _ fdBr ["one", "other"] (spFind K gapK) := ok_breach Y.fbre T Y.fwn Y.fmark X
  have BBr : Binds K fdBr ["one", "other"] [] := Y.fbre.bindsN fun _ _ _ _ _ _ us hl => match us, hl with | [_, _], _ => rfl
  have K1 := kw_two (g := "one") (h := "other") (a := "one") (b := "other") (o := true) Y.fsame fun _ _ _ _ _ _ _ _ => rfl
  have K2 := kw_two (g := "one") (h := "other") (a := "other") (b := "one") (o := false) Y.fpart fun _ _ _ _ _ _ _ _ => rfl
  have K3 := kw_two (g := "one") (h := "other") (a := "other") (b := "one") (o := false) Y.fbel fun _ _ _ _ _ _ _ _ => rfl
  have K4 := kw_two (g := "one") (h := "other") (a := "other") (b := "one") (o := false) Y.fbre fun _ _ _ _ _ _ _ _ => rfl
  refine F.ok sc_law (fun vs H Q E h => ?_) (fun cdv A outer s H vs Q E hr h => ?_)
  · obtain ⟨l, ns, rfl, _⟩ := h
    rfl
  · obtain ⟨l, ns, rfl, hs, k⟩ := h
    have nd := sc_law.nd
    have hr1 : Room 1 _ := hr.mono (by decide)
    have hr2 : Room 2 _ := hr.mono (by decide)
    have hr12 : Room 12 _ := hr.mono (by decide)
    have hr22 : Room 22 _ := hr.mono (by decide)
    have hr24 : Room 24 _ := hr.mono (by decide)
    have hr26 : Room 26 _ := hr.mono (by decide)
    have hr25 : Room 25 _ := hr.mono (by decide)
    have hu := hu_of hr
    have hu0 := hr.units0
    have bi : bootBuiltins "isinstance" = some (Value.builtin "isinstance") := by decide +kernel
    have bb : bootBuiltins "bool" = some (Value.type "bool") := by decide +kernel
    refine ⟨_, PSs.nox (pss_cons (ps_set (i := 1) nd rfl (.inl rfl) (pe_lst (pa_cons pe_str (pa_cons pe_str (pa_cons pe_str (pa_cons pe_str (pa_cons pe_str (pa_cons pe_str (pa_cons pe_str (pa_cons pe_str (pa_cons pe_str pa_nil))))))))))) (pss_cons (ps_for PassesOwn.never rfl (pi_range1 (by rfl) (T.fr "range") (pa_cons (pe_callB (call_max2 rfl) (by rfl) (T.fr "max") (by decide +kernel) (pa_cons pe_int (pa_cons (pe_callB (call_min2 rfl) (by rfl) (T.fr "min") (by decide +kernel) (pa_cons pe_int (pa_cons (pe_callB call_len_seq (by rfl) (T.fr "len") boot_len (pa_cons (pv 0) pa_nil)) pa_nil))) pa_nil))) pa_nil)) (pg_name (i := 2) nd rfl (.inl rfl)) (pss_cons (ps_set (i := 3) nd rfl (.inl rfl) (pe_call GBx hr2 (by rfl) (T.df "_law_box" iBox) Z.fb.kp BBx .nil pass0 (pa_cons (pv 0) (pa_cons (pv 2) pa_nil)))) (pss_cons (ps_set (i := 4) nd rfl (.inl rfl) (pe_call GTr hr12 (by rfl) (T.df "_law_tree" iTree) Z.fr.kp BTr .nil pass0 (pa_cons (pv 3) (pa_cons (pe_op op_add pe_int (pe_call GT hr1 (by rfl) (T.df "_law_take" iTake) Z.ft.kp BT .nil pass0 (pa_cons (pv 3) (pa_cons pe_int pa_nil)))) pa_nil)))) (pss_cons (ps_set (i := 5) nd rfl (.inl rfl) (pv 4)) (pss_cons (ps_for PassesOwn.never rfl (pi_range1 (by rfl) (T.fr "range") (pa_cons (pe_op op_add pe_int (pe_call GT hr1 (by rfl) (T.df "_law_take" iTake) Z.ft.kp BT .nil pass0 (pa_cons (pv 3) (pa_cons pe_int pa_nil)))) pa_nil)) (pg_name (i := 6) nd rfl (.inl rfl)) (pss_one (ps_set (i := 5) nd rfl (.inl rfl) (pe_call GN hr22 (by rfl) (T.df "_law_near" iNear) Z.fn.kp BN .nil pass0 (pa_cons (pv 3) (pa_cons (pv 5) pa_nil)))))) (pss_cons (ps_set (i := 7) nd rfl (.inl rfl) (pe_call GTr hr12 (by rfl) (T.df "_law_tree" iTree) Z.fr.kp BTr .nil pass0 (pa_cons (pv 3) (pa_cons (pe_op op_add pe_int (pe_call GT hr1 (by rfl) (T.df "_law_take" iTake) Z.ft.kp BT .nil pass0 (pa_cons (pv 3) (pa_cons pe_int pa_nil)))) pa_nil)))) (pss_one (ps_for PassesOwn.never rfl (pi_list (pe_lst (pa_cons (pe_tup (pa_cons (pv 4) (pa_cons (pv 5) pa_nil))) (pa_cons (pe_tup (pa_cons (pv 4) (pa_cons (pv 7) pa_nil))) (pa_cons (pe_tup (pa_cons (pv 7) (pa_cons (pv 5) pa_nil))) (pa_cons (pe_tup (pa_cons (pv 5) (pa_cons (pv 4) pa_nil))) pa_nil)))))) (pg_tup (by rfl) (pgs_cons (pg_name (i := 8) nd rfl (.inr rfl)) (pgs_cons (pg_name (i := 9) nd rfl (.inl rfl)) pgs_nil))) (pss_cons (ps_set (i := 10) nd rfl (.inl rfl) (pe_call GLw hr24 (by rfl) (T.df "_law_word" iLWord) Z.fw.kp BLw .nil pass0 (pa_cons (pv 8) pa_nil))) (pss_cons (ps_set (i := 11) nd rfl (.inl rfl) (pe_call GLw hr24 (by rfl) (T.df "_law_word" iLWord) Z.fw.kp BLw .nil pass0 (pa_cons (pv 9) pa_nil))) (pss_cons (ps_set (i := 12) nd rfl (.inr rfl) (pe_kcall1 GMs hr25 (by rfl) (T.df "marks" iMarks) Y.fmarks.kp KMs pass0 (pk_cons (pv 10) pk_nil))) (pss_cons (ps_setLc (i := 13) (own := [("_law_name", 17)]) (g := gName 17) (by rfl) nd rfl rfl (sw_true rfl rfl rfl (by decide +kernel)) (pi_list (pv 1)) (blkOk_by (own := [("_law_name", 17)]) (N := nW) (sc := defScope (top iLaw)) (by decide +kernel)) (fun _ _ _ _ _ => pg_name (i := 17) nd rfl (Or.inl rfl)) (fun _ _ _ _ _ => pts_nil) (fun _ _ _ _ _ => pe_call GLm hr22 (by rfl) (T.df "_law_mark" iLMark) Z.fm.kp BLm .nil pass0 (pa_cons (pv 8) (pa_cons (pv 17) pa_nil)))) (pss_cons (ps_if (PW.pt (pw_or (pt_cmpR (op_neSame hu0) (pe_callTy (call_list_dK rfl) (by rfl) (T.fr "list") (by decide +kernel) (pa_cons (pv 12) pa_nil)) (pv 1) (nomark _)) (pw_or1 (pt_cmpR (op_neSame hu0) (pe_lc (own := [("_law_name", 17)]) (g := gName 17) (by rfl) nd (pi_list (pv 1)) (blkOk_by (own := [("_law_name", 17)]) (N := nW) (sc := defScope (top iLaw)) (by decide +kernel)) (fun _ _ _ _ _ => pg_name (i := 17) nd rfl (Or.inl rfl)) (fun _ _ _ _ _ => pts_nil) (fun _ _ _ _ _ => pe_dget hu (pv 12) (pv 17) (fun _ _ => rfl))) (pv 13) (nomark _))))) (pss_one (ps_ret pe_bl)) pss_nil) (pss_cons (ps_if (pt_cmpR (op_neSame hu0) (pe_lc (own := [("_law_name", 17)]) (g := gName 17) (by rfl) nd (pi_list (pv 1)) (blkOk_by (own := [("_law_name", 17)]) (N := nW) (sc := defScope (top iLaw)) (by decide +kernel)) (fun _ _ _ _ _ => pg_name (i := 17) nd rfl (Or.inl rfl)) (fun _ _ _ _ _ => pts_one (pt_val (pe_callB (id := "isinstance") (r := rIsi K) call_isi (by rfl) (T.fr "isinstance") bi (pa_cons (pe_dget hu (pv 12) (pv 17) (fun _ _ => rfl)) (pa_cons (pe_bltn (v := .ty "bool") (u := .type "bool") (by rfl) (T.fr "bool") bb rfl) pa_nil))))) (fun _ _ _ _ _ => pv 17)) (pe_lst pa_nil) (nomark _)) (pss_one (ps_ret pe_bl)) pss_nil) (pss_cons (ps_expr (pe_bm0 PySem.F.plainAttrs_dict PySem.F.slot_dict_clear PySem.F.type_dict_clear mtd_clear (pv 12))) (pss_cons (ps_set (i := 14) nd rfl (.inl rfl) (pe_call GF hr24 (by rfl) (T.df "_law_first" iFirst) Z.ff.kp BF .nil pass0 (pa_cons (pv 8) (pa_cons (pv 9) (pa_cons pe_str pa_nil))))) (pss_cons (ps_if (PW.pt (pw_or (pt_cmpR op_ne (pe_call GSa hr26 (by rfl) (T.df "same" iSame) Y.fsame.kp BSa .nil pass0 (pa_cons (pv 10) (pa_cons (pv 11) pa_nil))) (pe_cmpR op_isN (pv 14) pe_non (nomark _)) (nomark _)) (pw_or1 (pt_cmpR op_ne (pe_call GPt hr25 (by rfl) (T.df "parting" iParting) Y.fpart.kp BPt .nil pass0 (pa_cons (pv 10) (pa_cons (pv 11) pa_nil))) (pv 14) (nomark _))))) (pss_one (ps_ret pe_bl)) pss_nil) (pss_cons (ps_set (i := 15) nd rfl (.inl rfl) (pe_call GF hr24 (by rfl) (T.df "_law_first" iFirst) Z.ff.kp BF .nil pass0 (pa_cons (pv 8) (pa_cons (pv 9) (pa_cons pe_str pa_nil))))) (pss_cons (ps_if (PW.pt (pw_or (pt_cmpR op_ne (pe_call GBe hr (by rfl) (T.df "below" iBelow) Y.fbel.kp BBe .nil pass0 (pa_cons (pv 10) (pa_cons (pv 11) pa_nil))) (pe_cmpR op_isN (pv 15) pe_non (nomark _)) (nomark _)) (pw_or1 (pt_cmpR op_ne (pe_call GBr hr26 (by rfl) (T.df "breach" iBreach) Y.fbre.kp BBr .nil pass0 (pa_cons (pv 10) (pa_cons (pv 11) pa_nil))) (pv 15) (nomark _))))) (pss_one (ps_ret pe_bl)) pss_nil) (pss_cons (ps_if (PW.pt (pw_or (pt_cmpR op_ne (pe_kcall2 true GSa hr26 (by rfl) (T.df "same" iSame) Y.fsame.kp K1 pass0 (pk_cons (pv 11) (pk_cons (pv 10) pk_nil))) (pe_cmpR op_isN (pv 14) pe_non (nomark _)) (nomark _)) (pw_or1 (pt_cmpR op_ne (pe_kcall2 false GPt hr25 (by rfl) (T.df "parting" iParting) Y.fpart.kp K2 pass0 (pk_cons (pv 10) (pk_cons (pv 11) pk_nil))) (pv 14) (nomark _))))) (pss_one (ps_ret pe_bl)) pss_nil) (pss_cons (ps_set (i := 16) nd rfl (.inl rfl) (pe_call GF hr24 (by rfl) (T.df "_law_first" iFirst) Z.ff.kp BF .nil pass0 (pa_cons (pv 9) (pa_cons (pv 8) (pa_cons pe_str pa_nil))))) (pss_one (ps_if (PW.pt (pw_or (pt_cmpR op_ne (pe_kcall2 false GBe hr (by rfl) (T.df "below" iBelow) Y.fbel.kp K3 pass0 (pk_cons (pv 10) (pk_cons (pv 11) pk_nil))) (pe_cmpR op_isN (pv 16) pe_non (nomark _)) (nomark _)) (pw_or1 (pt_cmpR op_ne (pe_kcall2 false GBr hr26 (by rfl) (T.df "breach" iBreach) Y.fbre.kp K4 pass0 (pk_cons (pv 10) (pk_cons (pv 11) pk_nil))) (pv 16) (nomark _))))) (pss_one (ps_ret pe_bl)) pss_nil))))))))))))))))))))))) (pss_one (ps_ret pe_bl)))), ?_⟩
    refine ⟨(by show 9 ≤ sizeLine; decide), fun nm hnm => ?_⟩
    have sn := same_new (o := .lst kindV) hnm
    refine ⟨_, rfl, l, _, rfl, .inl (Same.seq sn hs), _, _, rfl, _, _, rfl, ?_⟩
    generalize hc : (if (if ((ns.map V.int).length : Int) < 2 then ((ns.map V.int).length : Int) else 2) > 1 then (if ((ns.map V.int).length : Int) < 2 then ((ns.map V.int).length : Int) else 2) else 1) = cnt
    have hc1 : 0 ≤ cnt ∧ cnt ≤ 2 := by
      rw [← hc]
      split <;> split <;> omega
    refine ⟨cnt, rfl, by omega, by omega, for_range (lo := 0) (n := cnt.toNat) (fun i σ H' => Same (upd H nm (.lst kindV)) H' ∧ ∃ y2 y3 y4 y5 y6 y7 y8 y9 y10 y11 y12 y13 y14 y15 y16 y17, σ = [some (V.ref l), some (V.ref nm), y2, y3, y4, y5, y6, y7, y8, y9, y10, y11, y12, y13, y14, y15, y16, y17]) ⟨Same.refl _, none, none, none, none, none, none, none, none, none, none, none, none, none, none, none, none, rfl⟩ ?_ ?_⟩
    · rintro i σ H1 hi ⟨sH1, y2, y3, y4, y5, y6, y7, y8, y9, y10, y11, y12, y13, y14, y15, y16, y17, rfl⟩
      have hn1 := sH1 _ _ (upd_same (H := H) (a := nm) (o := .lst kindV))
      refine ⟨_, rfl, _, rfl, l, ns, i, (by simp), Same.seq (sn.trans sH1) hs, by omega, fun b H2 hb s2 bx => ?_⟩
      have kb : ∀ {H'}, Kept b H2 H' → Same H1 H' := fun {H'} kk c o q => kk c o (s2 c o q) (ne_of_none q hb)
      -- the trees
      refine ⟨_, rfl, _, rfl, ?_⟩
      dsimp -proj only [tCons, tC, tNil, List.append_nil]
      refine take_use (m := 5) bx (by omega) (by decide) (by decide) fun d1 H3 d10 d11 k3 b3 _ => ?_
      obtain ⟨e1, rfl⟩ : ∃ e : Nat, d1 = (e : Int) := ⟨d1.toNat, by omega⟩
      refine ⟨_, _, rfl, rfl, b, 1, e1 + 1, (by show [V.ref b, V.int (1 + (e1 : Int))] = _; rw [show (1 + (e1 : Int)) = ((e1 + 1 : Nat) : Int) by omega]), b3, by omega, by omega, by omega, by omega, fun H4 a1 t1 k4 b4 ht1 hd1 => ?_⟩
      have b4 := b4.mono (show 0 + 1 + (3 * (e1 + 1) - 2) ≤ 100 by omega)
      have k24 := k3.trans k4
      refine ⟨_, rfl, _, rfl, ?_⟩
      dsimp -proj only [tCons, tC, tNil, List.append_nil]
      refine take_use (m := 3) b4 (by omega) (by decide) (by decide) fun d2 H5 d20 d21 k5 b5 _ => ?_
      have k25 := k24.trans k5
      have ht5 := ht1.kept k5 b4
      refine ⟨_, _, rfl, rfl, 1 + d2, rfl, by omega, by omega, for_range (lo := 0) (n := (1 + d2).toNat) (fun j σ H' => Kept b H2 H' ∧ BoxK H' b (200 + 42 * j) ∧ IsTT H' (.ref a1) t1 ∧ ∃ v t y6 y7 y8 y9 y10 y11 y12 y13 y14 y15 y16 y17, σ = [some (V.ref l), some (V.ref nm), some (.int (0 + (i : Nat))), some (.ref b), some (.ref a1), some v, y6, y7, y8, y9, y10, y11, y12, y13, y14, y15, y16, y17] ∧ IsTT H' v t ∧ dep t ≤ 4 + 2 * j) ⟨k25, b5.mono (by omega), ht5, .ref a1, t1, y6, y7, y8, y9, y10, y11, y12, y13, y14, y15, y16, y17, rfl, ht5, by omega⟩ ?_ ?_⟩
      · rintro j σ H6 hj ⟨k6, b6, ht6, v, t, y6, y7, y8, y9, y10, y11, y12, y13, y14, y15, y16, y17, rfl, hv, hdv⟩
        have hj3 : j < 3 := by omega
        refine ⟨_, rfl, _, rfl, b, _, v, t, rfl, b6, by omega, by omega, hv, by omega, fun H7 v7 t7 k7 b7 hv7 hd7 => ?_⟩
        exact ⟨k6.trans k7, b7.mono (by omega), ht6.kept k7 b6, v7, t7, _, _, _, _, _, _, _, _, _, _, _, _, rfl, hv7, by omega⟩
      · rintro σ H6 ⟨k6, b6, ht6, v, t, y6, y7, y8, y9, y10, y11, y12, y13, y14, y15, y16, y17, rfl, hv, hdv⟩
        have hdv : dep t ≤ 10 := by omega
        have b6 := b6.mono (show 200 + 42 * (1 + d2).toNat ≤ 400 by omega)
        refine ⟨_, rfl, _, rfl, ?_⟩
        dsimp -proj only [tCons, tC, tNil, List.append_nil]
        refine take_use (m := 6) b6 (by omega) (by decide) (by decide) fun d3 H7 d30 d31 k7 b7 _ => ?_
        obtain ⟨e3, rfl⟩ : ∃ e : Nat, d3 = (e : Int) := ⟨d3.toNat, by omega⟩
        refine ⟨_, _, rfl, rfl, b, 401, e3 + 1, (by show [V.ref b, V.int (1 + (e3 : Int))] = _; rw [show (1 + (e3 : Int)) = ((e3 + 1 : Nat) : Int) by omega]), b7, by omega, by omega, by omega, by omega, fun H8 a3 t3 k8 b8 ht3 hd3 => ?_⟩
        have k28 := k6.trans (k7.trans k8)
        have hA := (ht6.kept k7 b6).kept k8 b7
        have hB := (hv.kept k7 b6).kept k8 b7
        have s18 := kb k28
        refine ⟨_, rfl, _, rfl, (by show 2 ≤ sizeLine; decide), fun q1 hq1 => ?_⟩
        have w1 := same_new (o := .tup [.ref a1, v]) hq1
        refine ⟨_, rfl, _, rfl, (by show 2 ≤ sizeLine; decide), fun q2 hq2 => ?_⟩
        have w2 := same_new (o := .tup [.ref a1, .ref a3]) hq2
        refine ⟨_, rfl, _, rfl, (by show 2 ≤ sizeLine; decide), fun q3 hq3 => ?_⟩
        have w3 := same_new (o := .tup [.ref a3, v]) hq3
        refine ⟨_, rfl, _, rfl, (by show 2 ≤ sizeLine; decide), fun q4 hq4 => ?_⟩
        have w4 := same_new (o := .tup [v, .ref a1]) hq4
        refine ⟨(by show 4 ≤ sizeLine; decide), fun p hp => ⟨p, rfl, ⟨_, SqL.of upd_same⟩, ?_⟩⟩
        have w5 := same_new (o := .lst [.ref q1, .ref q2, .ref q3, .ref q4]) hp
        have w25 := w2.trans (w3.trans (w4.trans w5))
        have w35 := w3.trans (w4.trans w5)
        have w45 := w4.trans w5
        have w15 := w1.trans w25
        have hAL := hA.same w15
        have hBL := hB.same w15
        have hCL := ht3.same w15
        have f1 := w25 _ _ (upd_same (H := H8) (a := q1) (o := .tup [.ref a1, v]))
        have f2 := w35 _ _ (upd_same (a := q2) (o := .tup [.ref a1, .ref a3]))
        have f3 := w45 _ _ (upd_same (a := q3) (o := .tup [.ref a3, v]))
        have f4 := w5 _ _ (upd_same (a := q4) (o := .tup [v, .ref a1]))
        have fp : (upd (upd (upd (upd (upd H8 q1 (.tup [.ref a1, v])) q2 (.tup [.ref a1, .ref a3])) q3 (.tup [.ref a3, v])) q4 (.tup [v, .ref a1])) p (.lst [.ref q1, .ref q2, .ref q3, .ref q4])) p = some (.lst [.ref q1, .ref q2, .ref q3, .ref q4]) := upd_same
        have s1L := s18.trans w15
        generalize (upd (upd (upd (upd (upd H8 q1 (.tup [.ref a1, v])) q2 (.tup [.ref a1, .ref a3])) q3 (.tup [.ref a3, v])) q4 (.tup [v, .ref a1])) p (.lst [.ref q1, .ref q2, .ref q3, .ref q4])) = HL at *
        have hnmL : HL nm = some (.lst kindV) := s1L _ _ hn1
        refine for_it (walk_list (K := K) (a := p) (xs := [.ref q1, .ref q2, .ref q3, .ref q4])) (fun j σ H' => Same HL H' ∧ ∃ z2 z3 z4 z5 z6 z7 z8 z9 z10 z11 z12 z13 z14 z15 z16 z17, σ = [some (V.ref l), some (V.ref nm), z2, z3, z4, z5, z6, z7, z8, z9, z10, z11, z12, z13, z14, z15, z16, z17]) ⟨Same.refl _, _, _, _, _, _, _, _, _, _, _, _, _, _, _, _, _, rfl⟩ (fun j σ H' _ q => SqL.of (q.1 _ _ fp)) ?_ ?_
        · rintro j x σ Hx H9 hj ⟨sL, z2, z3, z4, z5, z6, z7, z8, z9, z10, z11, z12, z13, z14, z15, z16, z17, rfl⟩ ⟨rfl, hx⟩
          obtain ⟨q, v', u', s', t', rfl, hq, hv', hu', ds, dt⟩ : ∃ q v' u' s' t', x = .ref q ∧ HL q = some (.tup [v', u']) ∧ IsTT HL v' s' ∧ IsTT HL u' t' ∧ dep s' ≤ 20 ∧ dep t' ≤ 20 := by
            have m := List.mem_of_getElem? hx
            simp only [List.mem_cons, List.not_mem_nil, or_false] at m
            rcases m with rfl | rfl | rfl | rfl
            · exact ⟨_, _, _, _, _, rfl, f1, hAL, hBL, by omega, by omega⟩
            · exact ⟨_, _, _, _, _, rfl, f2, hAL, hCL, by omega, by omega⟩
            · exact ⟨_, _, _, _, _, rfl, f3, hCL, hBL, by omega, by omega⟩
            · exact ⟨_, _, _, _, _, rfl, f4, hBL, hAL, by omega, by omega⟩
          have vs' := hv'.wf
          have vt' := hu'.wf
          refine ⟨q, _, rfl, SqT.of (sL _ _ hq), rfl, _, _, rfl, _, _, rfl, rfl, ?_⟩
          refine ⟨_, rfl, v', s', rfl, hv'.same sL, ds, fun G1 x g1 hx1 => ?_⟩
          refine ⟨_, rfl, u', t', rfl, (hu'.same sL).same g1, dt, fun G2 y g2 hy2 => ?_⟩
          have hx2 := hx1.same g2
          have c2 := (sL.trans g1).trans g2
          refine ⟨_, rfl, rfl, x, s', rfl, hx2, ds, fun G3 d g3 hd3 hdd => ?_⟩
          have c3 := c2.trans g3
          -- due
          refine ⟨_, rfl, nm, rfl, ⟨_, SqL.of (c3 _ _ hnmL)⟩, fun D hD => lc_it (walk_list (K := K) (a := nm) (xs := kindV)) (fun i H' => Same G3 H' ∧ H' D = some (.lst ((kinds.map fun k => lmV k s').take i))) ⟨same_new hD, upd_same⟩ (fun i H' _ z => SqL.of (z.1 _ _ (c3 _ _ hnmL))) ?_ ?_⟩
          · rintro i' w' Ha Hb hi' ⟨sa, ha⟩ ⟨rfl, hw⟩
            obtain ⟨k', hk', rfl⟩ := kind_at hw
            refine ⟨rfl, yes_if ?_⟩
            refine ⟨_, rfl, _, rfl, v', s', k', rfl, hv'.same (c3.trans sa), ds, fun Hc sc => ⟨_, sc _ _ ha, lt_line (Nat.le_trans (List.length_take_le' _ _) (by show 9 ≤ 100000; decide)), Same.grow (sa.trans sc) hD, ?_⟩⟩
            rw [upd_same, take_one (show (kinds.map fun k => lmV k s')[i']? = some (lmV k' s') by rw [List.getElem?_map, hk']; rfl)]
          rintro G4 ⟨g4, hD4⟩
          have hD4 : G4 D = some (.lst (kinds.map (markV s'))) := by rw [← lm_mark vs']; exact hD4
          have hd4 := g4 _ _ hdd
          have c4 := c3.trans g4
          -- list(told) != names
          refine ⟨_, rfl, d, _, rfl, hd4, fun e1 he1 => ?_⟩
          have g5 := same_new (o := .lst ((dictK (markV s')).map fun kv => kV kv.1)) he1
          refine ⟨_, rfl, e1, nm, kindV, rfl, rfl, SqL.of upd_same, SqL.of (g5 _ _ (c4 _ _ hnmL)), (fun v hv => .inl (by
            simp only [kindV, List.mem_cons, List.not_mem_nil, or_false] at hv
            rcases hv with rfl | rfl | rfl | rfl | rfl | rfl | rfl | rfl | rfl <;> rfl)), _, rfl, iteF ?_⟩
          have c5 := c4.trans g5
          have hd5 := g5 _ _ hd4
          have hD5 := g5 _ _ hD4
          generalize (upd G4 e1 (.lst ((dictK (markV s')).map fun kv => kV kv.1))) = G5 at *
          have get : ∀ {G : Hp} {i' : Nat} {k' : List Nat}, G d = some (.dK (dictK (markV s'))) → kinds[i']? = some k' → DGet G d (.str (kS k')) (some (markV s' k')) := fun {G i' k'} hG hk' => by
            have := DGet.k (k := Sum.inr (kS k')) hG
            rw [dictK_get (markV s') hk'] at this
            exact this
          refine ⟨_, rfl, nm, rfl, ⟨_, SqL.of (c5 _ _ hnmL)⟩, fun D2 hD2 => lc_it (walk_list (K := K) (a := nm) (xs := kindV)) (fun i H' => Same G5 H' ∧ H' D2 = some (.lst ((kinds.map (markV s')).take i))) ⟨same_new hD2, upd_same⟩ (fun i H' _ z => SqL.of (z.1 _ _ (c5 _ _ hnmL))) ?_ ?_⟩
          · rintro i' w' Ha Hb hi' ⟨sa, ha⟩ ⟨rfl, hw⟩
            obtain ⟨k', hk', rfl⟩ := kind_at hw
            refine ⟨rfl, yes_if ?_⟩
            refine ⟨_, rfl, _, rfl, d, _, rfl, get (sa _ _ hd5) hk', _, ha, lt_line (Nat.le_trans (List.length_take_le' _ _) (by show 9 ≤ 100000; decide)), Same.grow sa hD2, ?_⟩
            rw [upd_same, take_one (show (kinds.map (markV s'))[i']? = some (markV s' k') by rw [List.getElem?_map, hk']; rfl)]
          rintro G6 ⟨g6, hD26⟩
          have hD26 : G6 D2 = some (.lst (kinds.map (markV s'))) := hD26
          refine ⟨_, rfl, D2, D, kinds.map (markV s'), rfl, rfl, SqL.of hD26, SqL.of (g6 _ _ hD5), (fun v hv => by
            obtain ⟨k', _, rfl⟩ := List.mem_map.mp hv
            exact markV_one s' k'), _, rfl, iteF ?_⟩
          have c6 := c5.trans g6
          have hd6 := g6 _ _ hd5
          refine ⟨_, rfl, nm, rfl, ⟨_, SqL.of (c6 _ _ hnmL)⟩, fun D3 hD3 => lc_it (walk_list (K := K) (a := nm) (xs := kindV)) (fun i H' => Same G6 H' ∧ H' D3 = some (.lst [])) ⟨same_new hD3, upd_same⟩ (fun i H' _ z => SqL.of (z.1 _ _ (c6 _ _ hnmL))) ?_ ?_⟩
          · rintro i' w' Ha Hb hi' ⟨sa, ha⟩ ⟨rfl, hw⟩
            obtain ⟨k', hk', rfl⟩ := kind_at hw
            have ty : ∃ t, TyX K Hb (markV s' k') t ∧ PySem.W.kitOne K t (.type "bool") = some false := by
              unfold markV
              split
              · exact ⟨_, .base (.str _), kit_ty (by decide +kernel)⟩
              · exact ⟨_, .base (.int _), kit_ty (by decide +kernel)⟩
            obtain ⟨ty, h1, h2⟩ := ty
            exact ⟨rfl, _, rfl, _, rfl, d, _, rfl, get (sa _ _ hd6) hk', markV s' k', .ty "bool", ty, _, false, rfl, .ty _, h1, h2, false, rfl, iteF ⟨sa, ha⟩⟩
          rintro G7 ⟨g7, hD37⟩
          refine ⟨(by show 0 ≤ sizeLine; decide), fun e2 he2 => ?_⟩
          have g8 := same_new (o := .lst []) he2
          refine ⟨D3, e2, [], rfl, rfl, SqL.of (g8 _ _ hD37), SqL.of upd_same, (fun v hv => nomatch hv), _, rfl, iteF ?_⟩
          have c8 := c6.trans (g7.trans g8)
          have hd8 := (g7.trans g8) _ _ hd6
          have sG : Same G2 (upd G7 e2 (.lst [])) := g3.trans (g4.trans (g5.trans (g6.trans (g7.trans g8))))
          generalize (upd G7 e2 (.lst [])) = G8 at *
          refine ⟨_, rfl, .inr (.inr (.inl ⟨rfl, .inl ⟨_, hd8⟩⟩)), d, _, rfl, rfl, hd8, ?_⟩
          have sB : Same HL (upd G8 d (.dK [])) := Same.grow c8 (c2.free hd3)
          have sW : Same G2 (upd G8 d (.dK [])) := Same.grow sG hd3
          generalize (upd G8 d (.dK [])) = G9 at *
          have hxB := hx2.same sW
          have hyB := hy2.same sW
          -- part
          refine ⟨_, rfl, _, rfl, v', u', s', t', true, rfl, hv'.same sB, hu'.same sB, ds, dt, fun GA sA => ?_⟩
          refine ⟨_, rfl, _, rfl, x, y, s', t', rfl, hxB.same sA, hyB.same sA, ds, dt, fun GB sB1 => ⟨_, rfl, rfl, rNe_bl opt_non.symm ⟨_, rfl, iteF ?_⟩⟩⟩
          have sAB := sA.trans sB1
          refine ⟨_, rfl, _, rfl, x, y, s', t', rfl, hxB.same sAB, hyB.same sAB, ds, dt, fun GC sC => ⟨_, rfl, rNe_opt ⟨_, rfl, iteF ?_⟩⟩⟩
          have sAC := sAB.trans sC
          -- gap
          refine ⟨_, rfl, _, rfl, v', u', s', t', false, rfl, hv'.same (sB.trans sAC), hu'.same (sB.trans sAC), ds, dt, fun GD sD => ?_⟩
          have sAD := sAC.trans sD
          refine ⟨_, rfl, _, rfl, x, y, s', t', rfl, hxB.same sAD, hyB.same sAD, ds, dt, fun GE sE => ⟨_, rfl, rfl, rNe_bl opt_non.symm ⟨_, rfl, iteF ?_⟩⟩⟩
          have sAE := sAD.trans sE
          refine ⟨_, rfl, _, rfl, x, y, s', t', rfl, hxB.same sAE, hyB.same sAE, ds, dt, fun GF sF => ⟨_, rfl, rNe_opt ⟨_, rfl, iteF ?_⟩⟩⟩
          have sAF := sAE.trans sF
          -- by keywords
          refine ⟨_, rfl, _, rfl, _, _, rfl, y, x, t', s', rfl, hyB.same sAF, hxB.same sAF, dt, ds, fun GG sG1 => ⟨_, rfl, rfl, rNe_bl (by rw [part_sym t' s']; exact opt_non.symm) ⟨_, rfl, iteF ?_⟩⟩⟩
          have sAG := sAF.trans sG1
          refine ⟨_, rfl, _, rfl, _, _, rfl, y, x, t', s', rfl, hyB.same sAG, hxB.same sAG, dt, ds, fun GH sH => ?_⟩
          rw [part_sym t' s']
          refine ⟨_, rfl, rNe_opt ⟨_, rfl, iteF ?_⟩⟩
          have sAH := sAG.trans sH
          -- back
          refine ⟨_, rfl, _, rfl, u', v', t', s', false, rfl, hu'.same (sB.trans sAH), hv'.same (sB.trans sAH), dt, ds, fun GI sI => ?_⟩
          have sAI := sAH.trans sI
          refine ⟨_, rfl, _, rfl, _, _, rfl, y, x, t', s', rfl, hyB.same sAI, hxB.same sAI, dt, ds, fun GJ sJ => ⟨_, rfl, rfl, rNe_bl opt_non.symm ⟨_, rfl, iteF ?_⟩⟩⟩
          have sAJ := sAI.trans sJ
          refine ⟨_, rfl, _, rfl, _, _, rfl, y, x, t', s', rfl, hyB.same sAJ, hxB.same sAJ, dt, ds, fun GK sK => ⟨_, rfl, rNe_opt ⟨_, rfl, iteF ?_⟩⟩⟩
          exact ⟨sB.trans (sAJ.trans sK), _, _, _, _, _, _, _, _, _, _, _, _, _, _, _, _, rfl⟩
        · rintro σ H9 ⟨sL, z2, z3, z4, z5, z6, z7, z8, z9, z10, z11, z12, z13, z14, z15, z16, z17, rfl⟩
          exact ⟨sH1.trans (s1L.trans sL), _, _, _, _, _, _, _, _, _, _, _, _, _, _, _, _, rfl⟩
    · rintro σ H1 ⟨sH1, y2, y3, y4, y5, y6, y7, y8, y9, y10, y11, y12, y13, y14, y15, y16, y17, rfl⟩
      exact k H1
end
end KM

set_option Elab.async false
set_option linter.all false
set_option maxRecDepth 100000
set_option maxHeartbeats 0
/-! ## the facts of the top -/
namespace KM
open PySem PySem.Spec PyProof.Rows L2 VX KW
def dvA (K : PySem.W.Frag) : Addr := He.dflAt ("Word", some "__init__") 0 K
def dD (x : Str) (i : Nat) : He5.DefA := ⟨fun K => He.ga K x, x, x, defArgs (top i), defBody (top i), defScope (top i), [], []⟩
def dI : He5.DefA := ⟨fun K => He.ma K (wC K) "__init__", "__init__", "Word.__init__", defArgs sWI, defBody sWI, defScope sWI, [.adr dvA], []⟩
def dP (m : Str) (st : Stmt) : He5.DefA := ⟨fun K => propG K m, m, ("Word." : Str) ++ m, defArgs st, defBody st, defScope st, [], []⟩
def fn : List He5.DefA := defs.map (fun p => dD p.1 p.2) ++ [dI, dP "sign" sSg, dP "parts" sPa]
def glos : List Str := ["LEAVES", "JOINTS", "HANDS", "KINDS", "Word"]
def fa : List He.Fa := (glos.map He.Fa.glo) ++ (defs.map fun p => He.Fa.glo p.1) ++ free.map He.Fa.free ++ [.str "PLANE" "plane", .cls "Word", .noat "Word" "_sign", .noat "Word" "_parts", .mkr "Word"]
/-- an empty tuple stands at a -/
def nilB (K : PySem.W.Frag) (a : Addr) : Bool := match K.lookup a with
  | some ⟨.type c, _, .seq its _, _⟩ => decide (c = "tuple") && decide (its.size = 0)
  | _ => false
theorem nilB_ok {K : PySem.W.Frag} {a : Addr} (h : nilB K a = true) (H : Hp) : SqT K H a [] := by
  unfold nilB at h
  cases q : K.lookup a with
  | none => rw [q] at h; cases h
  | some o =>
    obtain ⟨oc, od, dt, osl⟩ := o
    rw [q] at h
    cases oc with
    | type c =>
      cases dt with
      | seq its n =>
        obtain ⟨h1, h2⟩ := He.ba (show (decide (c = "tuple") && decide (its.size = 0)) = true from h)
        have e : its = #[] := Array.eq_empty_of_size_eq_zero (of_decide_eq_true h2)
        subst e
        exact .inr ⟨_, #[], n, q, congrArg Value.type (of_decide_eq_true h1), rfl, by simp, .nil⟩
      | _ => cases h
    | _ => cases dt <;> cases h
def propB (K : PySem.W.Frag) (m : Str) : Bool := He.eqO (PySem.W.findIn K (.ref (wC K)) m) (some (some (.ref (He.ma K (wC K) m)))) && (He.eqO (PySem.W.specialIn K (.ref (He.ma K (wC K) m)) "__get__") (some (some (.builtin "property.__get__"))) && (decide (PySem.W.takesIn K (.ref (He.ma K (wC K) m)) = some true) &&
  (match PySem.W.recIn K (He.ma K (wC K) m) "property" with
    | some (.ref _ :: _) => true
    | _ => false)))
theorem propB_ok {K : PySem.W.Frag} {m : Str} (h : propB K m = true) : PropOf K (wC K) m (He.ma K (wC K) m) (propG K m) := by
  obtain ⟨h1, h⟩ := He.ba h
  obtain ⟨h2, h⟩ := He.ba h
  obtain ⟨h3, h4⟩ := He.ba h
  refine ⟨He.eqO_ok h1, He.eqO_ok h2, of_decide_eq_true h3, ?_⟩
  unfold propG
  split at h4
  · rename_i g r e
    exact ⟨r, by rw [e]⟩
  · cases h4
def kindD : List He.Dv := [.str "", .str "a", .str "b", .str "c", .str "ab", .str "ac", .str "bc", .str "abc", .str "plane"]
def ex (K : PySem.W.Frag) : Bool := (He.tupB K "LEAVES" [.str "a", .str "b", .str "c", .str "0", .str "1"] && (He.tupB K "JOINTS" [.str "+", .str "&"] && (He.tupB K "HANDS" [.str "a", .str "b", .str "c"] && He.tupB K "KINDS" kindD))) && (nilB K (dvA K) && (propB K "sign" && propB K "parts"))
theorem txt_mk {K : PySem.W.Frag} {h : Heap} {mg : Str → Option Value} (X : K.In h) (G : h.Ns mainGlobals mg) (c : He5.SaysA fa fn K) (e : ex K = true) : Txt K mg := by
  have F : ∀ f ∈ fa, f.ok K = true := fun f hf => by
    obtain ⟨i, hi, e⟩ := List.mem_iff_getElem.mp hf
    exact c.fact i (f := f) (by rw [List.getElem?_eq_getElem hi, e])
  obtain ⟨e1, e⟩ := He.ba e
  obtain ⟨t1, e1⟩ := He.ba e1
  obtain ⟨t2, e1⟩ := He.ba e1
  obtain ⟨t3, t4⟩ := He.ba e1
  obtain ⟨n0, e⟩ := He.ba e
  obtain ⟨p1, p2⟩ := He.ba e
  have m1 : ∀ {f}, f ∈ glos.map He.Fa.glo → f ∈ fa := fun h => List.mem_append_left _ (List.mem_append_left _ (List.mem_append_left _ h))
  have m2 : ∀ {f}, f ∈ (defs.map fun p => He.Fa.glo p.1) → f ∈ fa := fun h => List.mem_append_left _ (List.mem_append_left _ (List.mem_append_right _ h))
  have m3 : ∀ {f}, f ∈ KM.free.map He.Fa.free → f ∈ fa := fun h => List.mem_append_left _ (List.mem_append_right _ h)
  have m4 : ∀ {f}, f ∈ [He.Fa.str "PLANE" "plane", .cls "Word", .noat "Word" "_sign", .noat "Word" "_parts", .mkr "Word"] → f ∈ fa := fun h => List.mem_append_right _ h
  have g : ∀ x ∈ glos, mg x = some (.ref (He.ga K x)) := fun x hx => He.glo_ok X G (F _ (m1 (List.mem_map.mpr ⟨x, hx, rfl⟩)))
  exact {
    dfs := fun p hp => He.glo_ok X G (F _ (m2 (List.mem_map.mpr ⟨p, hp, rfl⟩)))
    free := fun x hx => He.free_ok X G (F _ (m3 (List.mem_map.mpr ⟨x, hx, rfl⟩)))
    leaves := g _ (.head _)
    joints := g _ (.tail _ (.head _))
    hands := g _ (.tail _ (.tail _ (.head _)))
    kinds := g _ (.tail _ (.tail _ (.tail _ (.head _))))
    plane := He.str_ok X G (F _ (m4 (.head _)))
    ltup := fun H => He.tupB_ok t1 H
    jtup := fun H => He.tupB_ok t2 H
    htup := fun H => He.tupB_ok t3 H
    ktup := fun H => He.tupB_ok t4 H
    word := g _ (.tail _ (.tail _ (.tail _ (.tail _ (.head _)))))
    cls := He.cls_ok (F _ (m4 (.tail _ (.head _))))
    fs := He.noat_ok (F _ (m4 (.tail _ (.tail _ (.head _)))))
    fp := He.noat_ok (F _ (m4 (.tail _ (.tail _ (.tail _ (.head _))))))
    mks := He.mkr_ok (F _ (m4 (.tail _ (.tail _ (.tail _ (.tail _ (.head _)))))))
    ps := propB_ok p1
    pp := propB_ok p2 }
abbrev R : PySem.W.OpenRow := PySem.W.OpenLaw.row PySem.Challenge.rw_handspaces_k22_marks_of_words
abbrev hk : PySem.W.Hook := hookMA 6 fa fn ex
def ob (s : PySem.W.SharedT) : He.AlD × Bool := obsMA 6 fa fn ex (HandSHeadRun.getT s)
theorem ob_eq (s : PySem.W.SharedT) : ob s = hk.obs s.abs := obsMA_eq (HandSHeadRun.getT_eq s)
def loose : List Str := (["_wall", "HandError", "BadSign", "BadColumn", "HANDS", "PLANE", "KINDS", "LEAVES", "JOINTS", "MOST_OPEN", "leaves", "part_text", "check_text", "read_sum", "read_intersection", "read_part", "read_word", "Word"] : List Str) ++ (defs.map (·.1)).dropLast
set_option maxRecDepth 1000000 in
theorem run (w : World) : HandSHeadRun.RunEq R (PySem.W.view R.prog [43]) hk ob 60000 loose w := by
  intro os
  kernel_rfl
end KM

set_option Elab.async false
set_option linter.all false
set_option maxRecDepth 100000
set_option maxHeartbeats 0
/-! ## the end -/
namespace KM
open PySem PySem.Spec PyProof.Rows L2 VX KW
theorem facts {P : Program} {w : World} {K : PySem.W.Frag} {h : Heap} {mg : Str → Option Value} {f : Addr} (X : K.In h) (G : h.Ns mainGlobals mg) (hfa : mg ("law" : Str) = some (.ref f)) (c : He5.SaysA fa fn K) (e : ex K = true) :
    ∃ fd : FuncData, (∀ (s : Shared) (v : Value), BindsTo s fd ⟨[v], []⟩ [("_law_script", v)]) ∧ ∀ base : Heap, K.In base → base.Ns mainGlobals mg → FnOk P w K mg base CX0 28 f fd ["_law_script"] (spLaw K) := by
  have T : Txt K mg := txt_mk X G c e
  have at_ : ∀ d ∈ fn, ∃ fd, FunD K d.name d.qual d.params d.body d.scope (d.dvs K) (d.kws K) (d.at_ K) fd := fun d hd => by
    obtain ⟨i, hi, e⟩ := List.mem_iff_getElem.mp hd
    exact c.def_ i (d := d) (by rw [List.getElem?_eq_getElem hi, e])
  have D : ∀ p ∈ defs, ∃ fd, FnP K p.1 p.2 (He.ga K p.1) fd := fun p hp => at_ (dD p.1 p.2) (List.mem_append_left _ (List.mem_map.mpr ⟨p, hp, rfl⟩))
  have M : ∀ d ∈ [dI, dP "sign" sSg, dP "parts" sPa], ∃ fd, FunD K d.name d.qual d.params d.body d.scope (d.dvs K) (d.kws K) (d.at_ K) fd := fun d hd => at_ d (List.mem_append_right _ hd)
  have ee := hfa.symm.trans (T.dfs ("law", iLaw) (by decide +kernel))
  cases ee
  obtain ⟨fd, F⟩ := D ("law", iLaw) (by decide +kernel)
  have b := FunD.bindsA (ps := ["_law_script"]) F fun _ _ _ _ _ _ us hl => match us, hl with | [_], _ => rfl
  obtain ⟨_, Ff⟩ := D ("fits", iFits) (by decide +kernel)
  obtain ⟨_, Fw⟩ := D ("is_within", iWithin) (by decide +kernel)
  obtain ⟨_, Fs⟩ := D ("sum_mark", iSumM) (by decide +kernel)
  obtain ⟨_, Fc⟩ := D ("common_mark", iComM) (by decide +kernel)
  obtain ⟨_, Fl⟩ := D ("letter_mark", iLetM) (by decide +kernel)
  obtain ⟨_, Fm⟩ := D ("mark", iMark) (by decide +kernel)
  obtain ⟨_, Fms⟩ := D ("marks", iMarks) (by decide +kernel)
  obtain ⟨_, Fpt⟩ := D ("parting", iParting) (by decide +kernel)
  obtain ⟨_, Fwn⟩ := D ("within_on", iWon) (by decide +kernel)
  obtain ⟨_, Fbr⟩ := D ("breach", iBreach) (by decide +kernel)
  obtain ⟨_, Fsa⟩ := D ("same", iSame) (by decide +kernel)
  obtain ⟨_, Fbe⟩ := D ("below", iBelow) (by decide +kernel)
  obtain ⟨_, L1⟩ := D ("_law_cell", iCell) (by decide +kernel)
  obtain ⟨_, L2⟩ := D ("_law_box", iBox) (by decide +kernel)
  obtain ⟨_, L3⟩ := D ("_law_take", iTake) (by decide +kernel)
  obtain ⟨_, L4⟩ := D ("_law_tree", iTree) (by decide +kernel)
  obtain ⟨_, L5⟩ := D ("_law_word", iLWord) (by decide +kernel)
  obtain ⟨_, L6⟩ := D ("_law_mark", iLMark) (by decide +kernel)
  obtain ⟨_, L7⟩ := D ("_law_within", iLWithin) (by decide +kernel)
  obtain ⟨_, L8⟩ := D ("_law_near", iNear) (by decide +kernel)
  obtain ⟨_, L9⟩ := D ("_law_first", iFirst) (by decide +kernel)
  obtain ⟨_, Wi⟩ := M dI (.head _)
  obtain ⟨_, Wg⟩ := M (dP "sign" sSg) (.tail _ (.head _))
  obtain ⟨_, Wp⟩ := M (dP "parts" sPa) (.tail _ (.tail _ (.head _)))
  refine ⟨fd, fun s v => b s [v] rfl, fun base _ _ => ?_⟩
  have e8 := (He.ba (He.ba e).2).1
  exact ok_law F T ⟨L3, L2, L1, L4, L8, L5, L6, L7, L9⟩ ⟨Fms, Fm, Fsa, Fpt, Fbe, Fwn, Fbr⟩ ⟨Fw, Fs, Fc, Fl, Wg, Wp⟩ (dv := .ref (dvA K)) ⟨Wi, Ff, ⟨dvA K, rfl, nilB_ok e8⟩⟩
end KM
open PySem PySem.W PySem.Calls PyProof.Rows
set_option maxRecDepth 100000 in
set_option maxHeartbeats 0 in
theorem PySem.Challenge.cw_handspaces_k22_marks_of_words_holds : PySem.Challenge.rw_handspaces_k22_marks_of_words.Holds := by
  w_on; o_law
  refine HandSHeadRun.head_any (r := KM.R) (q := view KM.R.prog [43]) (H := KM.hk) (ob := KM.ob) (M := 60000) (loose := KM.loose) (d := HandSHeadRun.topDef KM.R.prog 43) (kwd := []) KM.ob_eq
    (by kernel_rfl) (fun s => by kernel_rfl) KM.run (by kernel_rfl) (by kernel_rfl) (by kernel_rfl) (by rfl) (by first | assumption | decide +kernel) (by decide +kernel) ⟨rfl, rfl, rfl, rfl, rfl, by decide +kernel⟩ ?hw ?hc
  case hw => w_witness2
  case hc =>
    refine L2.walk_ofE (l := PySem.Challenge.rw_handspaces_k22_marks_of_words) (n := 63) (k := 28) (CX := L2.CX0) (x := "_law_script") rfl (by decide) (by kernel_rfl) ⟨rfl, by decide, by decide⟩ ?F (fun _ _ _ _ h => h)
    intro w mg fa h Y G hmg0
    obtain ⟨K, KX, c, e⟩ := Y
    have hmg : mg ("law" : PySem.Str) = some (.ref fa) := by
      have q : (HandSHeadRun.topDef KM.R.prog 43).name = ("law" : PySem.Str) := by kernel_rfl
      rw [← q]
      exact hmg0
    obtain ⟨fd, hb, hF⟩ := KM.facts (P := (PySem.Challenge.rw_handspaces_k22_marks_of_words).prog) (w := w) KX G hmg c e
    exact ⟨K, fd, KM.spLaw K, KX, hb, fun H a ns hl _ hS => ⟨a, ns, rfl, hS, fun _ => rfl⟩, hF⟩
