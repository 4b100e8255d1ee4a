import PyProof.Rows.All
import Wide.All
import OpenK.AllK
import Wide.FinOn
import HandS.ForMost
import HandS.Exc
import HandS.TryOnly
import HandS.ExcOwn
import HandS.WordsExc
import HandS.TryMany
import HandS.ExcInit
import HandS.ExcField
import HandS.ExcIs
import HandS.ExcValue
import HandS.More
import HandS.IsInst
import HandS.DeepEq
import HandS.Style
import HandS.Conv
import HandS.NoneIn
import HandS.Flow
import KE.KIsAll
import KE.KTryMore
import HandS.Defaults
import HandS.Zip
import HandS.Walk
import HandS.Replace
import HandS.ReplaceDef
import HandS.ReplaceLit
import KE.GoesMore
import KE.GoesEnum
import KE.GoesEnumKw
import OpenK.KMeth
import PyProof.Rows.CallKwBuiltin
import HandS.ClsMeth
import HandS.HeadNt
import HandS.LawCells
import HandS.HeadEnd
import HandS.Wide
import PyProof.Rows.StrJoinRep
import KE.KStateDown
import Lean
import HandS.Head0
import HandS.Head1
import HandS.Head2
import HandS.HeadHook1
import HandS.HeadHook2
import PySem.Challenge.RW_handspaces_k11_texts_refused
set_option Elab.async false
set_option linter.all false
set_option maxRecDepth 100000
set_option maxHeartbeats 2000000
namespace VX
open PySem PySem.Spec PyProof.Rows L2
/-! ### ints: a power of a greater base -/
def CPw (i j : Int) : Prop := 0 ≤ j ∧ (Builtin.Int.intBits i : Int) * j ≤ 2 ^ 27
theorem op_pw {X : Cx} : OpR X (binaryOp .Pow) (rI CPw fun i j => .int (i ^ j.toNat)) :=
  opI fun _ _ _ _ _ _ _ c q => pow_int c.1 c.2 q
/-! ### repr of data -/
inductive DX (K : PySem.W.Frag) (H : Hp) : V → PyData → Prop where
  | dp {v : V} {d : PyData} (h : Dp K H v d) : DX K H v d
  | dk {a : Addr} {x : Str} {i : Int} (h : H a = some (.dK [(Sum.inr x, .int i)])) : DX K H (.ref a) (.dict [(.str x, .int i)])
structure Shown (K : PySem.W.Frag) (H : Hp) (v : V) (d : PyData) : Prop where
  dx : DX K H v d
  sh : d.showable = true
  dep : d.depth ≤ 8
  sz : d.shown.length ≤ sizeLine
theorem kv_one {kvs : List (Key × V)} {vs : List (Key × Value)} {x : Str} {i : Int} (r : KV kvs vs) (e : kvs = [(Sum.inr x, V.int i)]) : ∃ t, vs = [(Sum.inr x, Value.int i t)] := by
  subst e
  cases r with
  | cons h t =>
    cases t
    rename_i b
    obtain ⟨k, u⟩ := b
    obtain ⟨h1, h2⟩ := h
    obtain ⟨t, h2⟩ := h2
    dsimp only at h1 h2
    subst h1 h2
    exact ⟨t, rfl⟩
theorem DX.reads {X : Cx} {pins : List (Addr × Obj)} {σ : L2.St} {H : Hp} {s : Shared} (I : Inv X pins σ H s) {d : PyData} {v : V} {u : Value} (h : DX X.K H v d) (r : RelV v u) :
    ∃ as, Reads s.heap u d as ∧ (d.hasDict = true → sysModules ∉ as) := by
  cases h with
  | dp h =>
    obtain ⟨as, q⟩ := Dp.reads I d v u h r
    refine ⟨as, q, fun hd => ?_⟩
    exfalso
    have no : ∀ (d : PyData) (v : V), Dp X.K H v d → d.hasDict = false := by
      intro d
      refine PyData.rec (motive_1 := fun d => ∀ v, Dp X.K H v d → d.hasDict = false) (motive_2 := fun ds => ∀ vs, DpAll X.K H vs ds → PyData.hasDictAll ds = false)
        (motive_3 := fun _ => True) (motive_4 := fun _ => True) ?_ ?_ ?_ ?_ ?_ ?_ ?_ ?_ ?_ ?_ ?_ ?_ d
      all_goals first
        | (intros; simp only [PyData.hasDict]; done)
        | (intro xs ih v h; simp only [PyData.hasDict]; cases h with | lst _ ha => exact ih _ ha)
        | (intro xs ih v h; simp only [PyData.hasDict]; cases h with | tup _ ha => exact ih _ ha)
        | (intro xs ih v h; cases h; done)
        | (intro vs h; simp only [PyData.hasDictAll]; done)
        | (intro x xs ih1 ih2 vs h; cases h with | cons h1 h2 => simp only [PyData.hasDictAll, ih1 _ h1, ih2 _ h2, Bool.or_self])
        | (intros; trivial)
    rw [no d v h] at hd
    cases hd
  | @dk a x i h =>
    cases (show u = Value.ref a from r)
    obtain ⟨_, ns, vs, rv, o, es, ep, e, ex, hd, hk, hp, _⟩ := (show ObjOk X.prog X.w H s.heap a (.dK [(Sum.inr x, .int i)]) from I.hok a _ h)
    obtain ⟨t, rfl⟩ := kv_one rv rfl
    obtain ⟨l⟩ := es
    cases hp with
    | @cons en kv tl tk h1 h2 h3 =>
      cases h3
      obtain ⟨t', ek⟩ := Value.isStrOf_shape (x := x) (v := en.key) (show Value.isStrOf x en.key = true from h1)
      have ev : en.val = Value.int i t := h2
      refine ⟨[a] ++ ([] ++ []) ++ ([] ++ []), Reads.dict (as := [] ++ []) (bs := [] ++ []) e ex.1 hd (ReadsAll.cons ?_ .nil) (ReadsAll.cons ?_ .nil), fun _ => ?_⟩
      · show Reads s.heap en.key (.str x) []
        rw [ek]; exact Reads.str x t'
      · show Reads s.heap en.val (.int i) []
        rw [ev]; exact Reads.int i t
      · intro m
        have e' : sysModules = a := by simpa using m
        rw [← e'] at ns
        exact absurd ns (by simp)
theorem call_repr {X : Cx} (hg : X.A.guards = some []) (hu : X.A.units + 64 < cLine) : CallR X (.builtin "repr") (fun xs H Q => ∃ v d, xs = [v] ∧ Shown X.K H v d ∧ Q (.str d.shown) H) := by
  intro pins s σ H xs us Q I r h
  obtain ⟨v, d, rfl, S, q⟩ := h
  obtain ⟨u, rfl, ru⟩ := vals1 r
  obtain ⟨as, R, hs⟩ := S.dx.reads I ru
  have leaf : ∀ {z : Str} {s' : Shared}, s' = { s with toks := s.toks + 1 } → Q (.str z) H → EP X pins σ Q (.str z s.toks) s' := fun {z s'} e q => by
    subst e
    exact ⟨.str z, H, I.tok _, ⟨_, rfl⟩, q⟩
  have sh := S.sh
  have sz := S.sz
  have dp := S.dep
  clear S ru r
  cases R with
  | none => exact P.repr_of_none (leaf rfl (by simpa only [PyData.shown] using q))
  | bool b => exact P.repr_of_bool (leaf rfl (by simpa only [PyData.shown] using q))
  | int i t => exact P.repr_of_int (by simpa [PyData.showable] using sh) (leaf rfl (by simpa only [PyData.shown] using q))
  | str x t => exact P.repr_of_str (leaf rfl (by simpa only [PyData.shown] using q)) (by simpa only [PyData.shown] using sz)
  | list a b c e => exact repr_of_reads' (Reads.list a b c e) sh hs hg (by omega) (fun _ _ z => z) (fun h' u tk k => ⟨.str _, H, I.kept k, ⟨_, rfl⟩, q⟩) sz
  | tuple a b c e => exact repr_of_reads' (Reads.tuple a b c e) sh hs hg (by omega) (fun _ _ z => z) (fun h' u tk k => ⟨.str _, H, I.kept k, ⟨_, rfl⟩, q⟩) sz
  | dict a b c e f => exact repr_of_reads' (Reads.dict a b c e f) sh hs hg (by omega) (fun _ _ z => z) (fun h' u tk k => ⟨.str _, H, I.kept k, ⟨_, rfl⟩, q⟩) sz
/-! ### lists of the very same things -/
def OneV (v : V) : Prop := flatB v = true ∨ ∃ c, v = .ref c
theorem one_eq {A : Around} {s : Shared} {v : V} {u u' : Value} (o : OneV v) (r : RelV v u) (r' : RelV v u') : SeqAt.EqAt A s u u' true := by
  rcases o with o | ⟨c, rfl⟩
  · exact eqAt_same r r' o
  · cases (show u = Value.ref c from r)
    cases (show u' = Value.ref c from r')
    exact SeqAt.EqAt.same _
theorem all_one {A : Around} {s : Shared} : ∀ {xs : List V} {us ws : List Value}, (∀ v ∈ xs, OneV v) → Vals xs us → Vals xs ws → ∀ j (h1 : j < us.length) (h2 : j < ws.length), SeqAt.EqAt A s us[j] ws[j] true
  | [], _, _, _, .nil, .nil, j, h1, _ => absurd h1 (Nat.not_lt_zero j)
  | x :: xs, _, _, o, .cons a b, .cons a' b', 0, _, _ => one_eq (o x List.mem_cons_self) a a'
  | x :: xs, _, _, o, .cons a b, .cons a' b', j + 1, h1, h2 => all_one (fun v hv => o v (List.mem_cons_of_mem _ hv)) b b' j (Nat.lt_of_succ_lt_succ h1) (Nat.lt_of_succ_lt_succ h2)
def rSame (K : PySem.W.Frag) (b : Bool) : R2 := fun x y H Q => ∃ p q xs, x = .ref p ∧ y = .ref q ∧ SqL K H p xs ∧ SqL K H q xs ∧ (∀ v ∈ xs, OneV v) ∧ Q (.bl b) H
theorem op_neSame {X : Cx} (hu : X.A.units < cLine) : OpR X (compareOp .NotEq) (rSame X.K false) := by
  intro pins s σ H x y v u Q I rx ry h
  obtain ⟨p, q, xs, rfl, rfl, hp, hq, ho, hQ⟩ := h
  cases (show v = Value.ref p from rx)
  cases (show u = Value.ref q from ry)
  obtain ⟨us, r1, p1, _⟩ := I.list hp
  obtain ⟨ws, r2, p2, _⟩ := I.list hq
  have hsz : us.toArray.size = ws.toArray.size := by
    rw [List.size_toArray, List.size_toArray, ← r1.length, ← r2.length]
  refine SeqAt.RcNeAt.lists (e := fun _ => true) p1.isList p2.isList hsz hu (fun j h1 h2 => ?_) _ _ _ _ ?_
  · have k := all_one (A := X.A.in1) (s := s) ho r1 r2 j (by simpa using h1) (by simpa using h2)
    simpa using k
  · rw [show ((List.range us.toArray.size).all fun _ => true) = true from List.all_eq_true.mpr fun _ _ => rfl]
    exact ⟨.bl false, H, I, rfl, hQ⟩
theorem op_eqSame {X : Cx} (hu : X.A.units < cLine) : OpR X (compareOp .Eq) (rSame X.K true) := by
  intro pins s σ H x y v u Q I rx ry h
  obtain ⟨p, q, xs, rfl, rfl, hp, hq, ho, hQ⟩ := h
  cases (show v = Value.ref p from rx)
  cases (show u = Value.ref q from ry)
  obtain ⟨us, r1, p1, _⟩ := I.list hp
  obtain ⟨ws, r2, p2, _⟩ := I.list hq
  have hsz : us.toArray.size = ws.toArray.size := by
    rw [List.size_toArray, List.size_toArray, ← r1.length, ← r2.length]
  refine SeqAt.RcAt.lists (e := fun _ => true) p1.isList p2.isList hsz hu (fun j h1 h2 => ?_) _ _ _ _ ?_
  · have k := all_one (A := X.A.in1) (s := s) ho r1 r2 j (by simpa using h1) (by simpa using h2)
    simpa using k
  · rw [show ((List.range us.toArray.size).all fun _ => true) = true from List.all_eq_true.mpr fun _ _ => rfl]
    exact ⟨.bl true, H, I, rfl, hQ⟩
end VX

set_option Elab.async false
set_option linter.all false
set_option maxRecDepth 100000
set_option maxHeartbeats 4000000
/-! exceptions as values -/
namespace VX
open PySem PySem.Spec PyProof.Rows L2
section
variable {X : Cx} {pins : List (Addr × Obj)} {σ : L2.St} {H : Hp} {s s' : Shared}
/-- the same state, the heap grown -/
theorem Inv.up (I : L2.Inv X pins σ H s) (k : ∀ b o, s.heap.get? b = some o → s'.heap.get? b = some o) (ho : s'.os = s.os) (hb : AllBare s'.gens) : L2.Inv X pins σ H s' :=
  I.call' (ch := []) ho (Un.kept k) (I.hok.kept k) hb fun b z => absurd z (by simp)
/-- the same state, the heap grown by one thing that is tracked from now on -/
theorem Inv.upA {a : Addr} {o : HO} (I : L2.Inv X pins σ H s) (k : ∀ b o, s.heap.get? b = some o → s'.heap.get? b = some o) (n : s.heap.get? a = none) (na : H a = none) (new : ObjOk X.prog X.w (upd H a o) s'.heap a o) (ho : s'.os = s.os) (hb : AllBare s'.gens) :
    L2.Inv X pins σ (upd H a o) s' :=
  I.call' (ch := []) ho (Un.laidN k n na) (I.hok.laidN k na new) hb fun b z => absurd z (by simp)
end
/-- an exception that stands at a, of the class cls, its own dict d -/
def ExD (cls : Value) (d : Option Addr) (a : Addr) : HO := .ext fun h => ∃ (oe : Obj) (vs : Array Value), h.get? a = some oe ∧ Zc cls d oe ∧ oe.data = .fields vs
theorem exD_ok {P : Program} {w : World} {H : Hp} {h : Heap} {a : Addr} {cls : Value} {d : Option Addr} {oe : Obj} {vs : Array Value} (e : h.get? a = some oe) (z : Zc cls d oe) (q : oe.data = .fields vs) : ObjOk P w H h a (ExD cls d a) :=
  ⟨⟨oe, vs, e, z, q⟩, ⟨oe, e⟩, fun _ _ ⟨o, v, p, r⟩ k => ⟨o, v, k o p, r⟩⟩
/-- C(..), the exception itself -/
theorem pe_exV {X : Cx} {e : Expr} {t : L2.St → Hp → XK → Prop} (he : PMk X e t) : PE X e (fun σ H Q => t σ H fun cls d H1 => ∀ a, H1 a = none → Q (.ref a) (upd H1 a (ExD cls d a))) := by
  refine ⟨fun pins s σ H Q I h => ?_⟩
  refine thn (he pins s σ H _ I h) fun u s1 hu => ?_
  obtain ⟨a, oe, vs, sI, H', cls, d, rfl, J, k, n, ha, hz, hd, _, na, os, ag, _, q⟩ := hu
  exact ⟨.ref a, _, Inv.upA J k n na (exD_ok ha hz hd) os ag, rfl, q a na⟩
/-- C(..).n -/
theorem pe_exGet {X : Cx} {e : Expr} {n : Str} {pos : Pos} {t : L2.St → Hp → XK → Prop} (he : PMk X e t) (hb : attributeBase e n X.env (eval e X.env) = eval e X.env := by rfl) :
    PE X (.Attribute e n pos) (fun σ H Q => t σ H fun cls d H1 => ∃ (C dd : Addr) (fs : List (Str × V)) (v : V), cls = .ref C ∧ d = some dd ∧ XfC X.K C ∧ PySem.W.findIn X.K (.ref C) n = some none ∧ H1 dd = some (.xd fs) ∧ fs.lookup n = some v ∧ Q v H1) := by
  refine ⟨fun pins s σ H Q I h => ?_⟩
  refine attr_of hb (thn (he pins s σ H _ I h) fun u s1 hu => ?_)
  obtain ⟨a, oe, vs, sI, H', cls, d, rfl, J, k, n0, ha, hz, hd, _, na, os, ag, _, C, dd, fs, v, rfl, rfl, T, hno, hx, hl, q⟩ := hu
  have J1 := Inv.up (s' := s1) J k os ag
  obtain ⟨mA, hns, hr⟩ := (show ObjOk X.prog X.w H' s1.heap dd (.xd fs) from J1.hok dd _ hx)
  obtain ⟨od, ho, hlk⟩ := lookIn_ns hns
  obtain ⟨u, hu, ru⟩ := RelO.some_of (v := v) (o := mA n) (by rw [← hl]; exact hr n)
  have it : PySem.W.InstAt s1.heap a oe C (some od) := ⟨ha, hz.1, by unfold PySem.W.notCls; rw [hd] <;> rfl, by rw [hz.2]; exact ho⟩
  exact HandSPX.exc_get J1.kIn it T.ga T.gg T.exC (PySem.W.findObj_own T.hdC hno rfl (by rw [hlk, hu])) (handed_of ru) ⟨v, H', J1.tok _, ru, q⟩
end VX

set_option Elab.async false
set_option linter.all false
set_option maxRecDepth 100000
set_option maxHeartbeats 4000000
/-! isinstance of an exception that may have its own dict -/
namespace VX
open PySem PySem.Spec PySem.Calls PyProof.Rows PySem.W
section
variable {pg : Program} {wd : World} {B : Around} {Er : Value → Shared → Prop} {st : Shared} {F : Frag} {y D : Addr} {oy : Obj} {od : Option Obj}
theorem bindsAt {C : Addr} {nm : Str} {a g : Value} (hc : (clsIn F C).isSome = true) (h1 : findIn F (.ref C) nm = some (some a)) (h2 : specialIn F a "__get__" = some (some g)) (h3 : takesIn F a = some true) : findObj F C od nm = some (.bind g a) := by
  cases e : clsIn F C with
  | none => rw [e] at hc; cases hc
  | some cd => simp [findObj, e, h1, h2, h3]
structure ExIs (F : Frag) (D : Addr) : Prop where
  xc : L2.ExcC F D
theorem clsSome (h : hasDictIn F D = true) : (clsIn F D).isSome = true := by
  obtain ⟨cd, hc, _⟩ := any_some h
  rw [hc]; rfl
theorem class_of_exc {Q : Option Value → Shared → Prop} (T : L2.ExcC F D) (X : F.In st.heap) (I : InstAt st.heap y oy D od) (h : Q (some (.ref D)) { st with toks := st.toks + 1 }) : wpAny (model pg wd) B (getAttr? (.ref y) "__class__") Q Er st := by
  have fb : findObj F D od "__class__" = some (.bind (.builtin "getset_descriptor.__get__") (.builtin "object.__class__")) := bindsAt (clsSome T.hd) T.ha T.hn T.ht
  obtain ⟨hp, gs, dr, tk, os⟩ := st
  have a0 := I.type (M := model pg wd)
  have a1 := looks_findIn (M := model pg wd) X T.hg
  have a2 := looks_findIn (M := model pg wd) X T.hk
  have a3 := looks_find (M := model pg wd) X I fb
  have sb : Looks (model pg wd) hp (isInstance (.ref y) (.type "BaseException")) true := a0.andThen (looks_subIn X T.hs)
  have ne : (Value.builtin "BaseException.__getattribute__" == Value.builtin "object.__getattribute__") = false := by decide +kernel
  have nf : (onTheHeap (Value.ref D) && Value.builtin "BaseException.__getattribute__" == Value.builtin "object.__getattribute__") = false := by rw [ne]; rfl
  unfold getAttr? getAttrBy? getAttrBy
  refine wpAny_bind (wpAny_mkText (wpAny_bind (wpAny_attempt (wpAny_holding (wpAny_bind (a0.at (wpAny_bind (a1.at ?z1))))))))
  case z1 =>
    show wpAny _ _ (if (onTheHeap (Value.ref D) && Value.builtin "BaseException.__getattribute__" == Value.builtin "object.__getattribute__") = true then _ else _) _ _ _
    rw [nf, if_neg Bool.false_ne_true]; unfold getAttrByItsOwn hookBefore
    refine wpAny_bind ?z2
    case z2 =>
      rw [if_pos (show onTheHeap (Value.ref D) = true from rfl)]; refine a2.at (wpAny_bind (wpAny_attempt (wpAny_holding ?z3)))
      case z3 =>
        unfold callGetattribute; rw [show (false && onTheHeap (Value.builtin "BaseException.__getattribute__")) = false from rfl, if_neg Bool.false_ne_true]
        unfold boundAndCalled; rw [PySem.F.excAttr_ValueError.ga.bind (.ref y)]
        refine wpAny_bind (wpAny_pure ?z4)
        case z4 =>
          show wpAny _ _ (call (.builtin "BaseException.__getattribute__") [.ref y, .str "__class__" tk]) _ _ _
          refine wpAny_call (codeAny_call_builtin PySem.F.excAttr_ValueError.ga.plain PySem.F.entry_bexc_ga ?z5)
          case z5 =>
            refine @check_slot (model pg wd) _ _ ⟨hp, gs, dr, tk + 1, os⟩ "BaseException.__getattribute__" "BaseException" "__getattribute__" (.ref y) [.str "__class__" tk] [] _ (by decide +kernel) (by decide +kernel) sb (PySem.F.args_bexc_ga (.ref y) (.str "__class__" tk)) ?z6
            case z6 =>
              unfold Builtin.«object.__getattribute__»
              refine wpAny_bind (wpAny_of_eq (a := ((Value.ref y : Value), [Value.str "__class__" tk])) (by first | rfl | (simp only [slotArgs]; rfl)) (wpAny_bind (wpAny_pure (wpAny_bind (a0.at (wpAny_bind (a3.at ?z7)))))))
              case z7 =>
                show wpAny _ _ (holding [Value.builtin "object.__class__"] (call (.builtin "getset_descriptor.__get__") [.builtin "object.__class__", .ref y, .ref D]) >>= ret) _ _ _
                refine wpAny_bind (wpAny_holding (wpAny_call (class_get (s := ⟨hp, gs, dr, tk + 1, os⟩) (ox := oy) (od := od) X I T.hm (wpAny_pure ?z8))))
                case z8 =>
                  show wpAny _ _ (handedOut (.ref D)) _ _ _
                  rw [handedOut_of (v := .ref D) rfl]
                  first | exact wpAny_pure (wpAny_pure h) | exact wpAny_pure h | exact wpAny_pure (wpAny_bind (wpAny_pure (wpAny_pure h)))
theorem kitx_exd (T : L2.ExcC F D) : KitX F (.ref y) (.ref D) (fun h => ∃ oy od, InstAt h y oy D od) where
  ty := fun _ _ _ ⟨_, _, I⟩ => I.type
  it := fun M h X _ A Q E s k q => by
    have z := clsSome T.hd
    unfold clsIn at z
    split at z
    · rename_i hk
      unfold isType loadHead
      exact wpAny_bind (wpAny_loadPart (k _ _ (X _ _ hk)) (wpAny_pure q))
    · cases z
  ne := fun h tp dd its n sl X htp => by
    cases e : (Value.ref D == Value.ref tp) with
    | false => rfl
    | true =>
      have e2 : D = tp := Value.ref.inj (beq_iff_eq.mp e)
      subst e2
      have z := clsSome T.hd
      unfold clsIn at z
      split at z
      · rename_i hk
        exact nomatch (X _ _ hk).symm.trans htp
      · cases z
  ca := fun X ⟨_, _, I⟩ q => class_of_exc T X I q
end
end VX
namespace VX
open PySem PySem.Spec PyProof.Rows L2
/-- isinstance(e, c) of such an exception -/
def rIsX (K : PySem.W.Frag) : List V → Hp → VK → Prop := fun xs H Q => ∃ (a D : Addr) (d : Option Addr) (c : V) (cv : Value) (b : Bool), xs = [.ref a, c] ∧ ExcC K D ∧ H a = some (ExD (.ref D) d a) ∧ (∀ dd, d = some dd → ∃ o, H dd = some o) ∧ ClsV c cv ∧ PySem.W.kitOne K (.ref D) cv = some b ∧ Q (.bl b) H
theorem call_isX {X : Cx} : CallR X (.builtin "isinstance") (rIsX X.K) := by
  intro pins s σ H xs us Q I r h
  obtain ⟨a, D, d, c, cv, b, rfl, T, ha, hd, hc, e, q⟩ := h
  obtain ⟨u1, u2, rfl, r1, r2⟩ := vals2 r
  have e2 := hc.eq r2
  subst e2
  cases (show u1 = Value.ref a from r1)
  have ok : ObjOk X.prog X.w H s.heap a (.ext fun h => ∃ (oe : Obj) (vs : Array Value), h.get? a = some oe ∧ Zc (.ref D) d oe ∧ oe.data = .fields vs) := I.hok a _ ha
  obtain ⟨⟨oe, vs, ho, hz, hf⟩, _, _⟩ := ok
  have J : ∃ od, PySem.W.InstAt s.heap a oe D od := by
    have nc : PySem.W.notCls oe = true := by unfold PySem.W.notCls; rw [hf] <;> rfl
    cases d with
    | none => exact ⟨none, ho, hz.1, nc, by rw [hz.2]; trivial⟩
    | some dd =>
      obtain ⟨o, hdd⟩ := hd dd rfl
      obtain ⟨ob, hob⟩ := objOk_get (I.hok dd o hdd)
      exact ⟨some ob, ho, hz.1, nc, by rw [hz.2]; exact hob⟩
  obtain ⟨od, J⟩ := J
  exact PySem.W.kia_one (kitx_exd T) I.kIn ⟨oe, od, J⟩ e (fun z => nomatch z) fun tk => ⟨.bl b, H, I.tok tk, rfl, q⟩
end VX

set_option Elab.async false
set_option linter.all false
set_option maxRecDepth 100000
set_option maxHeartbeats 4000000
/-! C(f = v), C an exception's class with its own __init__ -/
namespace VX
open PySem PySem.Calls PySem.HandSPX
section
variable {M : Model} {pg : Program} {wd : World} {B : Around} {Er : Value → Shared → Prop} {R : Result → Shared → Prop} {hh : Heap} {gs : Array GenState} {dr : Drawn} {tk : Nat} {os : OsState}
variable {nm q : Str} {C N : Addr} {bs bm bB : List Value} {hd : Bool} {sn : List Str} {sub : List Value} {ab : Bool} {col : Option Bool} {dd : Option Addr} {m0 m1 m2 m3 m5 : Option Value} {T nid iid : String} {kw : List (Str × Value)}
theorem chkNewK (F : ExcBaseFacts T nid iid bB) (hT : ∀ Y : String, bm.contains (.type Y) = bB.contains (.type Y)) {Q : Unit → Shared → Prop} (hC : hh.get? C = some (excClassObj nm q C N bs bm hd sn sub ab col dd m0 m1 m2 m3 m5 nid)) (hq : Q () ⟨hh, gs, dr, tk, os⟩) :
    wpAny M B (checkBuiltinCall nid ⟨[.ref C], kw⟩) Q Er ⟨hh, gs, dr, tk, os⟩ := by
  have hc : (Value.ref C :: bm).contains (.type T) = true := by rw [List.contains_cons, hT, F.hasB, Bool.or_true]
  have hs := F.noStar
  simp only [checkBuiltinCall, F.newKind, F.newSplit, F.newRow]
  repeat (first | refine wpAny_loadPart_at hC ?_ | (refine wpAny_isSubtype_exc hC ?_; rw [hc]) | refine wpAny_staticBase_exc hC ?_ | refine wpAny_madeBy_exc hC ?_ | simp only [bne_self_eq_false, Bool.false_eq_true, if_false] | wp_step)
  exact hq
end
section
variable {pg : Program} {wd : World} {B : Around} {Er : Value → Shared → Prop} {R : Result → Shared → Prop} {hh : Heap} {gs : Array GenState} {dr : Drawn} {tk : Nat} {os : OsState}
variable {nm q : Str} {C N : Addr} {bs bm bB : List Value} {hd : Bool} {sn : List Str} {sub : List Value} {ab : Bool} {col : Option Bool} {dd : Option Addr} {m0 m1 m2 m3 m5 : Option Value} {T nid iid : String} {kw : List (Str × Value)}
/-- the heap behind C.__new__(C, f = v) -/
abbrev born (hh : Heap) (C : Addr) : Heap := (hh.push (W.kdv_tup [])).push (excO C hh.objs.size)
theorem newK (F : ExcBaseFacts T nid iid bB) (hT : ∀ Y : String, bm.contains (.type Y) = bB.contains (.type Y)) (hC : hh.get? C = some (excClassObj nm q C N bs bm hd sn sub ab col dd m0 m1 m2 m3 m5 nid))
    (hq : R (.ok (.ret (.ref (hh.objs.size + 1)))) ⟨born hh C, gs, dr, tk, os⟩) : codeAny (model pg wd) B (.builtin nid ⟨[.ref C], kw⟩) R ⟨hh, gs, dr, tk, os⟩ := by
  have he := F.ends
  have cB : (Value.ref C :: bm).contains (.type T) = true := by rw [List.contains_cons, hT, F.hasB, Bool.or_true]
  have cA : (Value.ref C :: bm).contains (.type "AttributeError") = false := by rw [List.contains_cons, hT, F.noAttr]; rfl
  have cN : (Value.ref C :: bm).contains (.type "NameError") = false := by rw [List.contains_cons, hT, F.noName]; rfl
  refine codeAny_builtinAt F.entry ?_
  unfold Builtin.«BaseException.__new__»
  refine wpAt_bind ?_
  show wpAt _ _ _ (stack >>= _) _ _ _
  refine wpAt_bind (wpAt_stack fun p below => wpAt_of_wpAny ?_)
  wp_walk
  refine wpAt_of_wpAny ?_
  rw [F.owner]
  repeat (first | with_reducible refine wpAny_madeHere_exc F.canon hC ?_ | with_reducible refine wpAny_loadPart_at hC ?_ | (with_reducible refine wpAny_isSubtype_exc hC ?_; first | rw [cB] | rw [cA] | rw [cN]) | wp_step)
  show R _ _
  rw [Heap.size_push]
  exact hq
theorem typeCallK (F : ExcBaseFacts T nid iid bB) (hT : ∀ Y : String, bm.contains (.type Y) = bB.contains (.type Y)) {fI : Addr} {Q : Fin → Shared → Prop} (hC : hh.get? C = some (excClassObj nm q C N bs bm hd sn sub ab col dd m0 m1 m2 m3 m5 nid))
    (hi : W.Looks (model pg wd) hh (typeLookup (.ref C) "__init__") (some (.ref fI))) (hb : ∀ o, W.Looks (model pg wd) hh (bindSpecial (.ref fI) o) (.ref fI, [o]))
    (hq : codeAny (model pg wd) B (.call (.ref fI) ⟨[.ref (hh.objs.size + 1)], kw⟩) (fun r s' => match r with | .ok (.ret v) => v = .none ∧ Q (.done (.ret (.ref (hh.objs.size + 1)))) s' | .ok _ => False | .error e => Er e s') ⟨born hh C, gs, dr, tk, os⟩) :
    wpAny (model pg wd) B (Builtin.«type.__call__» ⟨[.ref C], kw⟩) Q Er ⟨hh, gs, dr, tk, os⟩ := by
  repeat (first | with_reducible refine wpAny_loadPart_at hC ?_ | with_reducible refine wpAny_madeBy_exc hC ?_ | wp_step)
  refine codeAny_call_builtin_code (Code.quiet_builtin _ F.quiet) (chkNewK F hT hC (newK F hT hC ?_))
  show wpAny _ _ _ _ _ _
  have k : ∀ b o, hh.get? b = some o → (born hh C).get? b = some o := fun b o e => Heap.get?_push_of_some _ (Heap.get?_push_of_some _ e)
  have hC1 := k _ _ hC
  have hg : (born hh C).get? (hh.objs.size + 1) = some (excO C hh.objs.size) := by heap_get
  have cC : (Value.ref C :: bm).contains (.ref C) = true := by simp
  have i1 := hi.keeps k
  have b1 := (hb (.ref (hh.objs.size + 1))).keeps k
  unfold isInstance
  repeat (first | with_reducible refine wpAny_loadPart_at hg ?_ | (with_reducible refine wpAny_isSubtype_exc hC1 ?_; rw [cC]) | wp_step)
  show wpAny _ _ (typeLookup (.ref C) _) _ _ _
  refine i1.at ?_
  refine wpAny_holding (wpAny_bind (b1.at (wpAny_bind (wpAny_call (codeAny_mono hq fun r s' z => ?_)))))
  rcases r with e | (v | _ | _ | _) <;> first | exact z | exact z.elim | skip
  obtain ⟨rfl, z⟩ := z
  first
    | exact wpAny_pure (wpAny_pure z)
    | (wp_walk; exact z)
theorem callK (F : ExcBaseFacts T nid iid bB) (hT : ∀ Y : String, bm.contains (.type Y) = bB.contains (.type Y)) {fI : Addr} (hC : hh.get? C = some (excClassObj nm q C N bs bm hd sn sub ab col dd m0 m1 m2 m3 m5 nid))
    (hi : W.Looks (model pg wd) hh (typeLookup (.ref C) "__init__") (some (.ref fI))) (hb : ∀ o, W.Looks (model pg wd) hh (bindSpecial (.ref fI) o) (.ref fI, [o]))
    (hq : codeAny (model pg wd) (B.under (.builtin "type.__call__" ⟨[.ref C], kw⟩)) (.call (.ref fI) ⟨[.ref (hh.objs.size + 1)], kw⟩) (W.InitBack (hh.objs.size + 1) R) ⟨born hh C, gs, dr, tk, os⟩) :
    codeAny (model pg wd) B (.call (.ref C) ⟨[], kw⟩) R ⟨hh, gs, dr, tk, os⟩ := by
  have f1 := tc_lookup
  have f2 := tc_bind (.ref C)
  have tT : (⟨hh, gs, dr, tk, os⟩ : Shared).TypeIs (.ref C) "type" := ⟨_, hC, rfl⟩
  have ck : wpAny (model pg wd) B.in1 (checkBuiltinCall "type.__call__" ⟨[.ref C], kw⟩) (fun _ s => s = ⟨hh, gs, dr, tk, os⟩) (fun _ _ => False) ⟨hh, gs, dr, tk, os⟩ := by
    have f3 := tc_sub
    simp only [checkBuiltinCall, tc_kind, tc_split]
    repeat (any_goals (first | assumption | rfl | with_reducible refine wpAny_loadPart_at hC ?_ | with_reducible refine wpAny_onRaise ?_ | with_reducible refine wpAny_map ?_ | wp_step))
  refine codeAny_of_tree ?_
  show wpAny _ _ (callAny (.ref C) _) _ _ _
  repeat (any_goals (first | assumption | with_reducible refine wpAny_loadPart_at hC ?_ | wp_step))
  refine ⟨rfl, codeAny_call_builtin_at (Code.quiet_builtin _ (by decide +kernel)) entry_typeCall (wpAny_mono ck (fun _ s' e => ?_) fun _ _ z => False.elim z)⟩
  subst e
  refine typeCallK F hT hC hi hb (codeAny_mono hq fun r s' z => ?_)
  rcases r with e | (v | _ | _ | _) <;> exact z
end
end VX
namespace VX
open PySem PySem.Spec PyProof.Rows L2
/-- C(f = v), C's own __init__ keeping sp -/
def tMkK (C : Addr) (sp : Sp) (ta : TA) : L2.St → Hp → XK → Prop := fun σ H Q => ta σ H fun zs H1 => zs.length = 1 ∧ ∀ a, H1 a = none → sp (.ref a :: zs) (upd H1 a (exo a C none))
  (fun v H2 => v = .non ∧ ∃ (d : Addr) (fs : List (Str × V)), H2 a = some (exo a C (some d)) ∧ H2 d = some (exd d fs) ∧ H1 d = none ∧ Q (.ref C) (some d) (upd (del H2 a) d (.xd fs))) (fun _ _ _ => False)
theorem pmk_oexK {X : Cx} {CX : CXT} {x f : Str} {C fI : Addr} {k : Nat} {fd : FuncData} {sp : Sp} {p kpos pos : Pos} {e : Expr} {ta : TA} (T : OexC X.K C) (iC : PySem.W.findIn X.K (.ref C) "__init__" = some (some (.ref fI))) (tI : PySem.W.typeIn X.K (.ref fI) = some (.type "function"))
    (F1 : FnOk X.prog X.w X.K X.mg X.base CX k fI fd ["self", f] sp) (hr : Room (k + 1) X.A) (hb : ∀ (s : Shared) (u v : Value), X.K.In s.heap → BindsTo s fd ⟨[u], [(f, v)]⟩ [("self", u), (f, v)]) (hx : Passes CX X (fun _ _ _ => False)) (hg : Gl X x) (hm : X.mg x = some (.ref C))
    (ha : PK X [⟨some f, e, kpos⟩] ta) (hdb : (x == ("__debug__" : Str)) = false := by decide) (hpl : ((backTo pos (starEach [] X.env)).any (·.1) || (backToKw pos (keywordEach [⟨some f, e, kpos⟩] X.env)).any (·.1.isNone)) = false := by rfl)
    (hall : (backToKw pos (keywordEach [⟨some f, e, kpos⟩] X.env)).all (·.1.isSome) = true := by rfl) (hks : (backToKw pos (keywordEach [⟨some f, e, kpos⟩] X.env)).filterMap (·.1) = [f] := by rfl) :
    PMk X (.Call (.Name x p) [] [⟨some f, e, kpos⟩] pos) (tMkK C sp ta) := by
  intro pins s σ H Q I h
  obtain ⟨nm, q, N, bs, bm, sn, sub, ab, col, dd, k0, k1, k2, k3, k5, hC, hbm⟩ := T.cls
  refine wpAny_Call_Name_kw (ld_glob I hg hm ?_ hdb)
  refine PySem.W.callWith_KW0 (h₀ := X.base) I.ok.mod.kin T.kC hall ?_ hpl
  refine thn (ha.run pos pins s σ H _ I h) fun ws s1 ⟨zs, H1, I1, rz, l1, q1⟩ => ⟨I1.kIn, ?_⟩
  rw [hks]
  obtain ⟨z, rfl⟩ : ∃ z, zs = [z] := by
    cases zs with
    | nil => cases l1
    | cons z r =>
      cases r with
      | nil => exact ⟨z, rfl⟩
      | cons _ _ => cases l1
  obtain ⟨u, rfl, ru⟩ := vals1 rz
  show wpAny _ _ (call (.ref C) [] [(f, u)]) _ _ _
  obtain ⟨hp, g, dr, tk, os⟩ := s1
  have hsz : hp.objs.size ≤ hp.objs.size + 1 := Nat.le_succ _
  have hn : H1 (hp.objs.size + 1) = none := I1.hok.fresh hsz
  have hq := q1 (hp.objs.size + 1) hn
  have kk : ∀ b o, hp.get? b = some o → (born hp C).get? b = some o := fun b o e => Heap.get?_push_of_some _ (Heap.get?_push_of_some _ e)
  have hget : (born hp C).get? (hp.objs.size + 1) = some (PySem.HandSPX.excO C hp.objs.size) := by heap_get
  have I2 : L2.Inv X pins σ (upd H1 (hp.objs.size + 1) (exo (hp.objs.size + 1) C none)) ⟨born hp C, g, dr, tk, os⟩ :=
    I1.laid (t' := tk) (a := hp.objs.size + 1) (o := exo (hp.objs.size + 1) C none) (h' := born hp C) kk hsz (exo_ok hget)
  have r2 : Vals [V.ref (hp.objs.size + 1), z] [Value.ref (hp.objs.size + 1), u] := .cons rfl (.cons ru .nil)
  have e1 : Env0 X.prog X.w X.K X.mg X.base (X.A.under (.builtin "type.__call__" ⟨[.ref C], [(f, u)]⟩)) X.stack ⟨born hp C, g, dr, tk, os⟩ (upd H1 (hp.objs.size + 1) (exo (hp.objs.size + 1) C none)) := I2.env0.make C [] [(f, u)]
  refine wpAny_call (callK PySem.F.excBase_ValueError (fun Y => PySem.HandSPX.refsVE_contains Y bm hbm) (I1.kIn _ _ hC) (PySem.W.looks_findIn I1.kIn iC) (fun o => PySem.W.bind_fn I1.kIn o tI)
    (codeAny_mono (F1.run _ X.stack _ _ ⟨[Value.ref (hp.objs.size + 1)], [(f, u)]⟩ [Value.ref (hp.objs.size + 1), u] _ _ (fun _ _ _ => False) (hr.make C [] [(f, u)]) e1 (hb _ _ _ I2.kIn) r2 hq) fun r s' hq' => ?_))
  cases r with
  | error er => exact hx pins σ _ _ er s' I2 hq'
  | ok fl =>
    cases fl with
    | ret u =>
      obtain ⟨v, H2, os2, bare2, un2, hok2, rv, ev, d, fs, ea, ed, hd1, q2⟩ := hq'
      subst ev
      obtain ⟨h2, g2, d2, t2, os'⟩ := s'
      exact ⟨rv, mk_end (raises_own T.exC T.tyC) I1 hsz kk un2 hok2 os2 bare2 ea ed hd1 q2⟩
    | next => exact False.elim hq'
    | brk => exact False.elim hq'
    | cont => exact False.elim hq'
/-- C(), C an exception's class without an __init__ of its own -/
theorem pmk_own0 {X : Cx} {C : Addr} {bmB : List Value} {B newId initId : String} {x : Str} {p pos : Pos} (F : ExcBaseFacts B newId initId bmB) (q : PySem.W.excIn X.K C bmB newId = true) (gC : X.mg x = some (.ref C)) (kC : PySem.W.keepIn X.K (.ref C) = true) (r : Raises X (.ref C)) (hg : Gl X x)
    (hdb : (x == ("__debug__" : Str)) = false := by decide) : PMk X (.Call (.Name x p) [] [] pos) (fun _ H Q => Q (.ref C) none H) := by
  intro pins s σ H Q I h
  refine wpAny_Call_Name_kw (ld_glob I hg gC ?_ hdb)
  refine PySem.W.callWith_K0 I.kIn kC ?_
  show wpAny _ _ (call (.ref C) []) _ _ _
  obtain ⟨bm, N, nm, qn, bs, hdct, sn, sub, ab, col, dd, k0, k1, k2, k3, k5, mN, hC, hN, hni, T⟩ := exc_obj I.kIn q
  refine wpAny_call_exc_subT F T hC hN hni (fun h' e hm => ?_) (by show 0 ≤ sizeLine; omega)
  exact mk_of I hm r h (I.hok.gone hm.new)
end VX

set_option Elab.async false
set_option linter.all false
set_option maxRecDepth 100000
set_option maxHeartbeats 4000000
/-! defs that are called where no repr runs -/
namespace VX
open PySem PySem.Spec PyProof.Rows L2
/-- a def's promise, kept wherever no repr runs around the call -/
structure GFn (P : Program) (w : World) (K : PySem.W.Frag) (mg : Str → Option Value) (base : Heap) (k : Nat) (f : Addr) (fd : FuncData) (ps : List Str) (sp : Sp) : Prop where
  len : ∀ {vs H Q E}, sp vs H Q E → vs.length = ps.length
  go : ∀ {A : Around}, A.guards = some [] → Room k A → ∀ {outer : List Env} {s : Shared} {H : Hp}, Env0 P w K mg base A outer s H → ∀ {args : Args} {us : List Value} {vs : List V} {Q : VK} {E : XK}, BindsTo s fd args (ps.zip us) → Vals vs us → sp vs H Q E →
    codeAny (model P w) A (.call (.ref f) args) (CR CX0 outer P w H s Q E) s
section
variable {P : Program} {w : World} {K : PySem.W.Frag} {mg : Str → Option Value} {base : Heap} {x qual : Str} {pa : Arguments} {bd : List Stmt} {sc : Scope} {f : Addr} {fd : FuncData} {N ps : List Str} {k : Nat} {sp : Sp}
/-- the rule for such a def: the guards told -/
theorem GFn.of (F : FunD K x qual pa bd sc [] [] f fd) (S : FnScope N ps sc) (len : ∀ {vs H Q E}, sp vs H Q E → vs.length = ps.length)
    (body : ∀ (cdv : Value) (A : Around) (outer : List Env) (s : Shared) (H : Hp) (vs : List V) (Q : VK) (E : XK), A.guards = some [] → Room k (A.deeper (envOfC qual sc s.heap.objs.size f cdv)) → sp vs H Q E →
      ∃ t, PSs (cxOf CX0 P w K mg base N qual sc f cdv A outer s H E).nox bd t ∧ t { nx := fun _ H' => Q .non H', rt := Q } (start N vs) H) : GFn P w K mg base (k + 1) f fd ps sp := by
  obtain ⟨oc, od, dV, kV, doc, pm, an, cdv, ct, osl, rfl, lk, hcd, _, _⟩ := F.ex
  refine ⟨len, fun {A} hg hr {outer s H} e0 {args us vs Q E} hb r q => ?_⟩
  have KX : K.In s.heap := e0.mod.kin.keeps fun b o e => (e0.bs b o e).1
  have nl : s.heap.NoLimit := e0.mod.nolimit.keeps fun b o e => (e0.bs b o e).1
  have kinds : ∀ y ∈ ps.zip us, sc.names.lookup y.1 = some .local ∨ (sc.names.lookup y.1 = some .cell ∧ ((cellsFrom (s.heap.objs.size + 1) sc.names []).lookup y.1).isSome = true) := by
    rintro ⟨n, v⟩ hy
    have hn := S.par n (List.of_mem_zip hy).1
    exact hn.elim .inl fun z => .inr ⟨z, PySem.W.cellsFrom_some _ _ _ (.inl z)⟩
  refine codeAny_call_function hr.depth (KX _ _ lk) rfl S.co S.gen rfl (PySem.W.codeRec_of KX hcd) (hb _ _ _ _ (wpAny_newFunctionEnv_cells S.kind kinds ?_))
  rintro env rfl s1 ic
  refine ⟨nl.keeps ic.toInCall.keep, codeAny_func ?_⟩
  obtain ⟨t, ht, tq⟩ := body cdv A outer s H vs Q E hg (hr.deeper _) q
  have I : L2.Inv (cxOf CX0 P w K mg base N qual sc f cdv A outer s H E) [] (start N vs) H s1 := inv_start S hr.hd e0 (len q) r ic
  have back : ∀ {σ' : L2.St} {H' : Hp} {s' : Shared} {v : V} {u : Value}, L2.Inv (cxOf CX0 P w K mg base N qual sc f cdv A outer s H E) [] σ' H' s' → RelV v u → Q v H' → CE outer P w H s Q u s' :=
    fun J rv z => ⟨_, _, J.os, J.bare, J.base, J.hok, rv, z⟩
  refine wpAny_mono (ht.nox.run [] s1 (start N vs) H _ I tq) (fun fl s' h => ?_) fun _ _ h => h
  cases fl with
  | next => obtain ⟨_, _, J, z⟩ := h; exact back (v := V.non) (u := Value.none) J rfl z
  | ret u => obtain ⟨_, _, _, J, rv, z⟩ := h; exact back J rv z
  | brk => obtain ⟨_, _, _, z⟩ := h; exact z.elim
  | cont => obtain ⟨_, _, _, z⟩ := h; exact z.elim
end
section
variable {X : Cx} {k : Nat} {f : Addr} {fd : FuncData} {ps : List Str} {sp : Sp} {x : Str} {p pos : Pos} {e : Expr} {es : List Expr} {t : TA}
/-- f(e, ..) of such a def, where no repr runs -/
theorem pe_gcall (F : GFn X.prog X.w X.K X.mg X.base k f fd ps sp) (hg0 : X.A.guards = some []) (hr : Room k X.A) (hg : Gl X x) (hm : X.mg x = some (.ref f)) (hk : PySem.W.keepIn X.K (.ref f) = true) (hb : Binds X.K fd ps []) (ha : PA X (e :: es) t)
    (hdb : (x == ("__debug__" : Str)) = false := by decide) (he : starEach (e :: es) X.env = (false, eval e X.env) :: starEach es X.env := by rfl) (hpl : (backTo pos (starEach es X.env)).any (·.1) = false := by rfl) :
    PE X (.Call (.Name x p) (e :: es) [] pos) (tCall sp [] E0 t) := by
  refine ⟨fun pins s σ H Q I h => wpAny_Call_Name_kw (ld_glob I hg hm ?_ hdb)⟩
  refine PySem.W.callWith_K (h₀ := X.base) I.ok.mod.kin hk (thn (ha.run pos pins s σ H _ I h) fun us s1 ⟨vs, H1, I1, r, q⟩ => ⟨I1.kIn, ?_⟩) he hpl
  have q : sp vs H1 Q E0 := by have z : sp (vs ++ []) H1 Q E0 := q; rw [List.append_nil] at z; exact z
  have hl : us.length = ps.length := by rw [← r.length]; exact F.len q
  have b := hb s1 us I1.kIn (by rw [List.append_nil]; exact hl)
  rw [List.append_nil] at b
  refine wpAny_call (codeAny_mono (F.go hg0 hr I1.env0 b r q) fun r s' hq => ?_)
  match r, hq with
  | .ok (.ret u), hq => exact I1.after hq
  | .error _, hq => exact hq.elim
end
/-- the call's base: the heap without the script -/
theorem base_of {P : Program} {w : World} {K : PySem.W.Frag} {mg mb : Str → Option Value} {s : Shared} {H : Hp} {a : Addr} {vs : Array Value} (KX : K.In s.heap) (g1 : s.heap.Ns mainGlobals mg) (g2 : s.heap.Ns builtinsNs mb) (g3 : ∀ x : Str, x ≠ "__name__" → mb x = bootBuiltins x)
    (g4 : s.heap.NoLimit) (g5 : s.gens = #[]) (ha : s.heap.get? a = some { cls := .type "list", data := .seq vs }) (ok : HOk P w H s.heap) (only : ∀ b, b ≠ a → H b = none) (hK : H a ≠ none → K.lookup a = none) : Env0 P w K mg (hidT s.heap H) callerA [] s H := by
  have dk : ∀ {b : Addr} {o : Obj} {es : Array DictEntry} {ep : Nat}, s.heap.get? b = some o → o.data = .dict es ep → H b = none := by
    intro b o es ep e d
    by_cases hb : b = a
    · rw [hb, ha] at e
      rw [← Option.some.inj e] at d
      cases d
    · exact only b hb
  have ns : ∀ {b : Addr} {m : Str → Option Value}, s.heap.Ns b m → (hidT s.heap H).Ns b m := by
    rintro b m ⟨o, es, ep, e, d, r⟩
    exact ⟨o, es, ep, hidT_get e (dk e d), d, r⟩
  have kin : K.In (hidT s.heap H) := by
    intro b o e
    refine hidT_get (KX b o e) ?_
    by_cases hb : b = a
    · subst hb
      cases z : H b with
      | none => rfl
      | some u => rw [hK (by rw [z]; exact fun n => nomatch n)] at e; cases e
    · exact only b hb
  obtain ⟨mc, l1, l2⟩ := g4
  exact { frames := rfl, mod := { kin := kin, glob := ns g1, blt := ⟨mb, ns g2, g3⟩, nolimit := ⟨mc, ns l1, l2⟩ }, bs := fun b o e => of_hidT e, bsz := Nat.le_of_eq (hidT_size _ _), funs := trivial, frf := fun b hb => (nomatch hb), hok := ok, bare := .of_eq g5 }
/-- the law's own end, its def's promise kept where no repr runs -/
theorem walk_g {l : PySem.W.OpenLaw} {n k : Nat} {q : Program} {loose : List Str} {XP : (Str → Option Value) → Heap → Prop} {YP : World → Heap → Prop} {d : DefRec} {x : Str}
    (hn : l.most = some n) (hn2 : n ≤ sizeLine) (hdf : d.params.defaults = []) (hr : Room k callerA)
    (F : ∀ (w : World) (mg : Str → Option Value) (fa : Addr) (h : Heap), YP w h → h.Ns mainGlobals mg → mg d.name = some (.ref fa) →
      ∃ (K : PySem.W.Frag) (fd : FuncData) (sp : Sp), K.In h ∧ (∀ (s : Shared) (u : Value), BindsTo s fd ⟨[u], []⟩ [(x, u)]) ∧
        (∀ (H : Hp) (a : Addr) (ns : List Int), ns.length ≤ n → Only H → SqL K H a (ns.map V.int) → sp [.ref a] H (fun v _ => v = .bl true) fun _ _ _ => False) ∧
        ∀ base : Heap, K.In base → base.Ns mainGlobals mg → GFn l.prog w K mg base k fa fd [x] sp) :
    PySem.W.WalkO q loose XP YP l.row.toRowW d [] (fun f vs => PySem.call f vs) := by
  refine Att.attach_call hn hdf fun w s₀ s₁ mg mb fa o pm cd doc a vs ns G Y ho hd hcd hmg hobj hints hlen hg => ?_
  obtain ⟨K, fd, sp, KX, hb, hsp, hF⟩ := F w mg fa _ Y G.T.g hmg
  have rv := vals_ints hints
  have lv := hints.length
  have core : ∀ H : Hp, Only H → SqL K H a (ns.map V.int) → HOk l.prog w H s₁.heap → (∀ b, b ≠ a → H b = none) → (H a ≠ none → K.lookup a = none) →
      codeAny (model l.prog w) callerA (.call (.ref fa) ⟨[.ref a], []⟩) (fun r s' => r = .ok (.ret (.bool true)) ∧ OldK s₁.heap s'.heap ∧ s'.os = s₁.os ∧ AllBare s'.gens) s₁ := by
    intro H oH sH ok on hK
    have e0 := base_of (P := l.prog) (w := w) (mg := mg) KX G.T.g G.T.b G.T.builtins G.T.nolimit hg hobj ok on hK
    refine codeAny_mono ((hF _ e0.mod.kin e0.mod.glob).go (A := callerA) rfl hr e0 (us := [.ref a]) (vs := [V.ref a]) (hb s₁ (.ref a)) (.cons rfl .nil) (hsp H a ns hlen oH sH)) fun r s' h => ?_
    match r, h with
    | .error _, h => exact h.elim
    | .ok (.ret u), h =>
      obtain ⟨v, H', os, bare, un, ok', rr, rfl⟩ := h
      refine ⟨congrArg (fun u => Except.ok (Flow.ret u)) rr, OldK.of_keep fun b o e => ?_, os, bare⟩
      rcases oH b with z | ⟨ob, xs, z⟩
      · exact un.keep b o e z (fun m => nomatch m) (by simp)
      · have f1 := (ok b _ z).1
        have f2 := (ok' b _ (un.frzs b ob _ z)).1
        rw [e] at f1
        rw [f2, ← Option.some.inj f1]
  cases hk : K.lookup a with
  | some o1 =>
    have e := KX a o1 hk
    rw [hobj] at e
    cases e
    refine core (fun _ => none) (fun _ => .inl rfl) (.inr ⟨_, vs.toArray, _, hk, rfl, rfl, rfl, ?_, by simpa using rv⟩) (fun b u z => nomatch z) (fun b _ => rfl) fun z => absurd rfl z
    rw [List.size_toArray, lv]
    exact Nat.le_trans hlen hn2
  | none =>
    let fz : HO := .frz { cls := .type "list", data := .seq vs.toArray } (.lst (ns.map V.int))
    refine core (upd (fun _ => none) a fz) (fun b => ?_) (.inl (.inr ⟨_, upd_same⟩)) (fun b u z => ?_) (fun b hb => upd_ne hb) fun _ => hk
    · by_cases hb : b = a
      · exact .inr ⟨_, _, by rw [hb]; exact upd_same⟩
      · exact .inl (upd_ne hb)
    · by_cases hb : b = a
      · subst hb
        rw [upd_same] at z
        cases z
        exact ⟨hobj, by rw [List.length_map]; exact Nat.le_trans hlen hn2, vs, _, rv, hobj⟩
      · rw [upd_ne hb] at z
        cases z
end VX

set_option Elab.async false
set_option linter.all false
set_option maxRecDepth 100000
set_option maxHeartbeats 4000000
/-! several except clauses, each «as n», one name -/
namespace VX
open PySem PySem.Spec PyProof.Rows L2
/-- what the clauses wish of an exception of the body, from the first on; the name in slot i is empty behind a suite -/
def wNamed (K : PySem.W.Frag) (i : Nat) (Wout : WX) (D : Ends) : List (Value × (Addr → Value → Option Addr → TS)) → WX
  | [] => Wout
  | (c, ts) :: r => fun cls d σ H => ∃ b, PySem.W.exmOne K cls c = some b ∧ (b = true → ∀ a, H a = none →
      ts a cls d { nx := fun σ' H' => D.nx (σ'.set i none) H', rt := D.rt, bk := fun σ' H' => D.bk (σ'.set i none) H', ct := fun σ' H' => D.ct (σ'.set i none) H' } (σ.set i (some (.ref a))) H) ∧ (b = false → wNamed K i Wout D r cls d σ H)
inductive Clauses (X : Cx) (n : Str) : List ExceptHandler → List (Value × (Addr → Value → Option Addr → TS)) → Prop
  | nil : Clauses X n [] []
  | cons {x : Str} {c : Value} {ts : Addr → Value → Option Addr → TS} {b₀ : Stmt} {su : List Stmt} {p1 p2 : Pos} {hs : List ExceptHandler} {l : List (Value × (Addr → Value → Option Addr → TS))} (hc : Names X x c)
      (hsu : ∀ (a : Addr) (oe : Obj) (cls : Value) (d : Option Addr) (pn : List (Addr × Obj)), Zc cls d oe → (∃ vs, oe.data = .fields vs) → PSs (X.suite a ((a, oe) :: pn)) (b₀ :: su) (ts a cls d)) (r : Clauses X n hs l) :
      Clauses X n (.ExceptHandler (some (.Name x p1)) (some n) (b₀ :: su) p2 :: hs) ((c, ts) :: l)
theorem ps_try_named {X : Cx} {n : Str} {i : Nat} {body : List Stmt} {h₀ : ExceptHandler} {hds : List ExceptHandler} {l : List (Value × (Addr → Value → Option Addr → TS))} {pos : Pos} {tb : WX → TS} {Wout : WX}
    (hs : X.stack = X.env :: X.outer) (hf : X.env.frame = some X.env.locals) (hN : X.N.Nodup) (hi : X.N[i]? = some n) (hln : X.env.kindOf n = some .local) (tk : Takes X Wout)
    (hb : ∀ (W : WX) (pn : List (Addr × Obj)) (xe : Value → Shared → Prop), Takes (X.tr pn xe) W → PassesOwn (model X.prog X.w) X.A X.env xe → PSs (X.tr pn xe) body (tb W)) (hh : Clauses X n (h₀ :: hds) l) :
    PS X (.Try body (h₀ :: hds) [] [] pos) (fun D σ H => tb (wNamed X.K i Wout D l) D σ H) := by
  refine ⟨fun pins s σ H D I h => wpAny_Try_except ?_⟩
  have ok := I.ok
  have fr : X.A.frames = some (X.env :: X.outer) := by rw [ok.frames, hs]
  have lc : Loc X.env.scope n := .inl hln
  refine wpAny_mono ((hb (wNamed X.K i Wout D l) (X.pn ++ pins) (fun e t1 => wpAny (model X.prog X.w) X.A (noteFrame e X.env) (fun _ t2 => wpAny (model X.prog X.w) X.A (setFlight e none) (fun _ t3 =>
    wpAny (model X.prog X.w) X.A (handleBy e X.env (h₀ :: hds)) (SP X pins D) X.xe t3) X.xe t2) X.xe t1) (fun u s' xx => ?caught) PassesOwn.looking).run [] s σ H D (I.toTry _) h) (fun f s1 q => ?through) (fun _ _ z => z)
  case through =>
    cases f with
    | next => obtain ⟨σ', H', J, q⟩ := q; exact wpAny_execs_nil ⟨σ', H', J.ofTry ok, q⟩
    | brk => obtain ⟨σ', H', J, q⟩ := q; exact ⟨σ', H', J.ofTry ok, q⟩
    | cont => obtain ⟨σ', H', J, q⟩ := q; exact ⟨σ', H', J.ofTry ok, q⟩
    | ret u => obtain ⟨v, σ', H', J, r, q⟩ := q; exact ⟨v, σ', H', J.ofTry ok, r, q⟩
  case caught =>
    obtain ⟨a, B, sI, ps', σ', H', cls, d, rfl, J', nb, up, sky, na, os, ag, w⟩ := xx
    have J : L2.Inv X pins σ' H' sI := J'.ofTry ok
    have sk : Sky B (X.env :: X.outer) a (Zc cls d) X.env.locals s'.heap := by rw [← hs]; exact sky
    show wpAny (model X.prog X.w) X.A (noteFrame (.ref a) X.env) _ _ _
    refine Sky.land Zc.steady fr hf sk fun h3 fl3 up3 => ?_
    have J3 : L2.Inv X pins σ' H' { s' with heap := h3 } := J.landed nb fl3.1 (up.trans up3) os ag
    obtain ⟨oe, vs, he, hz, hd⟩ := fl3.there
    have nfr : a ∉ frs (X.env :: X.outer) := fun hm => by
      obtain ⟨_, o', e', hnf⟩ := fl3.2.2.1.mem hm
      rw [he] at e'
      cases e'
      exact hnf _ hd
    have nL : a ≠ X.env.locals := fun z => nfr (List.mem_filterMap.mpr ⟨X.env, .head _, by rw [hf, z]⟩)
    have nF : a ∉ X.fs := fun hm => by
      obtain ⟨e, m, q⟩ := List.mem_filterMap.mp hm
      exact nfr (List.mem_filterMap.mpr ⟨e, .tail _ m, q⟩)
    have S3 := J3.suite he hd na nL nF
    have go : ∀ {hs' : List ExceptHandler} {l' : List (Value × (Addr → Value → Option Addr → TS))}, Clauses X n hs' l' → wNamed X.K i Wout D l' cls d σ' H' → wpAny (model X.prog X.w) X.A (handleBy (.ref a) X.env hs') (SP X pins D) X.xe { s' with heap := h3 } := by
      intro hs' l' hk
      induction hk with
      | nil =>
        intro w
        refine wpAny_handleBy_nil ?_
        obtain ⟨_, _, _, oe1, vs1, T, oT, ts1, he1, hz1, hd1, h1, _⟩ := id fl3
        unfold PySem.passOn
        refine wpAny_bind (wpAny_field he1 hd1 h1 ?_)
        rw [if_neg (show ¬ ((Value.ref T == Value.none) = true) by simp)]
        have fin : wpAny (model X.prog X.w) X.A (setFlight (.ref a) X.env.frame) (fun _ s4 => wpAny (model X.prog X.w) X.A (throw (.ref a) : Sem Flow) (SP X pins D) X.xe s4) X.xe { s' with heap := h3 } := by
          rw [hf]
          exact HandSPX.setFlight_upZ fl3 fun h4 hh4 up4 => wpAny_throw (tk _ _ ⟨a, B, sI, pins, σ', H', cls, d, rfl, J, nb, (up.trans up3).trans up4, .inr (.inr (by rw [hs]; exact hh4)), na, os, ag, w⟩)
        first | exact wpAny_bind (wpAny_pure (wpAny_bind fin)) | exact wpAny_bind fin
      | @cons x c ts b₀ su p1 p2 hs2 l2 hc hsu r ih =>
        rintro ⟨b, hb1, hy, hno⟩
        refine wpAny_handleBy_cons (codeAny_handlers_test ?_) (by intro q; cases q)
        have ty : PySem.W.Looks (model X.prog X.w) h3 (typeOf (.ref a)) cls := fun A Q E t k q => wpAny_typeOf_ref (k _ _ he) (by rw [hz.1]; exact q)
        have lk := PySem.W.exm_one (M := model X.prog X.w) (J3.kIn) ty hb1
        have asked : ∀ {Q E : Value → Shared → Prop}, Q c { s' with heap := h3 } → wpAny (model X.prog X.w) (X.A.mark (some (.ref a))) (eval (.Name x p1) X.env) Q E { s' with heap := h3 } := by
          intro Q E q
          obtain ⟨hg, hdb, hm | ⟨hm, hv, hn⟩⟩ := hc
          · exact ld_glob (X := X.suite a ((a, oe) :: (X.pn ++ pins))) S3 hg hm q hdb
          · exact ld_blt (X := X.suite a ((a, oe) :: (X.pn ++ pins))) S3 hg hm hv q hn hdb
        refine asked (lk.here ?_)
        cases b with
        | false => exact ih (hno rfl)
        | true =>
          refine codeAny_handlers_suite_as (HandSPX.lands_againZ fl3 fun h4 fl4 up4 => ?_)
          have J4 : L2.Inv X pins σ' H' { s' with heap := h4 } := J.landed nb fl4.1 ((up.trans up3).trans up4) os ag
          obtain ⟨oe4, vs4, he4, hz4, hd4⟩ := fl4.there
          refine store_ok (X := X.suite a ((a, oe4) :: (X.pn ++ pins))) (v := .ref a) (J4.suite he4 hd4 na nL nF) hN hi lc rfl (fun s5 S5 => ?_) (.inr hln)
          refine wpAny_mono ((hsu a oe4 cls d (X.pn ++ pins) hz4 ⟨_, hd4⟩).run [] s5 _ H' _ S5 (hy rfl a na)) (fun f s6 q => ?_) (fun _ _ z => False.elim z)
          have over : ∀ {σ6 : L2.St} {H6 : Hp} {Q : Shared → Prop}, L2.Inv (X.suite a ((a, oe4) :: (X.pn ++ pins))) [] σ6 H6 s6 → (∀ s7, L2.Inv X pins (σ6.set i none) H6 s7 → Q s7) →
              wpAny (model X.prog X.w) X.A (do bindName X.env n .none; unbindBehindTheSuite X.env n p2) (fun _ s7 => Q s7) X.xe s6 := fun S6 hq => gone_ok (S6.unsuite ok) hN hi hln hq
          cases f with
          | next => obtain ⟨σ6, H6, S6, q6⟩ := q; exact over S6 fun s7 J7 => ⟨_, _, J7, q6⟩
          | brk => obtain ⟨σ6, H6, S6, q6⟩ := q; exact over S6 fun s7 J7 => ⟨_, _, J7, q6⟩
          | cont => obtain ⟨σ6, H6, S6, q6⟩ := q; exact over S6 fun s7 J7 => ⟨_, _, J7, q6⟩
          | ret u => obtain ⟨v6, σ6, H6, S6, r6, q6⟩ := q; exact over S6 fun s7 J7 => ⟨_, _, _, J7, r6, q6⟩
    exact go hh w
end VX

set_option linter.all false
/-! # the walk of a word's text, on lists of signs (no model) -/
namespace KW
def leafC (c : Nat) : Bool := c == 97 || c == 98 || c == 99 || c == 48 || c == 49
def jointC (c : Nat) : Bool := c == 43 || c == 38
/-- one sign: how many are open, whether a word is wanted -/
def stp (o : Nat) (w : Bool) (c : Nat) : Option (Nat × Bool) :=
  if c = 32 then some (o, w) else if w && leafC c then some (o, false) else if w && c == 40 && decide (o < 9) then some (o + 1, true)
  else if !w && jointC c then some (o, true) else if !w && c == 41 && decide (0 < o) then some (o - 1, false) else none
/-- the column of the error, 0 if there is none; k is the column of the next sign -/
def dueAt : List Nat → Nat → Bool → Nat → Nat
  | [], o, w, k => if w || decide (0 < o) then k else 0
  | c :: l, o, w, k => match stp o w c with
    | none => k
    | some p => dueAt l p.1 p.2 (k + 1)
def due (l : List Nat) : Nat := dueAt l 0 true 1
/-- the rest can be read to its end -/
def Acc : Bool → Nat → List Nat → Bool
  | w, d, [] => !w && d == 0
  | true, d, c :: l => (leafC c && Acc false d l) || (c == 40 && decide (d < 9) && Acc true (d + 1) l)
  | false, d, c :: l => (jointC c && Acc true d l) || (c == 41 && decide (0 < d) && Acc false (d - 1) l)
theorem leaf_no {c : Nat} (h : leafC c = true) : c ≠ 32 ∧ c ≠ 40 ∧ c ≠ 41 ∧ jointC c = false := by
  simp only [leafC, Bool.or_eq_true, beq_iff_eq] at h
  refine ⟨by omega, by omega, by omega, ?_⟩
  simp only [jointC, Bool.or_eq_false_iff, beq_eq_false_iff_ne]
  omega
theorem joint_no {c : Nat} (h : jointC c = true) : c ≠ 32 ∧ c ≠ 40 ∧ c ≠ 41 ∧ leafC c = false := by
  simp only [jointC, Bool.or_eq_true, beq_iff_eq] at h
  refine ⟨by omega, by omega, by omega, ?_⟩
  simp only [leafC, Bool.or_eq_false_iff, beq_eq_false_iff_ne]
  omega
theorem step_o {o o' : Nat} {w w' : Bool} {c : Nat} (ho : o ≤ 9) (h : stp o w c = some (o', w')) : o' ≤ 9 := by
  unfold stp at h
  split at h
  · cases h; exact ho
  split at h
  · cases h; exact ho
  split at h
  · rename_i hh
    cases h
    simp only [Bool.and_eq_true, decide_eq_true_eq] at hh
    omega
  split at h
  · cases h; exact ho
  split at h
  · cases h; omega
  · cases h
theorem acc_of {l : List Nat} : ∀ {o : Nat} {w : Bool} {k : Nat}, 0 < k → dueAt l o w k = 0 → Acc w o (l.filter (· != 32)) = true := by
  induction l with
  | nil =>
    intro o w k hk h
    simp only [dueAt] at h
    cases w with
    | true => rw [if_pos (by simp)] at h; omega
    | false =>
      by_cases c : 0 < o
      · rw [if_pos (by simp [c])] at h; omega
      · have : o = 0 := by omega
        subst this
        rfl
  | cons c l ih =>
    intro o w k hk h
    simp only [dueAt] at h
    cases hs : stp o w c with
    | none => rw [hs] at h; dsimp only at h; omega
    | some p =>
      obtain ⟨o', w'⟩ := p
      rw [hs] at h
      dsimp only at h
      have ih' := ih (Nat.succ_pos k) h
      unfold stp at hs
      by_cases c32 : c = 32
      · rw [if_pos c32] at hs
        cases hs
        rw [List.filter_cons_of_neg (by simp [c32])]
        exact ih'
      · rw [if_neg c32] at hs
        rw [List.filter_cons_of_pos (by simp [c32])]
        split at hs
        · rename_i hh
          cases hs
          simp only [Bool.and_eq_true] at hh
          rw [hh.1]
          simp only [Acc, hh.2, ih', Bool.true_and, Bool.true_or]
        split at hs
        · rename_i hh
          cases hs
          simp only [Bool.and_eq_true] at hh
          rw [hh.1.1]
          simp only [Acc, hh.1.2, hh.2, ih', Bool.and_self, Bool.or_true]
        split at hs
        · rename_i hh
          cases hs
          simp only [Bool.and_eq_true, Bool.not_eq_true'] at hh
          rw [hh.1]
          simp only [Acc, hh.2, ih', Bool.true_and, Bool.true_or]
        split at hs
        · rename_i hh
          cases hs
          simp only [Bool.and_eq_true, Bool.not_eq_true'] at hh
          rw [hh.1.1]
          simp only [Acc, hh.1.2, hh.2, ih', Bool.and_self, Bool.or_true]
        · cases hs
/-- the law's order of tests gives the same -/
theorem acc_wanted {d : Nat} {l : List Nat} (h : Acc true d l = true) : ∃ c r, l = c :: r ∧ ((leafC c = true ∧ Acc false d r = true) ∨ (c = 40 ∧ d < 9 ∧ Acc true (d + 1) r = true)) := by
  cases l with
  | nil => simp [Acc] at h
  | cons c r =>
    refine ⟨c, r, rfl, ?_⟩
    simp only [Acc, Bool.or_eq_true, Bool.and_eq_true, beq_iff_eq, decide_eq_true_eq] at h
    rcases h with h | h
    · exact .inl h
    · exact .inr ⟨h.1.1, h.1.2, h.2⟩
theorem acc_joint {d c : Nat} {r : List Nat} (hj : jointC c = true) (h : Acc false d (c :: r) = true) : Acc true d r = true := by
  have n := joint_no hj
  simp only [Acc, Bool.or_eq_true, Bool.and_eq_true, beq_iff_eq, decide_eq_true_eq] at h
  rcases h with h | h
  · exact h.2
  · exact absurd h.1.1 n.2.2.1
theorem acc_close {d : Nat} {l : List Nat} (hd : 0 < d) (hj : ∀ c r, l = c :: r → jointC c = false) (h : Acc false d l = true) : ∃ r, l = 41 :: r ∧ Acc false (d - 1) r = true := by
  cases l with
  | nil =>
    simp only [Acc, Bool.not_false, Bool.true_and, beq_iff_eq] at h
    omega
  | cons c r =>
    have n := hj c r rfl
    simp only [Acc, Bool.or_eq_true, Bool.and_eq_true, beq_iff_eq, decide_eq_true_eq, n] at h
    rcases h with h | h
    · exact absurd h.1 (by simp)
    · exact ⟨r, by rw [h.1.1], h.2⟩
/-- a word as a tree -/
inductive Tr where
  | lf (c : Nat)
  | nd (c : Nat) (l r : Tr)
/-! what is read: from the list before to the list behind, d parentheses open -/
mutual
inductive RP : Nat → List Nat → Tr → List Nat → Prop
  | leaf {d c : Nat} {r : List Nat} : leafC c = true → RP d (c :: r) (.lf c) r
  | paren {d : Nat} {l r : List Nat} {t : Tr} : d < 9 → RS (d + 1) l t (41 :: r) → RP d (40 :: l) t r
inductive RIs : Nat → Nat → Tr → List Nat → Tr → List Nat → Prop
  | stop {d : Nat} {t : Tr} {r : List Nat} : r.head? ≠ some 38 → RIs d 0 t r t r
  | more {d k : Nat} {t u t' : Tr} {r r1 r' : List Nat} : RP d r u r1 → RIs d k (.nd 38 t u) r1 t' r' → RIs d (k + 1) t (38 :: r) t' r'
inductive RI : Nat → List Nat → Tr → List Nat → Prop
  | mk {d k : Nat} {l r r' : List Nat} {t t' : Tr} : RP d l t r → RIs d k t r t' r' → RI d l t' r'
inductive RSs : Nat → Nat → Tr → List Nat → Tr → List Nat → Prop
  | stop {d : Nat} {t : Tr} {r : List Nat} : r.head? ≠ some 43 → RSs d 0 t r t r
  | more {d k : Nat} {t u t' : Tr} {r r1 r' : List Nat} : RI d r u r1 → RSs d k (.nd 43 t u) r1 t' r' → RSs d (k + 1) t (43 :: r) t' r'
inductive RS : Nat → List Nat → Tr → List Nat → Prop
  | mk {d k : Nat} {l r r' : List Nat} {t t' : Tr} : RI d l t r → RSs d k t r t' r' → RS d l t' r'
end
def PartOk (n : Nat) : Prop := ∀ (l : List Nat) (d : Nat), l.length ≤ n → Acc true d l = true → ∃ t r, RP d l t r ∧ Acc false d r = true ∧ r.length < l.length
def InterOk (n : Nat) : Prop := ∀ (l : List Nat) (d : Nat), l.length ≤ n → Acc true d l = true → ∃ t r, RI d l t r ∧ Acc false d r = true ∧ r.length < l.length ∧ r.head? ≠ some 38
def SumOk (n : Nat) : Prop := ∀ (l : List Nat) (d : Nat), l.length ≤ n → Acc true d l = true → ∃ t r, RS d l t r ∧ Acc false d r = true ∧ r.length < l.length ∧ ∀ c s, r = c :: s → jointC c = false
theorem inters {n : Nat} (hp : PartOk n) : ∀ (m : Nat) (r : List Nat) (d : Nat) (t : Tr), r.length ≤ m → r.length ≤ n → Acc false d r = true → ∃ k t' r', RIs d k t r t' r' ∧ Acc false d r' = true ∧ r'.length ≤ r.length ∧ r'.head? ≠ some 38 := by
  intro m
  induction m with
  | zero =>
    intro r d t h _ a
    have : r = [] := List.length_eq_zero_iff.mp (by omega)
    subst this
    exact ⟨0, t, [], .stop (by simp), a, Nat.le_refl _, by simp⟩
  | succ m ih =>
    intro r d t h hn a
    by_cases hh : r.head? = some 38
    · obtain ⟨s, rfl⟩ : ∃ s, r = 38 :: s := by
        cases r with
        | nil => simp at hh
        | cons c s => exact ⟨s, by rw [Option.some.inj hh]⟩
      have a2 := acc_joint (by decide) a
      simp only [List.length_cons] at h hn
      obtain ⟨u, r1, p1, p2, p3⟩ := hp s d (by omega) a2
      obtain ⟨k, t', r', q1, q2, q3, q4⟩ := ih r1 d (.nd 38 t u) (by omega) (by omega) p2
      exact ⟨k + 1, t', r', .more p1 q1, q2, by simp only [List.length_cons]; omega, q4⟩
    · exact ⟨0, t, r, .stop hh, a, Nat.le_refl _, hh⟩
theorem interOk {n : Nat} (hp : PartOk n) : InterOk n := fun l d h a => by
  obtain ⟨t, r, p1, p2, p3⟩ := hp l d h a
  obtain ⟨k, t', r', q1, q2, q3, q4⟩ := inters hp r.length r d t (Nat.le_refl _) (by omega) p2
  exact ⟨t', r', .mk p1 q1, q2, by omega, q4⟩
theorem sums {n : Nat} (hp : InterOk n) : ∀ (m : Nat) (r : List Nat) (d : Nat) (t : Tr), r.length ≤ m → r.length ≤ n → r.head? ≠ some 38 → Acc false d r = true → ∃ k t' r', RSs d k t r t' r' ∧ Acc false d r' = true ∧ r'.length ≤ r.length ∧ r'.head? ≠ some 43 ∧ r'.head? ≠ some 38 := by
  intro m
  induction m with
  | zero =>
    intro r d t h _ _ a
    have : r = [] := List.length_eq_zero_iff.mp (by omega)
    subst this
    exact ⟨0, t, [], .stop (by simp), a, Nat.le_refl _, by simp, by simp⟩
  | succ m ih =>
    intro r d t h hn h38 a
    by_cases hh : r.head? = some 43
    · obtain ⟨s, rfl⟩ : ∃ s, r = 43 :: s := by
        cases r with
        | nil => simp at hh
        | cons c s => exact ⟨s, by rw [Option.some.inj hh]⟩
      have a2 := acc_joint (by decide) a
      simp only [List.length_cons] at h hn
      obtain ⟨u, r1, p1, p2, p3, p4⟩ := hp s d (by omega) a2
      obtain ⟨k, t', r', q1, q2, q3, q4⟩ := ih r1 d (.nd 43 t u) (by omega) (by omega) p4 p2
      exact ⟨k + 1, t', r', .more p1 q1, q2, by simp only [List.length_cons]; omega, q4⟩
    · exact ⟨0, t, r, .stop hh, a, Nat.le_refl _, hh, h38⟩
theorem sumOk {n : Nat} (hp : InterOk n) : SumOk n := fun l d h a => by
  obtain ⟨t, r, p1, p2, p3, p4⟩ := hp l d h a
  obtain ⟨k, t', r', q1, q2, q3, q4, q5⟩ := sums hp r.length r d t (Nat.le_refl _) (by omega) p4 p2
  refine ⟨t', r', .mk p1 q1, q2, by omega, fun c s e => ?_⟩
  subst e
  simp only [jointC, Bool.or_eq_false_iff, beq_eq_false_iff_ne]
  exact ⟨fun e => q4 (by simp [e]), fun e => q5 (by simp [e])⟩
theorem partOk : ∀ n, PartOk n := by
  intro n
  induction n with
  | zero =>
    intro l d h a
    have : l = [] := List.length_eq_zero_iff.mp (by omega)
    subst this
    simp [Acc] at a
  | succ n ih =>
    intro l d h a
    obtain ⟨c, r, rfl, q⟩ := acc_wanted a
    simp only [List.length_cons] at h
    rcases q with ⟨hl, ha⟩ | ⟨rfl, hd, ha⟩
    · exact ⟨.lf c, r, .leaf hl, ha, by simp⟩
    · obtain ⟨t, r1, p1, p2, p3, p4⟩ := sumOk (interOk ih) r (d + 1) (by omega) ha
      obtain ⟨r2, rfl, a2⟩ := acc_close (Nat.succ_pos d) p4 p2
      simp only [List.length_cons] at p3
      exact ⟨t, r2, .paren hd p1, a2, by simp only [List.length_cons]; omega⟩
/-- a text without an error can be read to its end -/
theorem reads {l : List Nat} (h : due l = 0) : ∃ t, RS 0 (l.filter (· != 32)) t [] := by
  have a := acc_of (Nat.succ_pos 0) h
  obtain ⟨t, r, p1, p2, p3, p4⟩ := sumOk (interOk (partOk _)) _ 0 (Nat.le_refl _) a
  refine ⟨t, ?_⟩
  cases r with
  | nil => exact p1
  | cons c s =>
    have := p4 c s rfl
    simp [Acc, this] at p2
end KW

set_option Elab.async false
set_option linter.all false
set_option maxRecDepth 100000
set_option maxHeartbeats 4000000
/-! # for i, c in enumerate(a text, start=k); x + y by an own __add__; replace in a def -/
namespace VX
open PySem PySem.Spec PyProof.Rows L2
/-! ### enumerate(text, start=k) -/
def IteS (x : Str) (k0 : Int) : It :=
  ⟨fun i _ => i < x.cps.size, fun i H v H' => ∃ T c, v = .ref T ∧ H T = none ∧ x.cps[i]? = some c ∧ H' = upd H T (.tup [.int (k0 + (i : Nat)), .str ⟨#[c]⟩]), fun i _ => x.cps.size = i⟩
structure EnS (x : Str) (t : Tok) (k0 : Int) (h : Heap) (e j : Addr) (i : Nat) : Prop where
  en : ∃ old, IsEnum h e j (k0 + (i : Int)) old
  hj : h.IsStrIter j (strIterType x) x t i
  ei : e ≠ j
theorem turn_enumS {P : Program} {w : World} {K : PySem.W.Frag} {elts : List Expr} {kk : Nat} {tpos : Pos} (x : Str) (t : Tok) (k0 : Int) (e it : Addr) :
    Turn P w K (.Tuple elts kk tpos) (IteS x k0) [e, it] e (fun i h => EnS x t k0 h e it i) where
  mem := by simp
  obj := fun i h st b hb => by
    obtain ⟨⟨old, he⟩, ⟨o, ho, _, hd⟩, _⟩ := st
    rcases (by simpa using hb : b = e ∨ b = it) with rfl | rfl
    · exact ⟨_, he, fun v q => nomatch q⟩
    · exact ⟨o, ho, fun v q => by rw [hd] at q; cases q⟩
  keep := fun i h h' st k => by
    obtain ⟨⟨old, he⟩, ⟨o, ho, r⟩, n1⟩ := st
    exact ⟨⟨old, k e (by simp) _ he⟩, ⟨o, k it (by simp) _ ho, r⟩, n1⟩
  item := by
    intro X hP hw hK hc i pins s σ H E I hf st hg
    subst hP hw hK
    obtain ⟨⟨old, he⟩, hit, n1⟩ := st
    have el : e < s.heap.objs.size := Heap.lt_size he
    have il : it < s.heap.objs.size := by obtain ⟨_, q, _⟩ := id hit; exact Heap.lt_size q
    refine wpAny_pyNext_enum_itemC (Draws.text (prog := X.prog) (w := X.w) (A := X.A.in1) (I.ok.hd hc) it x t) he hit hg n1 (by simp [n1]) fun y h' tk hy ho hst hT _ hk => ?_
    obtain ⟨c, u, hcx, rfl⟩ := hy
    refine ⟨_, rfl, wpAny_letOwnedTupleGo_enum (s := { s with heap := h', toks := tk + 1 }) ho fun h2 he2 sb => ?_⟩
    have hT2 : h2.get? s.heap.objs.size = some { cls := .type "tuple", data := .seq #[.int (k0 + (i : Int)) tk, .str ⟨#[c]⟩ u] } := (sb.2 _ (Nat.ne_of_gt el)).trans hT
    have new : ObjOk X.prog X.w (upd H s.heap.objs.size (.tup [.int (k0 + (i : Nat)), .str ⟨#[c]⟩])) h2 s.heap.objs.size (.tup [.int (k0 + (i : Nat)), .str ⟨#[c]⟩]) :=
      ⟨by show 2 ≤ sizeLine; decide, [.int (k0 + (i : Int)) tk, .str ⟨#[c]⟩ u], .cons ⟨_, rfl⟩ (.cons ⟨_, rfl⟩ .nil), ⟨_, hT2, rfl, _, rfl⟩⟩
    have I1 : Inv X pins σ (upd H s.heap.objs.size (.tup [.int (k0 + (i : Nat)), .str ⟨#[c]⟩])) { s with heap := h2, toks := tk + 1 } :=
      I.turnedNew (ch := [e, it]) (fun b ob hb q => (sb.2 b fun z => hb (by simp [z])).trans (hk b ob (fun z => hb (by simp [z])) (fun z => hb (by simp [z])) q)) hf (Nat.le_refl _) new
    refine ⟨.ref s.heap.objs.size, _, I1, rfl, ⟨_, c, rfl, I.hok.fresh (Nat.le_refl _), hcx, rfl⟩, ⟨⟨.str ⟨#[c]⟩ u, ?_⟩, ?_, n1⟩, fun b hb => ?_⟩
    · rw [show k0 + ((i + 1 : Nat) : Int) = k0 + (i : Int) + 1 by omega]
      exact he2
    · obtain ⟨o, ho', r⟩ := hst
      exact ⟨o, (sb.2 it (Ne.symm n1)).trans ho', r⟩
    · have lt : b < s.heap.objs.size := by
        rcases (by simpa using hb : b = e ∨ b = it) with rfl | rfl
        · exact el
        · exact il
      rw [upd_ne (Nat.ne_of_lt lt)]
      exact (hf b hb).1
  done := by
    intro X hP hw hK hc i pins s σ H E I hf st hg
    subst hP hw hK
    obtain ⟨⟨old, he⟩, hit, n1⟩ := st
    obtain ⟨f0, f1, f2, f3, f4, f5⟩ := hf it (by simp)
    have hg : x.cps.size = i := hg
    subst hg
    exact wpAny_pyNext_enum_endD (Draws.text (prog := X.prog) (w := X.w) (A := X.A.in1) (I.ok.hd hc) it x t) he hit fun h' eb => ⟨rfl, I.turned (t' := s.toks) (fun b o hb q => eb b o hb q) f0 f1 f3 f4 f5⟩
  self := fun A i s Q E st h => let ⟨_, he⟩ := st.en; wpAny_pyIter_enum he h
def iEnumS (ta : TA) (k0 : Int) : TI := fun σ H R => ta σ H fun vs H1 => ∃ x, vs = [.str x] ∧ R (IteS x k0) H1
theorem walk_enumS {x : Str} {k0 : Int} : Walk (IteS x k0) x.cps.size (fun _ => True) (YPair (fun i => some (.int (k0 + (i : Nat)))) (fun i => x.cps[i]?.map fun c => .str ⟨#[c]⟩)) := by
  refine ⟨fun i _ hi _ => hi, fun _ _ => rfl, fun i H v H' _ _ y => ?_⟩
  obtain ⟨T, c, k1, k2, k3, k4⟩ := y
  exact ⟨T, .int (k0 + (i : Nat)), .str ⟨#[c]⟩, k1, k2, k4, rfl, by show x.cps[i]?.map _ = _; rw [k3]; rfl⟩
theorem callWith_type_kw {M : Model} {A : Around} {E : Value → Shared → Prop} {s : Shared} {pos : Pos} {T : String} {args : List (Bool × Sem Value)} {kws : List (Option Str × Sem Value)} {Q : Value → Shared → Prop} (hplain : args.any (·.1) = false) (hkw : kws.any (·.1.isNone) = false)
    (h : wpAny M A (evalArgs (.type T) true args kws) (fun a s₁ => wpAny M A (call (.type T) a.pos a.kw) Q E s₁) E s) :
    wpAny M A (callWith pos (.type T) [] args kws) Q E s := by
  unfold callWith
  refine wpAny_bind (wpAny_holding (wpAny_mono h (fun a s₁ h₁ => wpAny_bind (wpAny_standAt ?_)) fun _ _ x => x))
  simp only [hplain, hkw, Bool.or_false]
  refine wpAny_bind (wpAny_pure ?_)
  exact wpAny_bind (wpAny_mono h₁ (fun r s₂ hr => wpAny_bind (wpAny_holding (wpAny_point (wpAny_pure hr)))) fun _ _ x => x)
theorem pi_enumS {X : Cx} {e : Expr} {ta : TA} {p pos tpos kp kp2 : Pos} {elts : List Expr} {kk jz : Nat} {k0 : Int} (hg : Gl X "enumerate") (hm : X.mg "enumerate" = none) (ha : PA X [e] ta) (h0 : -(2 ^ 63) ≤ k0 := by decide) (h1 : k0 < 2 ^ 63 := by decide)
    (st : starEach [e] X.env = (false, eval e X.env) :: starEach [] X.env := by rfl)
    (hall : (backToKw pos (keywordEach [⟨some "start", .Constant (.int k0) jz kp, kp2⟩] X.env)).all (·.1.isSome) = true := by rfl)
    (hkw : (backToKw pos (keywordEach [⟨some "start", .Constant (.int k0) jz kp, kp2⟩] X.env)).any (·.1.isNone) = false := by rfl)
    (hks : (backToKw pos (keywordEach [⟨some "start", .Constant (.int k0) jz kp, kp2⟩] X.env)).filterMap (·.1) = [("start" : Str)] := by rfl)
    (hpl : (backTo pos (starEach [e] X.env)).any (·.1) = false := by rfl)
    (hbt : backTo pos (starEach [e] X.env) = (false, eval e X.env) :: backTo pos (starEach [] X.env) := by rfl) :
    PI X (.Tuple elts kk tpos) (.Call (.Name "enumerate" p) [e] [⟨some "start", .Constant (.int k0) jz kp, kp2⟩] pos) (iEnumS ta k0) := by
  have hk : PK X [⟨some "start", .Constant (.int k0) jz kp, kp2⟩] (tCons (tC (.int k0)) tNil) := pk_cons pe_int pk_nil
  refine ⟨fun pins s σ H R I h => ?_⟩
  refine wpAny_Call_Name_kw (ld_blt I hg hm boot_enumerate ?_)
  refine callWith_type_kw hpl hkw ?_
  have run := ha.run pos pins s σ H _ I h
  rw [hbt] at run ⊢
  refine evalArgs_kwB hall (thn run fun us s1 ⟨vs, H1, I1, r1, x, ex, q1⟩ => ?_)
  subst ex
  obtain ⟨u, rfl, ru⟩ := vals1 r1
  obtain ⟨t, rfl⟩ := ru
  refine thn (hk.run pos pins s1 σ H1 (fun zs H2 => H2 = H1 ∧ zs = [.int k0]) I1 ⟨rfl, rfl⟩) fun ws s2 ⟨zs, H2, I2, rz, e1, e2⟩ => ?_
  subst e1 e2
  obtain ⟨u2, rfl, ru2⟩ := vals1 rz
  obtain ⟨t2, rfl⟩ := ru2
  rw [hks]
  show wpAny _ _ (call (.type "enumerate") [.str x t] [(Str.ofString "start", .int k0 t2)]) _ _ _
  refine enum_begins_start (begins_text x t) trivial h0 h1 fun h' he' ht _ hkk => wpAny_pyIter_enum he' ?_
  have I3 : Inv X pins σ H2 { s2 with heap := h' } := I2.kept (t' := s2.toks) hkk
  refine ⟨s2.heap.objs.size + 1, [s2.heap.objs.size + 1, s2.heap.objs.size], _, _, H2, rfl, I3, turn_enumS x t k0 (s2.heap.objs.size + 1) s2.heap.objs.size, ⟨⟨.none, ?_⟩, ⟨_, ht, rfl, rfl⟩, Nat.succ_ne_self _⟩, fun b hb => ?_, q1⟩
  · simpa using he'
  · have le : s2.heap.objs.size ≤ b := by
      rcases (by simpa using hb : b = s2.heap.objs.size + 1 ∨ b = s2.heap.objs.size) with z | z
      · rw [z]; exact Nat.le_add_right _ _
      · rw [z]; exact Nat.le_refl _
    exact I2.fpOk le (I2.hok.fresh le)
/-! ### x + y by an own __add__ -/
def rOwnB (C : Addr) (sp : Sp) (E : XK) : R2 := fun x y H Q => ∃ a b dx dy fs gs, x = .ref a ∧ y = .ref b ∧ H a = some (.ins C dx fs) ∧ H b = some (.ins C dy gs) ∧ sp [.ref a, .ref b] H Q E
theorem op_ownB {X : Cx} {CX : CXT} {C f : Addr} {n : Nat} {sp : Sp} {E : XK} {op : Operator} (F : FnR X.prog X.w X.K X.mg X.base CX n f sp) (hc : PySem.W.selfFirst X.K C = true)
    (hs : PySem.W.findIn X.K (.ref C) (PySem.dunder op.info.2) = some (some (.ref f))) (hf : PySem.W.isFn X.K (.ref f) = true) (hx : Passes CX X E) (hr : Room n X.A) : OpR X (binaryOp op) (rOwnB C sp E) := by
  intro pins s σ H x y v u Q I rx ry hq
  obtain ⟨a, b, dx, dy, fs, gs, rfl, rfl, ha, hb, h⟩ := hq
  cases rx
  cases ry
  obtain ⟨mA, J, _⟩ := ins_get I.hok ha
  obtain ⟨mB, J', _⟩ := ins_get I.hok hb
  obtain ⟨od, J, _⟩ := J.look
  obtain ⟨od', J', _⟩ := J'.look
  obtain ⟨m, hF⟩ := I.fr
  refine PySem.W.binop_K (op := op) hF I.ok.mod.kin J J'.type hc hs hf ?_
  have r2 : Vals [V.ref a, V.ref b] [Value.ref a, Value.ref b] := .cons rfl (.cons rfl .nil)
  refine wpAny_call (codeAny_mono (run_fnR F hr hx I r2 h) fun r s' z => ?_)
  cases r with
  | error e => exact z
  | ok fl =>
    cases fl with
    | ret w =>
      obtain ⟨v, H1, I1, rv, q⟩ := z
      show PySem.W.CmpBack _ w s'
      cases w with
      | notImplemented => cases v <;> first | (cases rv; done) | (obtain ⟨_, z⟩ := rv; cases z)
      | _ => exact ⟨v, H1, I1, rv, q⟩
    | next => exact z.elim
    | brk => exact z.elim
    | cont => exact z.elim
end VX

set_option Elab.async false
set_option linter.all false
set_option maxRecDepth 100000
set_option maxHeartbeats 4000000
/-! # a def whose body gives out a token; a Hook with one more Bool, classmethods -/
namespace VX
open PySem PySem.Spec PyProof.Rows L2 CwR
section
variable {P : Program} {w : World} {K : PySem.W.Frag} {mg : Str → Option Value} {base : Heap} {x qual : Str} {params : Arguments} {body : List Stmt} {scope : Scope} {dvs : List V} {kws : List (Str × V)} {f : Addr} {fd : FuncData}
theorem okT {CX : CXT} {N ps : List Str} {k : Nat} {sp : Sp} (F : FunD K x qual params body scope dvs kws f fd) (S : FnScope N ps scope) (hnc : ∀ y ∈ scope.names, y.2 ≠ .cell) (hps : 1 ≤ ps.length) (len : ∀ vs H Q E, sp vs H Q E → vs.length = ps.length)
    (hbody : ∀ (cdv : Value) (A : Around) (outer : List Env) (s : Shared) (H : Hp) (vs : List V) (Q : VK) (E : XK), Room k (A.deeper (envOfC qual scope s.heap.objs.size f cdv)) → sp vs H Q E →
      ∃ t, PSsT (cxOf CX P w K mg base N qual scope f cdv A outer s H E) body t ∧ t { nx := fun _ H' => Q .non H', rt := Q } (start N vs) H) : FnOk P w K mg base CX (k + 1) f fd ps sp := by
  obtain ⟨oc, od, dV, kV, doc, pm, an, cdv, ct, osl, rfl, lk, hcd, _, _⟩ := F.ex
  exact fn_ofT lk hcd S hnc hps len fun A outer s H vs Q E hr hsp => hbody cdv A outer s H vs Q E hr hsp
end
section
variable {X : Cx} {CX : CXT} {k : Nat} {f C : Addr} {fd : FuncData} {ps : List Str} {sp : Sp} {dvs : List V} {ds : List Value} {E : XK} {x m : Str} {p pos apos : Pos} {e o : Expr} {es : List Expr} {ta : TE} {t : TA} {te : TE}
theorem pet_call (F : FnOk X.prog X.w X.K X.mg X.base CX k f fd ps sp) (hr : Room k X.A) (hg : Gl X x) (hm : X.mg x = some (.ref f)) (hk : PySem.W.keepIn X.K (.ref f) = true) (hb : Binds X.K fd ps ds) (hd : Vals dvs ds) (hx : Passes CX X E)
    (ha : PAT X (e :: es) t) (hdb : (x == ("__debug__" : Str)) = false := by decide) (he : starEach (e :: es) X.env = (false, eval e X.env) :: starEach es X.env := by rfl) (hpl : (backTo pos (starEach es X.env)).any (·.1) = false := by rfl) :
    PET X (.Call (.Name x p) (e :: es) [] pos) (tCall sp dvs E t) := by
  intro pins s σ H Q h0 I h
  refine wpAny_Call_Name_kw (ld_glob I hg hm ?_ hdb)
  refine PySem.W.callWith_K (h₀ := X.base) I.ok.mod.kin hk (thn (ha pos pins s σ H _ h0 I h) fun us s1 ⟨vs, H1, I1, r, q⟩ => ⟨I1.kIn, ?_⟩) he hpl
  exact run_fn F hr hb hd hx I1 r q
theorem pst_asg {tg : Expr} {g : TG} (he : PET X e te) (hg : PG X tg g) (hs : swapsWithSole [tg] e pos.line X.env = pure false := by rfl) (hw : swappedStores [tg] e X.env = pure none := by rfl)
    (h1 : (assignEach [tg] X.env).map (·.2) = [assign tg X.env] := by rfl) : PST X (.Assign [tg] e pos) (tAsg te g) := by
  intro pins s σ H D h0 I h
  refine wpAny_Assign_stores (thn (he pins s σ H _ h0 I h) fun v s1 ⟨x, H1, I1, r1, q1⟩ => ?_) hs hw
  rw [h1]
  exact thn (hg.run pins s1 σ H1 x v _ I1 r1 q1) fun _ s2 q => q
end
/-! ### a Hook -/
open He5 in
def hookMA (n : Nat) (fa : List He.Fa) (fn : List DefA) (ex : PySem.W.Frag → Bool) : PySem.W.Hook where
  α := He.AlD × Bool
  obs := fun s => (obsA fa fn (He.frG s.heap.get? (asA s.heap.get? n)), ex (He.frG s.heap.get? (asA s.heap.get? n)))
  val := fun _ => (valA fn, true)
  says := fun _ h => ∃ K : PySem.W.Frag, K.In h ∧ SaysA fa fn K ∧ ex K = true
  of := fun _ _ e => ⟨_, He.frG_in, congrArg (fun z : He.AlD × Bool => z.1) e, congrArg (fun z : He.AlD × Bool => z.2) e⟩
  keeps := fun _ _ _ ⟨K, hK, c⟩ k => ⟨K, PySem.W.Frag.In.keeps hK k, c⟩
open He5 in
def obsMA (n : Nat) (fa : List He.Fa) (fn : List DefA) (ex : PySem.W.Frag → Bool) (g : Addr → Option Obj) : He.AlD × Bool := (fun K => (obsA fa fn K, ex K)) (He.frG g (asA g n))
theorem obsMA_eq {n : Nat} {fa : List He.Fa} {fn : List He5.DefA} {ex : PySem.W.Frag → Bool} {g : Addr → Option Obj} {s : Shared} (h : ∀ a, g a = s.heap.get? a) : obsMA n fa fn ex g = (hookMA n fa fn ex).obs s := by
  have e : g = s.heap.get? := funext h
  rw [e] <;> rfl
/-! ### an error's class, as Bools of the written part -/
def clsB (K : PySem.W.Frag) (C : Addr) : Bool := match K.lookup C with
  | some ⟨.type "type", _, .cls cd, sl⟩ => (match cd.mro, sl.toList with
    | .ref D :: bm, [_, _, _, _, some (.builtin n), _] => D == C && (n == "ValueError.__new__" && (!cd.hasDel && (cd.hasDict && PySem.HandSPX.refsVE bm)))
    | _, _ => false)
  | _ => false
theorem clsB_ok {K : PySem.W.Frag} {C : Addr} (h : clsB K C = true) : ∃ nm q N bs bm sn sub ab col dd k0 k1 k2 k3 k5, K.lookup C = some (excClassObj nm q C N bs bm true sn sub ab col dd k0 k1 k2 k3 k5 "ValueError.__new__") ∧ PySem.HandSPX.refsVE bm = true := by
  unfold clsB at h
  split at h
  · rename_i dd cd sl ho
    split at h
    · rename_i D bm k0 k1 k2 k3 n k5 hm hs
      simp only [Bool.and_eq_true, beq_iff_eq, Bool.not_eq_true'] at h
      obtain ⟨rfl, rfl, hdel, hdc, hv⟩ := h
      obtain ⟨nm, bs, mro, ns, qn, hd, sn, sub, ab, col, del⟩ := cd
      dsimp only at hm hdel hdc
      subst hm hdel hdc
      have hsl : sl = #[k0, k1, k2, k3, some (.builtin "ValueError.__new__"), k5] := by
        obtain ⟨l⟩ := sl
        simp only at hs
        rw [hs]
      subst hsl
      exact ⟨nm, qn, ns, bs, bm, sn, sub, ab, col, dd, k0, k1, k2, k3, k5, ho, hv⟩
    · cases h
  · cases h
/-- of every error's class -/
def exB (K : PySem.W.Frag) (C : Addr) : Bool := He.eqO (PySem.W.findIn K (.ref C) "__getattribute__") (some (some (.builtin "BaseException.__getattribute__"))) && (He.eqO (PySem.W.findIn K (.ref C) "__getattr__") (some none) && (decide (PySem.W.subIn K (.ref C) (.type "BaseException") = some true) && (PySem.W.hasDictIn K C &&
  (He.eqO (PySem.W.findIn K (.ref C) "__class__") (some (some (.builtin "object.__class__"))) && (He.eqO (PySem.W.specialIn K (.builtin "object.__class__") "__get__") (some (some (.builtin "getset_descriptor.__get__"))) && (decide (PySem.W.takesIn K (.builtin "object.__class__") = some true) && (decide (PySem.W.mroIn K C (.type "object") = some true) &&
  (decide (PySem.W.typeIn K (.ref C) = some (.type "type")) && PySem.W.keepIn K (.ref C)))))))))
structure ExF (K : PySem.W.Frag) (C : Addr) : Prop where
  xf : XfC K C
  xc : ExcC K C
  ty : PySem.W.typeIn K (.ref C) = some (.type "type")
  kp : PySem.W.keepIn K (.ref C) = true
theorem exB_ok {K : PySem.W.Frag} {C : Addr} (h : exB K C = true) : ExF K C := by
  obtain ⟨h1, h⟩ := He.ba h
  obtain ⟨h2, h⟩ := He.ba h
  obtain ⟨h3, h⟩ := He.ba h
  obtain ⟨h4, h⟩ := He.ba h
  obtain ⟨h5, h⟩ := He.ba h
  obtain ⟨h6, h⟩ := He.ba h
  obtain ⟨h7, h⟩ := He.ba h
  obtain ⟨h8, h⟩ := He.ba h
  obtain ⟨h9, h10⟩ := He.ba h
  have e3 := of_decide_eq_true h3
  exact ⟨⟨He.eqO_ok h1, He.eqO_ok h2, e3, h4⟩, ⟨He.eqO_ok h1, He.eqO_ok h2, e3, h4, He.eqO_ok h5, He.eqO_ok h6, of_decide_eq_true h7, of_decide_eq_true h8⟩, of_decide_eq_true h9, h10⟩
/-- of one with an __init__ of its own that stores the field f -/
def inB (K : PySem.W.Frag) (C : Addr) (f : Str) : Bool := clsB K C && (He.eqO (PySem.W.findIn K (.ref C) "__setattr__") (some (some (.builtin "object.__setattr__"))) && (He.eqO (PySem.W.findIn K (.ref C) f) (some none) &&
  (He.eqO (PySem.W.findIn K (.ref C) "__init__") (some (some (.ref (He.ma K C "__init__")))) && decide (PySem.W.typeIn K (.ref (He.ma K C "__init__")) = some (.type "function")))))
structure InF (K : PySem.W.Frag) (C : Addr) (f : Str) : Prop where
  oe : OexC K C
  no : PySem.W.findIn K (.ref C) f = some none
  ini : PySem.W.findIn K (.ref C) "__init__" = some (some (.ref (He.ma K C "__init__")))
  fn : PySem.W.typeIn K (.ref (He.ma K C "__init__")) = some (.type "function")
theorem inB_ok {K : PySem.W.Frag} {C : Addr} {f : Str} (x : ExF K C) (h : inB K C f = true) : InF K C f := by
  obtain ⟨h1, h⟩ := He.ba h
  obtain ⟨h2, h⟩ := He.ba h
  obtain ⟨h3, h⟩ := He.ba h
  obtain ⟨h4, h5⟩ := He.ba h
  exact ⟨⟨clsB_ok h1, He.eqO_ok h2, x.xf.exC, x.ty, x.kp⟩, He.eqO_ok h3, He.eqO_ok h4, of_decide_eq_true h5⟩
/-! ### short facts -/
theorem same_new {H : Hp} {a : Addr} {o : HO} (h : H a = none) : Same H (upd H a o) := fun c u e => by
  rw [upd_ne (ne_of_none e h)]
  exact e
theorem same_two {H : Hp} {a b : Addr} {o u : HO} (ha : H a = none) (hb : upd H a o b = none) : Same H (upd (upd H a o) b u) := fun c z e => by
  have k : upd H a o c = some z := by rw [upd_ne (ne_of_none e ha)]; exact e
  rw [upd_ne (ne_of_none k hb)]
  exact k
theorem none_of {H : Hp} {a b : Addr} {o : HO} (hb : upd H a o b = none) : H b = none := by
  by_cases e : b = a
  · rw [e, upd_same] at hb; cases hb
  · rwa [upd_ne e] at hb
def Kept (b : Addr) (H H' : Hp) : Prop := ∀ c o, H c = some o → c ≠ b → H' c = some o
theorem kept_box {H : Hp} {b : Addr} {o : HO} : Kept b H (upd H b o) := fun c u e n => by
  rw [upd_ne n]
  exact e
theorem Kept.of {H H' : Hp} {b : Addr} (k : Same H H') : Kept b H H' := fun c o e _ => k c o e
theorem Kept.trans {H H' H'' : Hp} {b : Addr} (k : Kept b H H') (q : Kept b H' H'') : Kept b H H'' := fun c o e n => q c o (k c o e n) n
theorem lt_line {n : Nat} (h : n ≤ 100000) : n < sizeLine := Nat.lt_of_le_of_lt h (by decide)
/-! ### an error's __init__ -/
def spIni (K : PySem.W.Frag) (C : Addr) (g : Str) : Sp := fun vs H Q _ => ∃ (a : Addr) (v : V), vs = [.ref a, v] ∧ H a = some (exo a C none) ∧ ∀ dx, H dx = none → dx ≠ a → Q .non (upd (upd H dx (exd dx [(g, v)])) a (exo a C (some dx)))
section
variable {P : Program} {w : World} {K : PySem.W.Frag} {mg : Str → Option Value} {base : Heap} {f : Addr} {fd : FuncData}
theorem ok_ini {x g qual : Str} {pa : Arguments} {bd : List Stmt} {sc : Scope} {C : Addr} {q1 q2 q3 q4 : Pos} (F : FunD K x qual pa bd sc [] [] f fd) (S : FnScope ["self", g] ["self", g] sc) (hb : bd = [.Assign [.Attribute (.Name "self" q1) g q2] (.Name g q3) q4]) (I : InF K C g)
    (hd : (g == ("__debug__" : Str)) = false) (hc : (g == ("__classdict__" : Str)) = false) : FnOk P w K mg base CX0 1 f fd ["self", g] (spIni K C g) := by
  subst hb
  refine F.ok S (fun vs H Q E h => ?_) (fun cdv A outer s H vs Q E hr h => ?_)
  · obtain ⟨a, v, rfl, _⟩ := h
    rfl
  · obtain ⟨a, v, rfl, ha, k⟩ := h
    refine ⟨_, PSs.nox (pss_one (ps_ost (pe_var (i := 0) rfl (vis_par S (x := "self") (.head _))) (pe_var (i := 1) rfl (vis_par S (.tail _ (.head _))) hd hc))), ?_⟩
    exact ⟨_, rfl, _, rfl, a, C, rfl, I.oe, I.no, .inl ⟨ha, k⟩⟩
/-- an error's __init__: its promise, its arguments by place -/
def IniOk (P : Program) (w : World) (K : PySem.W.Frag) (mg : Str → Option Value) (base : Heap) (x g : Str) : Prop := ∃ fd, FnOk P w K mg base CX0 1 (He.ma K (He.ga K x) "__init__") fd ["self", g] (spIni K (He.ga K x) g) ∧ Binds K fd ["self", g] []
end
/-! ### the draws' box -/
/-- the box, of which at most N numbers were mixed -/
def BoxK (H : Hp) (b : Addr) (N : Nat) : Prop := ∃ x y z : Int, H b = some (.lst [.int x, .int y, .int z]) ∧ 0 ≤ x ∧ 0 ≤ y ∧ y ≤ N ∧ 0 ≤ z ∧ z ≤ 100000000
theorem Kept.refl {b : Addr} {H : Hp} : Kept b H H := fun _ _ h _ => h
theorem BoxK.same {H H' : Hp} {b : Addr} {N : Nat} (s : Same H H') (h : BoxK H b N) : BoxK H' b N := by
  obtain ⟨x, y, z, hb, r⟩ := h
  exact ⟨x, y, z, s _ _ hb, r⟩
theorem BoxK.at {H : Hp} {b : Addr} {N : Nat} (h : BoxK H b N) : ∃ xs, H b = some (.lst xs) := let ⟨_, _, _, hb, _⟩ := h; ⟨_, hb⟩
theorem BoxK.mono {H : Hp} {b : Addr} {N M : Nat} (h : BoxK H b N) (l : N ≤ M) : BoxK H b M := by
  obtain ⟨x, y, z, hb, x0, y0, yN, r⟩ := h
  exact ⟨x, y, z, hb, x0, y0, by omega, r⟩
def spTake : Sp := fun vs H Q _ => ∃ (b : Addr) (m x y z : Int), vs = [.ref b, .int m] ∧ H b = some (.lst [.int x, .int y, .int z]) ∧ 0 ≤ x ∧ 0 ≤ y ∧ y ≤ 1000000 ∧ 0 ≤ z ∧ z ≤ 100000000 ∧ 0 < m ∧ m ≤ 1000000000 ∧
  ∀ d x' y', 0 ≤ d → d < m → 0 ≤ x' → x' ≤ x → y ≤ y' → y' ≤ y + 1 → Q (.int d) (upd H b (.lst [.int x', .int y', .int z]))
theorem take_use {H : Hp} {b : Addr} {N : Nat} {m : Int} {Q : VK} {E : XK} (h : BoxK H b N) (hN : N ≤ 900000) (m0 : 0 < m) (m1 : m ≤ 1000000000)
    (k : ∀ d H', 0 ≤ d → d < m → Kept b H H' → BoxK H' b (N + 1) → (∀ c, H c = none → H' c = none) → Q (.int d) H') : spTake [.ref b, .int m] H Q E := by
  obtain ⟨x, y, z, hb, x0, y0, yN, z0, z1⟩ := h
  refine ⟨b, m, x, y, z, rfl, hb, x0, y0, by omega, z0, z1, m0, m1, fun d x' y' d0 d1 x0' x1' y1 y2 => k d _ d0 d1 (fun c o q ne => by rw [upd_ne ne]; exact q) ⟨x', y', z, upd_same, x0', by omega, by omega, z0, z1⟩ fun c hc => ?_⟩
  rw [upd_ne (fun e => by rw [e, hb] at hc; cases hc)]
  exact hc
theorem pw_ok {i : Int} (h0 : 0 ≤ i) (h1 : i < 2 ^ 90) : CPw i 3 := by
  refine ⟨by decide, ?_⟩
  have h : Builtin.Int.intBits i ≤ 90 := intBits_le (by omega)
  have h2 : (Builtin.Int.intBits i : Int) ≤ 90 := by exact_mod_cast h
  omega
def spBox (K : PySem.W.Frag) : Sp := fun vs H Q _ => ∃ (l : Addr) (ns : List Int) (j : Nat), vs = [.ref l, .int j] ∧ SqL K H l (ns.map V.int) ∧ j ≤ 100 ∧ ∀ p H', H p = none → Same H H' → BoxK H' p 0 → Q (.ref p) H'
theorem atI_ex {xs : List V} {d : Int} (h0 : 0 ≤ d) (h1 : d < xs.length) : ∃ v, atI xs d = some v ∧ v ∈ xs := by
  have hl : d.toNat < xs.length := by omega
  refine ⟨xs[d.toNat], ?_, List.getElem_mem hl⟩
  have e : ((d.toNat : Nat) : Int) = d := Int.toNat_of_nonneg h0
  have q := atI_nat (xs := xs) (j := d.toNat) (List.getElem?_eq_getElem hl)
  rwa [e] at q
/-- the heap behind an error's making -/
theorem raise_heap {H : Hp} {a d C : Addr} {g : Str} {v : V} (ha : H a = none) (hd : d ≠ a) : upd (del (upd (upd (upd H a (exo a C none)) d (exd d [(g, v)])) a (exo a C (some d))) a) d (.xd [(g, v)]) = upd H d (.xd [(g, v)]) := by
  funext b
  by_cases hb : b = d
  · rw [hb, upd_same, upd_same]
  · rw [upd_ne hb, upd_ne hb]
    by_cases hba : b = a
    · rw [hba, del_same, ha]
    · rw [del_ne hba, upd_ne hba, upd_ne hb, upd_ne hba]
/-- what C(v) asks, C of one field -/
theorem make_read {K : PySem.W.Frag} {C : Addr} {g : Str} {v : V} {H : Hp} {X : XK} (k : ∀ d, H d = none → X (.ref C) (some d) (upd H d (.xd [(g, v)]))) (a : Addr) (ha : H a = none) :
    spIni K C g [.ref a, v] (upd H a (exo a C none)) (fun u H2 => u = .non ∧ ∃ (d : Addr) (fs : List (Str × V)), H2 a = some (exo a C (some d)) ∧ H2 d = some (exd d fs) ∧ H d = none ∧ X (.ref C) (some d) (upd (del H2 a) d (.xd fs))) (fun _ _ _ => False) := by
  refine ⟨a, v, rfl, upd_same, fun d hd ne => ⟨rfl, d, [(g, v)], upd_same, ?_, ?_, ?_⟩⟩
  · rw [upd_ne ne, upd_same]
  · rwa [upd_ne ne] at hd
  · rw [raise_heap ha ne]
    rw [upd_ne ne] at hd
    exact k d hd
end VX

set_option Elab.async false
set_option linter.all false
set_option maxRecDepth 100000
set_option maxHeartbeats 4000000
/-! # C.m(..) of a classmethod within a try -/
namespace VX
open PySem PySem.Spec PyProof.Rows L2 ClX
section
variable {X : Cx} {pins : List (Addr × Obj)} {σ : L2.St} {H : Hp} {s : Shared}
theorem run_fnRS {CX : CXT} {k : Nat} {f : Addr} {sp : Sp} {E : XK} {Q : VK} {us : List Value} {vs : List V} (F : FnR X.prog X.w X.K X.mg X.base CX k f sp) (hr : Room k X.A) (hx : PassesAt CX X σ E) (I : L2.Inv X pins σ H s) (r : Vals vs us) (h : sp vs H Q E) :
    codeAny (model X.prog X.w) X.A (.call (.ref f) ⟨us, []⟩) (fun r s' => match r with | .ok (.ret v) => EP X pins σ Q v s' | .ok _ => False | .error e => X.xe e s') s := by
  refine codeAny_mono (F X.A X.stack s H us vs Q E hr I.env0 r h) fun r s' hq => ?_
  cases r with
  | error e => exact hx pins H s e s' I hq
  | ok fl =>
    cases fl with
    | ret u => exact I.after hq
    | next => exact False.elim hq
    | brk => exact False.elim hq
    | cont => exact False.elim hq
theorem run_cmS {CX : CXT} {k : Nat} {C g q : Addr} {sp : Sp} {E : XK} {Q : VK} {us : List Value} {vs : List V} (F : FnR X.prog X.w X.K X.mg X.base CX k g sp) (hr : Room k X.A) (hx : PassesAt CX X σ E) (I : L2.Inv X ((q, PySem.W.methodObj (.ref g) (.ref C)) :: pins) σ H s)
    (r : Vals vs us) (h : sp (.ref C :: vs) H Q E) : wpAny (model X.prog X.w) X.A (call (.ref q) us) (EP X pins σ Q) X.xe s := by
  have z : wpAny (model X.prog X.w) X.A (call (.ref q) us) (EP X ((q, PySem.W.methodObj (.ref g) (.ref C)) :: pins) σ Q) X.xe s :=
    wpAny_call (PySem.W.method_call (pin_at I) (run_fnRS (us := .ref C :: us) (vs := .ref C :: vs) F hr hx I (.cons rfl r) h))
  exact thn z fun _ _ y => unpinE y
end
def tCMethS (C : Addr) (sp : Sp) (E : L2.St → XK) (ta : TE) (t : TA) : TE := fun σ H Q => ta σ H fun x H1 => x = .ref C ∧ t σ H1 fun vs H2 => sp (.ref C :: vs) H2 Q (E σ)
theorem pe_cmethS {X : Cx} {CX : CXT} {k : Nat} {C p g : Addr} {mc : Value} {sp : Sp} {E : L2.St → XK} {o e : Expr} {es : List Expr} {m : Str} {pos apos : Pos} {ta : TE} {t : TA} {pl : Sem Bool} (he : PE X o ta) (r : CRead X.K C mc) (c : CMet X.K C mc m p g) (F : FnR X.prog X.w X.K X.mg X.base CX k g sp) (hr : Room k X.A) (hx : ∀ σ, PassesAt CX X σ (E σ)) (ha : PA X (e :: es) t)
    (hst : starEach (e :: es) X.env = (false, eval e X.env) :: starEach es X.env := by rfl) (hpl : (backTo pos (starEach es X.env)).any (·.1) = false := by rfl)
    (ht : eval (.Call (.Attribute o m apos) (e :: es) [] pos) X.env = (do
      let ov ← eval o X.env
      standAt apos.atName
      let (f, first) ← holding [ov] (getMethod ov m pl)
      callWith pos f first (backTo pos (starEach (e :: es) X.env)) (backToKw pos (keywordEach [] X.env))) := by rfl) :
    PE X (.Call (.Attribute o m apos) (e :: es) [] pos) (tCMethS C sp E ta t) := by
  refine ⟨fun pins s σ H Q I h => ?_⟩
  refine PySem.W.methodCall_KW (pl := pl) (thn (he.run pins s σ H _ I h) fun u s1 ⟨x, H1, I1, rx, ex, q⟩ => ?_) ht
  subst ex
  obtain rfl : u = Value.ref C := rx
  refine getmethcm_ok I1 r c fun s2 I2 => ?_
  refine callwith_cm I2 (base_none I1 (Nat.le_refl _)) c.fi (thn (ha.run pos _ s2 σ H1 _ I2 q) fun us s3 ⟨vs, H2, I3, rv, q2⟩ => ⟨⟨pin_at I3, I3.kIn⟩, ?_⟩) hst hpl
  exact run_cmS F hr (hx σ) I3 rv q2
theorem yes_if {σ : L2.St} {H : Hp} {A B : Hp → Prop} (h : A H) : tYes σ H fun b H3 => if b = true then A H3 else B H3 := by
  show if true = true then A H else B H
  rw [if_pos rfl]
  exact h
theorem no_if {σ : L2.St} {H : Hp} {A : Hp → Prop} (h : A H) : tYes σ H fun b H3 => b = true → A H3 := fun _ => h
/-- a list that grows outside of what stood -/
theorem Same.grow {H H3 : Hp} {D : Addr} {o : HO} (s : Same H H3) (hD : H D = none) : Same H (upd H3 D o) := fun b u q => by
  rw [upd_ne (ne_of_none q hD)]
  exact s b u q
theorem take_more {α β : Type} {g : α → β} {xs : List α} {i : Nat} {x : α} (h : xs[i]? = some x) : (xs.take (i + 1)).map g = (xs.take i).map g ++ [g x] := by
  rw [List.take_succ, h, List.map_append]
  rfl
theorem take_one {α : Type} {xs : List α} {i : Nat} {x : α} (h : xs[i]? = some x) : xs.take (i + 1) = xs.take i ++ [x] := by
  rw [List.take_succ, h]
  rfl
/-! ### a text times an int; an item of a displayed list, drawn -/
theorem op_mulS {X : Cx} : OpR X (binaryOp .Mult) (fun x y H Q => ∃ a n, x = .str a ∧ y = .int n ∧ a.length ≤ 1000 ∧ 0 ≤ n ∧ n ≤ 1000 ∧ Q (.str (Txt.mul a n)) H) := by
  intro pins s σ H x y v u Q I rx ry h
  obtain ⟨a, n, rfl, rfl, ha, h0, h1, q⟩ := h
  obtain ⟨t, rfl⟩ := rx
  obtain ⟨t', rfl⟩ := ry
  have hp : (a.length : Int) * n ≤ 1000000 := by
    have := Int.mul_le_mul (show (a.length : Int) ≤ 1000 by omega) h1 h0 (by decide)
    omega
  refine SB.mul ⟨?_, fun h2 _ h3 => ?_, fun h2 _ => ?_⟩ fun t' k => ⟨.str (Txt.mul a n), H, I.tok _, ⟨t', rfl⟩, q⟩
  · rw [decide_eq_false (by omega), decide_eq_false (by omega)]; rfl
  · have h5 : (1000 : Int) ≤ (2 ^ 63 - 1) / n := by
      rw [Int.le_ediv_iff_mul_le (by omega)]
      omega
    omega
  · have h6 : a.length * n.toNat ≤ 1000000 := by
      have e : ((a.length * n.toNat : Nat) : Int) = (a.length : Int) * n := by rw [Int.natCast_mul, Int.toNat_of_nonneg h0]
      omega
    have h7 : (1000000 : Nat) ≤ sizeLine := by decide
    exact decide_eq_false (by show ¬ a.length * n.toNat > sizeLine; omega)
theorem pick_use {K : PySem.W.Frag} {H : Hp} {b l0 : Addr} {N : Nat} {m : Int} {vs : List V} {Q : VK} {E : XK} (h : BoxK H b N) (hl : H l0 = none) (hN : N ≤ 900000) (hm : (vs.length : Int) = m) (m0 : 0 < m) (m1 : m ≤ 1000)
    (k : ∀ v H', v ∈ vs → Kept b H H' → BoxK H' b (N + 1) → Q v H') : spTake [.ref b, .int m] (upd H l0 (.lst vs)) (fun y H2 => rIxL K (.ref l0) y H2 Q) E := by
  have n0 : l0 ≠ b := fun e => by obtain ⟨xs, hx⟩ := h.at; rw [e, hx] at hl; cases hl
  refine take_use (h.same (same_new hl)) hN m0 (by omega) fun d H1 d0 d1 kp bx _ => ?_
  obtain ⟨v, hv, hm⟩ := atI_ex (xs := vs) d0 (by omega)
  exact ⟨l0, vs, d, v, rfl, rfl, SqL.of (kp _ _ upd_same n0), hv, k v H1 hm ((Kept.of (same_new hl)).trans kp) bx⟩
end VX

set_option Elab.async false
set_option linter.all false
set_option maxRecDepth 100000
set_option maxHeartbeats 4000000
/-! # law_k11: the text's defs, what a walk knows of the module -/
namespace KB
open PySem PySem.Spec PyProof.Rows L2 VX
def top (i : Nat) : Stmt := PySem.Challenge.pw_handspaces_k11_texts_refused.main.body.getD i (.Pass ⟨0, 0, 0, 0⟩)
abbrev iBadC : Nat := 4
abbrev iFits : Nat := 9
abbrev iCheck : Nat := 12
abbrev iSum : Nat := 13
abbrev iInter : Nat := 14
abbrev iPart : Nat := 15
abbrev iRW : Nat := 16
abbrev iWord : Nat := 17
abbrev iCell : Nat := 19
abbrev iBox : Nat := 20
abbrev iTake : Nat := 21
abbrev iDue : Nat := 22
abbrev iLine : Nat := 23
abbrev iTold : Nat := 24
abbrev iLaw : Nat := 25
def defs : List (Str × Nat) := [("fits", iFits), ("check_text", iCheck), ("read_sum", iSum), ("read_intersection", iInter), ("read_part", iPart), ("read_word", iRW),
  ("_law_cell", iCell), ("_law_box", iBox), ("_law_take", iTake), ("_law_due", iDue), ("_law_line", iLine), ("_law_told", iTold), ("law", iLaw)]
def free : List Str := ["len", "int", "abs", "range", "tuple", "enumerate", "max", "min", "ValueError"]
abbrev FnP (K : PySem.W.Frag) (x : Str) (i : Nat) (f : Addr) (fd : FuncData) : Prop := FunD K x x (defArgs (top i)) (defBody (top i)) (defScope (top i)) [] [] f fd
abbrev wC (K : PySem.W.Frag) : Addr := He.ga K "Word"
structure Txt (K : PySem.W.Frag) (mg : Str → Option Value) : Prop where
  dfs : ∀ p ∈ defs, mg p.1 = some (.ref (He.ga K p.1))
  free : ∀ x ∈ free, mg x = none
  leaves : mg "LEAVES" = some (.ref (He.ga K "LEAVES"))
  joints : mg "JOINTS" = some (.ref (He.ga K "JOINTS"))
  ltup : ∀ H, SqT K H (He.ga K "LEAVES") [.str "a", .str "b", .str "c", .str "0", .str "1"]
  jtup : ∀ H, SqT K H (He.ga K "JOINTS") [.str "+", .str "&"]
  most : ∃ t, mg "MOST_OPEN" = some (.int 9 t)
  word : mg "Word" = some (.ref (wC K))
  cls : Cls K (wC K)
  fs : NoAttr K (wC K) "_sign"
  fp : NoAttr K (wC K) "_parts"
  mks : Mk K (wC K) (He.ma K (wC K) "__init__")
  cr : ClX.CRead K (wC K) (.type "type")
  cm : ClX.CMet K (wC K) (.type "type") "read" (He.ma K (wC K) "read") (He5.wf K (wC K) "classmethod" "read")
  first : PySem.W.selfFirst K (wC K) = true
  add : PySem.W.findIn K (.ref (wC K)) "__add__" = some (some (.ref (He.ma K (wC K) "__add__")))
  addf : PySem.W.isFn K (.ref (He.ma K (wC K) "__add__")) = true
  and : PySem.W.findIn K (.ref (wC K)) "__and__" = some (some (.ref (He.ma K (wC K) "__and__")))
  andf : PySem.W.isFn K (.ref (He.ma K (wC K) "__and__")) = true
  badc : mg "BadColumn" = some (.ref (He.ga K "BadColumn"))
  exf : ExF K (He.ga K "BadColumn")
  inf : InF K (He.ga K "BadColumn") "column"
  exm : PySem.W.exmOne K (.ref (He.ga K "BadColumn")) (.ref (He.ga K "BadColumn")) = some true
theorem Txt.fr {K : PySem.W.Frag} {mg : Str → Option Value} (T : Txt K mg) (x : Str) (h : x ∈ KB.free := by decide +kernel) : mg x = none := T.free x h
theorem Txt.df {K : PySem.W.Frag} {mg : Str → Option Value} (T : Txt K mg) (x : Str) (i : Nat) (h : (x, i) ∈ defs := by decide +kernel) : mg x = some (.ref (He.ga K x)) := T.dfs (x, i) h
end KB

set_option Elab.async false
set_option linter.all false
set_option maxRecDepth 100000
set_option maxHeartbeats 4000000
/-! # words.py: fits, check_text -/
namespace KB
open PySem PySem.Spec PyProof.Rows L2 VX KW
section
variable {P : Program} {w : World} {K : PySem.W.Frag} {mg : Str → Option Value} {base : Heap} {f : Addr} {fd : FuncData}
/-- a text of one sign -/
abbrev one (c : Nat) : Str := ⟨#[c]⟩
theorem one_eq {c d : Nat} : (one c = one d) ↔ c = d := by
  constructor
  · intro h
    have := congrArg (fun s : Str => s.cps.toList) h
    simpa using this
  · rintro rfl; rfl
theorem dec_one {c d : Nat} : decide (V.str (one c) = V.str (one d)) = (c == d) := by
  rw [Bool.eq_iff_iff]
  simp only [decide_eq_true_eq, beq_iff_eq]
  constructor
  · intro h
    exact one_eq.mp (by injection h)
  · rintro rfl; rfl
theorem beq_one {c d : Nat} : (one d == one c) = (c == d) := by
  rw [Bool.eq_iff_iff, beq_iff_eq, beq_iff_eq, one_eq]
  exact eq_comm
theorem in_leaves (c : Nat) : inV (V.str (one c)) [V.str "a", V.str "b", V.str "c", V.str "0", V.str "1"] = leafC c := by
  show ((one 97 == one c) || ((one 98 == one c) || ((one 99 == one c) || ((one 48 == one c) || ((one 49 == one c) || false))))) = _
  simp only [beq_one, leafC, Bool.or_false, Bool.or_assoc]
theorem in_joints (c : Nat) : inV (V.str (one c)) [V.str "+", V.str "&"] = jointC c := by
  show ((one 43 == one c) || ((one 38 == one c) || false)) = _
  simp only [beq_one, jointC, Bool.or_false]
/-! ### fits -/
def spFits : Sp := fun vs H Q _ => ∃ (c : Nat) (m : Int), vs = [.str (one c), .int m] ∧ Q (.bl (if leafC c = true then decide (m = 0) else jointC c && decide (m = 2))) H
theorem sc_fits : FnScope ["sign", "many"] ["sign", "many"] (defScope (top iFits)) := ⟨rfl, rfl, rfl, by decide +kernel, rfl, by decide +kernel, by decide +kernel⟩
theorem ok_fits (F : FnP K "fits" iFits f fd) (T : Txt K mg) : FnOk P w K mg base CX0 1 f fd ["sign", "many"] spFits := by
  refine F.ok sc_fits (fun vs H Q E h => ?_) (fun cdv A outer s H vs Q E hr h => ?_)
  · obtain ⟨c, m, rfl, _⟩ := h
    rfl
  · obtain ⟨c, m, rfl, k⟩ := h
    refine ⟨_, PSs.nox (pss_cons (ps_if (pt_cmpR op_in_seq (pv 0) (pe_glob (v := .ref (He.ga K "LEAVES")) (by rfl) T.leaves rfl) (by rfl)) (pss_one (ps_ret (pe_cmp (pc_eqI (pv 1) pe_int) rfl))) pss_nil)
      (pss_one (ps_ret (pe_and (pe_cmpR op_in_seq (pv 0) (pe_glob (v := .ref (He.ga K "JOINTS")) (by rfl) T.joints rfl) (by rfl)) (pe_one (pe_cmp (pc_eqI (pv 1) pe_int) rfl)))))), ?_⟩
    refine ⟨_, rfl, _, _, rfl, .inr (T.ltup _), rfl, rfl, _, rfl, ?_⟩
    simp only [Bool.false_eq_true, if_false, in_leaves]
    refine ite2 (fun hc => ?_) (fun hc => ?_)
    · rw [if_pos hc] at k
      exact ⟨_, rfl, _, _, rfl, rfl, k⟩
    · rw [if_neg hc] at k
      refine ⟨_, rfl, _, _, rfl, .inr (T.jtup _), rfl, rfl, _, rfl, ?_⟩
      simp only [Bool.false_eq_true, if_false, in_joints]
      cases hj : jointC c with
      | false =>
        rw [hj] at k
        exact iteF k
      | true =>
        rw [hj] at k
        exact iteT ⟨_, rfl, _, _, rfl, rfl, k⟩
/-! ### check_text -/
def spCheck (K : PySem.W.Frag) : Sp := fun vs H Q E => ∃ (z : Str), vs = [.str z, .int 9] ∧ z.length ≤ 1000 ∧ (due z.cps.toList = 0 → ∀ H', Same H H' → Q .non H') ∧
  (due z.cps.toList ≠ 0 → ∀ H' d, Same H H' → H' d = none → E (.ref (He.ga K "BadColumn")) (some d) (upd H' d (.xd [("column", .int (due z.cps.toList : Nat))])))
theorem sc_check : FnScope ["text", "most", "opened", "wanted", "column", "sign"] ["text", "most"] (defScope (top iCheck)) := ⟨rfl, rfl, rfl, by decide +kernel, rfl, by decide +kernel, by decide +kernel⟩
theorem ok_check {fdB : FuncData} (F : FnP K "check_text" iCheck f fd) (T : Txt K mg) (GB : FnOk P w K mg base CX0 1 (He.ma K (He.ga K "BadColumn") "__init__") fdB ["self", "column"] (spIni K (He.ga K "BadColumn") "column")) (BB : Binds K fdB ["self", "column"] []) :
    FnOk P w K mg base (L2.CX P w) 4 f fd ["text", "most"] (spCheck K) := by
  have iC := T.inf
  refine F.ok sc_check (fun vs H Q E h => ?_) (fun cdv A outer s H vs Q E hr h => ?_)
  · obtain ⟨z, rfl, _⟩ := h
    rfl
  · obtain ⟨z, rfl, hz, k0, k1⟩ := h
    have hr2 : Room 2 _ := hr.mono (by decide)
    have nd := sc_check.nd
    refine ⟨_, (pss_cons (ps_set (i := 2) nd rfl (.inl rfl) pe_int) (pss_cons (ps_set (i := 3) nd rfl (.inl rfl) pe_bl)
      (pss_cons (ps_for (passes_of rfl) rfl (pi_enumS (by rfl) (T.fr "enumerate") (pa_cons (pv 0) pa_nil)) (pg_tup rfl (pgs_cons (pg_name (i := 4) nd rfl (.inl rfl)) (pgs_cons (pg_name (i := 5) nd rfl (.inl rfl)) pgs_nil)))
        (pss_one (ps_if (PW.pt (pw_and (pt_val (pv 3)) (pw_and1 (pt_cmpR op_in_seq (pv 5) (pe_glob (v := .ref (He.ga K "LEAVES")) (by rfl) T.leaves rfl) (by rfl)))))
            (pss_one (ps_set (i := 3) nd rfl (.inl rfl) pe_bl))
          (pss_one (ps_if (PW.pt (pw_and (pt_val (pv 3)) (pw_and (pt_cmpR op_eq (pv 5) pe_str (nomark _)) (pw_and1 (pt_cmpR op_lt (pv 2) (pv 1) (nomark _))))))
            (pss_one (ps_aug (i := 2) nd rfl (.inl rfl) pe_int ip_add))
          (pss_one (ps_if (PW.pt (pw_and (pt_not (pt_val (pv 3))) (pw_and1 (pt_cmpR op_in_seq (pv 5) (pe_glob (v := .ref (He.ga K "JOINTS")) (by rfl) T.joints rfl) (by rfl)))))
            (pss_one (ps_set (i := 3) nd rfl (.inl rfl) pe_bl))
          (pss_one (ps_if (PW.pt (pw_and (pt_not (pt_val (pv 3))) (pw_and (pt_cmpR op_eq (pv 5) pe_str (nomark _)) (pw_and1 (pt_cmpR op_gt (pv 2) pe_int (nomark _))))))
            (pss_one (ps_aug (i := 2) nd rfl (.inl rfl) pe_int ip_sub))
          (pss_one (ps_if (pt_cmpR op_ne (pv 5) pe_str (nomark _))
            (pss_one (ps_raise rfl (takes_of rfl rfl rfl rfl) (pmk_oex iC.oe iC.ini iC.fn GB hr2 BB .nil pass0 (by rfl) T.badc (pa_cons (pv 4) pa_nil)))) pss_nil)))))))))))
      (pss_one (ps_if (PW.pt (pw_or (pt_val (pv 3)) (pw_or1 (pt_cmpR op_gt (pv 2) pe_int (nomark _)))))
        (pss_one (ps_raise rfl (takes_of rfl rfl rfl rfl) (pmk_oex iC.oe iC.ini iC.fn GB hr2 BB .nil pass0 (by rfl) T.badc (pa_cons (pe_op op_add (pe_callB call_len_str (by rfl) (T.fr "len") boot_len (pa_cons (pv 0) pa_nil)) pe_int) pa_nil)))) pss_nil))))), ?_⟩
    have bad : ∀ {σ : L2.St} {H1 : Hp} {D : Ends} {W : WX} {te : TE} {n : Nat} {k : Int}, k = n → n ≠ 0 → due z.cps.toList = n → Same H H1 → (∀ (Q' : VK), Q' (.int k) H1 → te σ H1 Q') → (∀ cls d H', E cls d H' → W cls d σ H') →
        tMkO (He.ga K "BadColumn") (spIni K (He.ga K "BadColumn") "column") [] (tCons te tNil) σ H1 fun cls d H' => W cls d σ H' :=
      fun {σ H1 D W te n k} hk h0 hn sm ht hW => ht _ ⟨by show 1 ≤ 1000; decide, fun a ha => make_read (X := fun cls d H' => W cls d σ H') (K := K) (fun d hd => hW _ _ _ (by rw [hk, ← hn]; exact k1 (by rw [hn]; exact h0) H1 d sm hd)) a ha⟩
    refine ⟨_, rfl, z, rfl, for_it walk_enumS (fun i σ H' => (∃ (o : Nat) (w : Bool) (y3 y4 : Option V), σ = [some (.str z), some (.int 9), some (.int o), some (.bl w), y3, y4] ∧ dueAt (z.cps.toList.drop i) o w (i + 1) = due z.cps.toList) ∧ Same H H') ⟨⟨0, true, none, none, rfl, rfl⟩, Same.refl _⟩ (fun _ _ _ _ _ => trivial) ?_ ?_⟩
    · rintro i x σ H1 H2 hi ⟨⟨o, w, y3, y4, rfl, hd⟩, sm⟩ ⟨T', x', y', rfl, hT, rfl, e1, e2⟩
      obtain rfl : V.int (1 + (i : Nat)) = x' := Option.some.inj e1
      obtain ⟨c, hc, rfl⟩ : ∃ c, z.cps[i]? = some c ∧ y' = .str (one c) := by
        have e2 : z.cps[i]?.map (fun c => V.str ⟨#[c]⟩) = some y' := e2
        cases q : z.cps[i]? with
        | none => rw [q] at e2; cases e2
        | some c => rw [q] at e2; exact ⟨c, rfl, (Option.some.inj e2).symm⟩
      have hdr : z.cps.toList.drop i = c :: z.cps.toList.drop (i + 1) := by
        have h1 : i < z.cps.toList.length := by simpa using hi
        rw [List.drop_eq_getElem_cons h1]
        have h2 : z.cps.toList[i]? = some c := by simpa using hc
        rw [List.getElem?_eq_getElem h1] at h2
        rw [Option.some.inj h2]
      have sm2 := sm.trans (same_new (o := .tup [.int (1 + (i : Nat)), .str (one c)]) hT)
      have go : ∀ {o' : Nat} {w' : Bool}, stp o w c = some (o', w') → dueAt (z.cps.toList.drop (i + 1)) o' w' (i + 1 + 1) = due z.cps.toList := fun {o' w'} hs => by
        rw [hdr] at hd
        simp only [dueAt, hs] at hd
        exact hd
      have no : stp o w c = none → due z.cps.toList = i + 1 := fun hs => by
        rw [hdr] at hd
        simp only [dueAt, hs] at hd
        exact hd.symm
      have err : ∀ {W : WX} {σ' : L2.St} {D : Ends}, stp o w c = none → (σ' = [some (.str z), some (.int 9), some (.int o), some (.bl w), some (.int (1 + (i : Nat))), some (.str (one c))]) → (∀ cls d H', E cls d H' → W cls d σ' H') →
          tMkO (He.ga K "BadColumn") (spIni K (He.ga K "BadColumn") "column") [] (tCons (tVar 4) tNil) σ' (upd H1 T' (.tup [.int (1 + (i : Nat)), .str (one c)])) fun cls d H' => W cls d σ' H' :=
        fun {W σ' D} hs hσ hW => bad (k := 1 + (i : Nat)) (n := i + 1) (D := D) (by omega) (by omega) (no hs) sm2 (fun Q' q => ⟨_, by rw [hσ]; rfl, q⟩) hW
      refine ⟨T', _, rfl, SqT.of upd_same, rfl, _, _, rfl, _, _, rfl, rfl, ?_⟩
      have d40 : decide (V.str (one c) = V.str "(") = (c == 40) := dec_one
      have d41 : decide (V.str (one c) = V.str ")") = (c == 41) := dec_one
      have d32 : decide (V.str (one c) = V.str " ") = (c == 32) := dec_one
      cases w with
      | true =>
        refine ⟨_, rfl, _, rfl, iteT ⟨_, rfl, _, _, rfl, .inr (T.ltup _), rfl, rfl, _, rfl, ?_⟩⟩
        simp only [Bool.false_eq_true, if_false, in_leaves]
        refine ite2 (fun hc => ?_) (fun hc => ?_)
        · refine ⟨⟨o, false, _, _, rfl, go ?_⟩, sm2⟩
          simp only [stp, hc, Bool.and_self, if_true, (leaf_no hc).1, if_false]
        · refine ⟨_, rfl, _, rfl, iteT ⟨_, rfl, rfl, _, rfl, ?_⟩⟩
          rw [d40]
          refine ite2 (fun h40 => ?_) (fun h40 => ?_)
          · have e40 : c = 40 := by simpa using h40
            refine ⟨_, rfl, _, rfl, _, _, rfl, rfl, _, rfl, ?_⟩
            refine ite2 (fun h9 => ?_) (fun h9 => ?_)
            · have h9' : o < 9 := by have := of_decide_eq_true h9; omega
              refine ⟨_, rfl, _, _, rfl, rfl, ⟨o + 1, true, _, _, rfl, go ?_⟩, sm2⟩
              subst e40
              simp [stp, leafC, h9']
            · have h9' : ¬ o < 9 := fun h => h9 (decide_eq_true (by omega))
              refine ⟨_, rfl, _, rfl, iteF ⟨_, rfl, _, rfl, iteF ⟨_, rfl, rfl, _, rfl, ?_⟩⟩⟩
              rw [d32]
              subst e40
              exact iteT (err (W := fun cls d _ H' => E cls d H') (D := { nx := fun _ _ => True, rt := Q }) (by simp [stp, leafC, h9', jointC]) rfl (fun _ _ _ h => h))
          · have e40 : c ≠ 40 := by simpa using h40
            refine ⟨_, rfl, _, rfl, iteF ⟨_, rfl, _, rfl, iteF ⟨_, rfl, rfl, _, rfl, ?_⟩⟩⟩
            rw [d32]
            refine ite2 (fun h32 => ?_) (fun h32 => ?_)
            · have e32 : c ≠ 32 := by simpa using h32
              exact err (W := fun cls d _ H' => E cls d H') (D := { nx := fun _ _ => True, rt := Q }) (by simp [stp, hc, e40, e32]) rfl (fun _ _ _ h => h)
            · have e32 : c = 32 := by simpa using h32
              exact ⟨⟨o, true, _, _, rfl, go (by simp [stp, e32])⟩, sm2⟩
      | false =>
        refine ⟨_, rfl, _, rfl, iteF ⟨_, rfl, _, rfl, iteF ⟨_, rfl, _, rfl, iteT ⟨_, rfl, _, _, rfl, .inr (T.jtup _), rfl, rfl, _, rfl, ?_⟩⟩⟩⟩
        simp only [Bool.false_eq_true, if_false, in_joints]
        refine ite2 (fun hc => ?_) (fun hc => ?_)
        · have n := joint_no hc
          exact ⟨⟨o, true, _, _, rfl, go (by simp [stp, hc, n.1])⟩, sm2⟩
        · refine ⟨_, rfl, _, rfl, iteT ⟨_, rfl, rfl, _, rfl, ?_⟩⟩
          rw [d41]
          refine ite2 (fun h41 => ?_) (fun h41 => ?_)
          · have e41 : c = 41 := by simpa using h41
            refine ⟨_, rfl, _, _, rfl, rfl, _, rfl, ?_⟩
            refine ite2 (fun h9 => ?_) (fun h9 => ?_)
            · have h9' : 0 < o := by have := of_decide_eq_true h9; omega
              refine ⟨_, rfl, _, _, rfl, rfl, ⟨o - 1, false, some (.int (1 + (i : Nat))), some (.str (one c)), ?_, go ?_⟩, sm2⟩
              · show [some (V.str z), some (V.int 9), some (V.int ((o : Int) - 1)), some (V.bl false), some (V.int (1 + (i : Nat))), some (V.str (one c))] = _
                rw [show ((o - 1 : Nat) : Int) = (o : Int) - 1 by omega]
              · subst e41
                simp [stp, jointC, h9']
            · have h9' : ¬ 0 < o := fun h => h9 (decide_eq_true (by omega))
              refine ⟨_, rfl, rfl, _, rfl, ?_⟩
              rw [d32]
              subst e41
              exact iteT (err (W := fun cls d _ H' => E cls d H') (D := { nx := fun _ _ => True, rt := Q }) (by simp [stp, h9', jointC]) rfl (fun _ _ _ h => h))
          · have e41 : c ≠ 41 := by simpa using h41
            refine ⟨_, rfl, rfl, _, rfl, ?_⟩
            rw [d32]
            refine ite2 (fun h32 => ?_) (fun h32 => ?_)
            · have e32 : c ≠ 32 := by simpa using h32
              exact err (W := fun cls d _ H' => E cls d H') (D := { nx := fun _ _ => True, rt := Q }) (by simp [stp, hc, e41, e32]) rfl (fun _ _ _ h => h)
            · have e32 : c = 32 := by simpa using h32
              exact ⟨⟨o, false, _, _, rfl, go (by simp [stp, e32])⟩, sm2⟩
    · rintro σ H1 ⟨⟨o, w, y3, y4, rfl, hd⟩, sm⟩
      have hn : z.cps.toList.drop z.cps.size = [] := List.drop_eq_nil_of_le (by simp)
      rw [hn] at hd
      simp only [dueAt] at hd
      have lz : z.length = z.cps.size := rfl
      have lz2 : z.length ≤ sizeLine := Nat.le_of_lt (lt_line (by omega))
      cases w with
      | true =>
        have hs : due z.cps.toList = z.cps.size + 1 := by simpa using hd.symm
        refine ⟨_, rfl, _, rfl, iteT (bad (W := fun cls d _ H' => E cls d H') (D := { nx := fun _ _ => True, rt := Q }) (n := z.cps.size + 1) (k := (z.length : Nat) + 1) (by omega) (by omega) hs sm (fun Q' q => ?_) (fun _ _ _ h => h))⟩
        exact ⟨_, rfl, z, rfl, lz2, _, _, rfl, rfl, q⟩
      | false =>
        refine ⟨_, rfl, _, rfl, iteF ⟨_, rfl, _, _, rfl, rfl, _, rfl, ?_⟩⟩
        refine ite2 (fun h9 => ?_) (fun h9 => ?_)
        · have h9' : 0 < o := by have := of_decide_eq_true h9; omega
          have hs : due z.cps.toList = z.cps.size + 1 := by rw [← hd]; simp [h9']
          refine bad (W := fun cls d _ H' => E cls d H') (D := { nx := fun _ _ => True, rt := Q }) (n := z.cps.size + 1) (k := (z.length : Nat) + 1) (by omega) (by omega) hs sm (fun Q' q => ?_) (fun _ _ _ h => h)
          exact ⟨_, rfl, z, rfl, lz2, _, _, rfl, rfl, q⟩
        · have h9' : ¬ 0 < o := fun h => h9 (decide_eq_true (by omega))
          have hs : due z.cps.toList = 0 := by rw [← hd]; simp [h9']
          exact k0 hs _ sm
end
end KB

set_option Elab.async false
set_option linter.all false
set_option maxRecDepth 100000
set_option maxHeartbeats 4000000
/-! # words.py: Word -/
namespace KB
open PySem PySem.Spec PyProof.Rows L2 VX KW
section
variable {P : Program} {w : World} {K : PySem.W.Frag} {mg : Str → Option Value} {base : Heap} {f : Addr} {fd : FuncData}
abbrev sWI : Stmt := inClass (top iWord) 0
abbrev sWR : Stmt := inClass (top iWord) 1
abbrev sWA : Stmt := inClass (top iWord) 4
abbrev sWB : Stmt := inClass (top iWord) 5
def fitB (c m : Nat) : Bool := if leafC c = true then decide (m = 0) else jointC c && decide (m = 2)
/-- the word at x: its sign, its parts -/
def IsWd (K : PySem.W.Frag) (H : Hp) (x : Addr) (c : Nat) (xs : List V) : Prop := ∃ dx a, H x = some (.ins (wC K) dx [("_sign", .str (one c)), ("_parts", .ref a)]) ∧ SqT K H a xs
theorem SqT.same {H H' : Hp} {a : Addr} {xs : List V} (s : Same H H') (h : SqT K H a xs) : SqT K H' a xs := by
  rcases h with (h | ⟨o, h⟩) | h
  · exact .inl (.inl (s _ _ h))
  · exact .inl (.inr ⟨o, s _ _ h⟩)
  · exact .inr h
theorem IsWd.same {H H' : Hp} {x : Addr} {c : Nat} {xs : List V} (s : Same H H') (h : IsWd K H x c xs) : IsWd K H' x c xs := by
  obtain ⟨dx, a, h1, h2⟩ := h
  exact ⟨dx, a, s _ _ h1, SqT.same s h2⟩
theorem seqT_keep {H H' : Hp} {x a C dx : Addr} {fs : List (Str × V)} {xs : List V} (hx : H x = some (.ins C dx fs)) (k : ∀ b o, H b = some o → b ≠ x → H' b = some o) (h : SqT K H a xs) : SqT K H' a xs := by
  rcases h with (h | ⟨o, h⟩) | h
  · exact .inl (.inl (k _ _ h (ne_of h hx (by intro z; cases z))))
  · exact .inl (.inr ⟨o, k _ _ h (ne_of h hx (by intro z; cases z))⟩)
  · exact .inr h
theorem seqL_keep {H H' : Hp} {x a C dx : Addr} {fs : List (Str × V)} {xs : List V} (hx : H x = some (.ins C dx fs)) (k : ∀ b o, H b = some o → b ≠ x → H' b = some o) (h : SqL K H a xs) : SqL K H' a xs := by
  rcases h with (h | ⟨o, h⟩) | h
  · exact .inl (.inl (k _ _ h (ne_of h hx (by intro z; cases z))))
  · exact .inl (.inr ⟨o, k _ _ h (ne_of h hx (by intro z; cases z))⟩)
  · exact .inr h
def spWI (K : PySem.W.Frag) : Sp := fun vs H Q _ => ∃ (x : Addr) (c : Nat) (a : Addr) (xs : List V) (dx : Addr), vs = [.ref x, .str (one c), .ref a] ∧ H x = some (.ins (wC K) dx []) ∧ (SqL K H a xs ∨ SqT K H a xs) ∧ fitB c xs.length = true ∧ xs.length ≤ 1000 ∧
  ∀ H', (∀ b o, H b = some o → b ≠ x → H' b = some o) → IsWd K H' x c xs → Q .non H'
theorem sc_wi : FnScope ["self", "sign", "parts"] ["self", "sign", "parts"] (defScope sWI) := ⟨rfl, rfl, rfl, by decide +kernel, rfl, by decide +kernel, by decide +kernel⟩
theorem ok_wi {dvs : List V} {fd1 : FuncData} (F : FunD K "__init__" "Word.__init__" (defArgs sWI) (defBody sWI) (defScope sWI) dvs [] f fd) (T : Txt K mg) (F1 : FnP K "fits" iFits (He.ga K "fits") fd1) : FnOk P w K mg base CX0 2 f fd ["self", "sign", "parts"] (spWI K) := by
  have G1 : FnOk P w K mg base CX0 1 _ fd1 ["sign", "many"] spFits := ok_fits F1 T
  have B1 : Binds K fd1 ["sign", "many"] [] := F1.bindsN fun _ _ _ _ _ _ us hl => match us, hl with | [_, _], _ => rfl
  refine F.ok sc_wi (fun vs H Q E h => ?_) (fun cdv A outer s H vs Q E hr h => ?_)
  · obtain ⟨x, c, a, xs, dx, rfl, _⟩ := h
    rfl
  · obtain ⟨x, c, a, xs, dx, rfl, hx, hs, hf, hl, k⟩ := h
    refine ⟨_, PSs.nox (pss_cons (ps_if (pt_not (pt_val (pe_call G1 hr (by rfl) (T.df "fits" iFits) F1.kp B1 .nil pass0 (pa_cons (pv 1) (pa_cons (pe_callB call_len_seq (by rfl) (T.fr "len") boot_len (pa_cons (pv 2) pa_nil)) pa_nil))))) (pss_one ps_never) pss_nil)
      (pss_cons (ps_fld (pv 0) (pv 1) rfl)
      (pss_one (ps_fld (pv 0) (pe_callTy call_tuple_of (by rfl) (T.fr "tuple") (by decide +kernel) (pa_cons (pv 2) pa_nil)) rfl)))), ?_⟩
    refine ⟨_, rfl, _, rfl, a, xs, rfl, hs, c, (xs.length : Nat), rfl, _, rfl, ?_⟩
    have e : (if leafC c = true then decide ((xs.length : Int) = 0) else jointC c && decide ((xs.length : Int) = 2)) = true := by
      have q := hf
      unfold fitB at q
      have e1 : decide ((xs.length : Int) = 0) = decide (xs.length = 0) := decide_eq_decide.mpr (by omega)
      have e2 : decide ((xs.length : Int) = 2) = decide (xs.length = 2) := decide_eq_decide.mpr (by omega)
      rwa [← e1, ← e2] at q
    rw [e]
    refine iteF ?_
    refine ⟨_, rfl, _, rfl, x, _, dx, [], rfl, hx, T.cls, T.fs, by decide, ?_⟩
    have hx1 : upd H x (.ins (wC K) dx [("_sign", .str (one c))]) x = some (.ins (wC K) dx [("_sign", .str (one c))]) := upd_same
    have k1 : ∀ b o, H b = some o → b ≠ x → upd H x (.ins (wC K) dx [("_sign", .str (one c))]) b = some o := fun b o q ne => by rw [upd_ne ne]; exact q
    rcases hs with hs | hs
    · refine ⟨_, rfl, a, xs, rfl, .inl ⟨seqL_keep hx k1 hs, fun t ht => ?_⟩⟩
      have tx : x ≠ t := ne_of_none hx1 ht
      refine ⟨_, rfl, x, _, dx, _, rfl, (by rw [upd_ne tx]; exact hx1), T.cls, T.fp, (by show 1 < 1000; decide), ?_⟩
      refine k _ (fun b o q ne => ?_) ⟨dx, t, upd_same, .inl (.inl (by rw [upd_ne (Ne.symm tx), upd_same]))⟩
      have q1 := k1 b o q ne
      rw [upd_ne ne, upd_ne (ne_of_none q1 ht)]
      exact q1
    · refine ⟨_, rfl, a, xs, rfl, .inr ⟨seqT_keep hx k1 hs, ?_⟩⟩
      refine ⟨_, rfl, x, _, dx, _, rfl, hx1, T.cls, T.fp, (by show 1 < 1000; decide), ?_⟩
      rw [upd_upd]
      have k2 : ∀ b o, H b = some o → b ≠ x → upd H x (.ins (wC K) dx (putF "_parts" (V.ref a) [("_sign", .str (one c))])) b = some o := fun b o q ne => by rw [upd_ne ne]; exact q
      exact k _ k2 ⟨dx, a, upd_same, seqT_keep hx k2 hs⟩
/-! ### __add__, __and__ -/
def spOp (K : PySem.W.Frag) (c : Nat) : Sp := fun vs H Q _ => ∃ (x y : Addr), vs = [.ref x, .ref y] ∧ ∀ H' z, Same H H' → H z = none → IsWd K H' z c [.ref x, .ref y] → Q (.ref z) H'
theorem sc_wa : FnScope ["self", "other"] ["self", "other"] (defScope sWA) := ⟨rfl, rfl, rfl, by decide +kernel, rfl, by decide +kernel, by decide +kernel⟩
theorem sc_wb : FnScope ["self", "other"] ["self", "other"] (defScope sWB) := ⟨rfl, rfl, rfl, by decide +kernel, rfl, by decide +kernel, by decide +kernel⟩
structure Wif (K : PySem.W.Frag) (fdI : FuncData) (dv : V) (fd1 : FuncData) : Prop where
  fi : FunD K "__init__" "Word.__init__" (defArgs sWI) (defBody sWI) (defScope sWI) [dv] [] (He.ma K (wC K) "__init__") fdI
  ft : FnP K "fits" iFits (He.ga K "fits") fd1
  dv : ∃ a, dv = .ref a ∧ ∀ H, SqT K H a []
theorem ok_wa {fdI fd1 : FuncData} {dv : V} (F : FunD K "__add__" "Word.__add__" (defArgs sWA) (defBody sWA) (defScope sWA) [] [] f fd) (T : Txt K mg) (Z : Wif K fdI dv fd1) : FnOk P w K mg base CX0 4 f fd ["self", "other"] (spOp K 43) := by
  have GI : FnOk P w K mg base CX0 2 _ fdI ["self", "sign", "parts"] (spWI K) := ok_wi Z.fi T Z.ft
  have BI : Binds K fdI ["self", "sign", "parts"] [] := by
    obtain ⟨ds, h1, h2⟩ := Z.fi.binds1 (ps := ["self", "sign", "parts"]) 3 1 (by simp) (by simp) fun T kV doc pm an cdv ct us its hl hi => by
      match us, its, hl, hi with
      | [a, b, c], [e], _, _ => exact ⟨_, rfl, rfl⟩
    cases h1
    exact h2
  refine F.ok sc_wa (fun vs H Q E h => ?_) (fun cdv A outer s H vs Q E hr h => ?_)
  · obtain ⟨x, y, rfl, _⟩ := h
    rfl
  · obtain ⟨x, y, rfl, k⟩ := h
    refine ⟨_, PSs.nox (pss_one (ps_ret (pe_make T.mks GI hr (by rfl) T.word BI .nil pass0 (pa_cons pe_str (pa_cons (pe_tup (pa_cons (pv 0) (pa_cons (pv 1) pa_nil))) pa_nil))))), ?_⟩
    refine ⟨_, rfl, _, rfl, (by show 2 ≤ sizeLine; decide), fun t ht z dz hz hdz ne => ?_⟩
    have tz : t ≠ z := fun e => by subst e; rw [upd_same] at hz; cases hz
    have s1 : Same (upd H t (.tup [.ref x, .ref y])) (upd (upd (upd H t (.tup [.ref x, .ref y])) dz (.own z)) z (.ins (wC K) dz [])) := same_two hdz (by rw [upd_ne (Ne.symm ne)]; exact hz)
    refine ⟨z, 43, t, [.ref x, .ref y], dz, rfl, upd_same, .inr (SqT.of (s1 _ _ upd_same)), (by show fitB _ 2 = true; decide), (by show 2 ≤ 1000; decide), fun H' kept isw => ⟨rfl, k H' z (fun b o q => ?_) (none_of hz) isw⟩⟩
    have q1 : upd H t (.tup [.ref x, .ref y]) b = some o := same_new ht _ _ q
    exact kept b o (s1 _ _ q1) (ne_of_none q1 hz)
theorem ok_wb {fdI fd1 : FuncData} {dv : V} (F : FunD K "__and__" "Word.__and__" (defArgs sWB) (defBody sWB) (defScope sWB) [] [] f fd) (T : Txt K mg) (Z : Wif K fdI dv fd1) : FnOk P w K mg base CX0 4 f fd ["self", "other"] (spOp K 38) := by
  have GI : FnOk P w K mg base CX0 2 _ fdI ["self", "sign", "parts"] (spWI K) := ok_wi Z.fi T Z.ft
  have BI : Binds K fdI ["self", "sign", "parts"] [] := by
    obtain ⟨ds, h1, h2⟩ := Z.fi.binds1 (ps := ["self", "sign", "parts"]) 3 1 (by simp) (by simp) fun T kV doc pm an cdv ct us its hl hi => by
      match us, its, hl, hi with
      | [a, b, c], [e], _, _ => exact ⟨_, rfl, rfl⟩
    cases h1
    exact h2
  refine F.ok sc_wb (fun vs H Q E h => ?_) (fun cdv A outer s H vs Q E hr h => ?_)
  · obtain ⟨x, y, rfl, _⟩ := h
    rfl
  · obtain ⟨x, y, rfl, k⟩ := h
    refine ⟨_, PSs.nox (pss_one (ps_ret (pe_make T.mks GI hr (by rfl) T.word BI .nil pass0 (pa_cons pe_str (pa_cons (pe_tup (pa_cons (pv 0) (pa_cons (pv 1) pa_nil))) pa_nil))))), ?_⟩
    refine ⟨_, rfl, _, rfl, (by show 2 ≤ sizeLine; decide), fun t ht z dz hz hdz ne => ?_⟩
    have tz : t ≠ z := fun e => by subst e; rw [upd_same] at hz; cases hz
    have s1 : Same (upd H t (.tup [.ref x, .ref y])) (upd (upd (upd H t (.tup [.ref x, .ref y])) dz (.own z)) z (.ins (wC K) dz [])) := same_two hdz (by rw [upd_ne (Ne.symm ne)]; exact hz)
    refine ⟨z, 38, t, [.ref x, .ref y], dz, rfl, upd_same, .inr (SqT.of (s1 _ _ upd_same)), (by show fitB _ 2 = true; decide), (by show 2 ≤ 1000; decide), fun H' kept isw => ⟨rfl, k H' z (fun b o q => ?_) (none_of hz) isw⟩⟩
    have q1 : upd H t (.tup [.ref x, .ref y]) b = some o := same_new ht _ _ q
    exact kept b o (s1 _ _ q1) (ne_of_none q1 hz)
end
end KB

set_option Elab.async false
set_option linter.all false
set_option maxRecDepth 100000
set_option maxHeartbeats 4000000
/-! # words.py: read_part, read_intersection, read_sum -/
namespace KB
open PySem PySem.Spec PyProof.Rows L2 VX KW
theorem while_cnt {c : TT} {tb : TS} {D : Ends} {σ : L2.St} {H : Hp} (Pv : Nat → L2.St → Hp → Prop) (k : Nat) (h0 : Pv k σ H)
    (hs : ∀ k σ H, Pv k σ H → c σ H fun b H1 => if b = true then tb { D with nx := fun σ' H' => ∃ j, j < k ∧ Pv j σ' H', ct := fun σ' H' => ∃ j, j < k ∧ Pv j σ' H', bk := D.nx } σ H1 else D.nx σ H1)
    (mono : ∀ σ H Q Q', (∀ b H1, Q b H1 → Q' b H1) → c σ H Q → c σ H Q') : tWhile c tb D σ H := by
  refine ⟨Pv, ⟨k, h0⟩, ?_⟩
  rintro m σ H p
  refine mono σ H _ _ (fun b H1 q => ?_) (hs m σ H p)
  cases b with
  | true => exact ⟨_, fun σ' H' z => z, q⟩
  | false => exact q
section
variable {P : Program} {w : World} {K : PySem.W.Frag} {mg : Str → Option Value} {base : Heap} {f : Addr} {fd : FuncData}
/-- the tree of the word at x -/
def IsTr (K : PySem.W.Frag) (H : Hp) : Addr → Tr → Prop
  | x, .lf c => leafC c = true ∧ IsWd K H x c []
  | x, .nd c l r => jointC c = true ∧ ∃ y z, IsWd K H x c [.ref y, .ref z] ∧ IsTr K H y l ∧ IsTr K H z r
theorem IsTr.same {H H' : Hp} (s : Same H H') : ∀ {t : Tr} {x : Addr}, IsTr K H x t → IsTr K H' x t
  | .lf _, _, h => ⟨h.1, h.2.same s⟩
  | .nd _ _ _, _, h => by
    obtain ⟨j, y, z, h1, h2, h3⟩ := h
    exact ⟨j, y, z, h1.same s, h2.same s, h3.same s⟩
theorem IsTr.ins {H : Hp} {x : Addr} : ∀ {t : Tr}, IsTr K H x t → ∃ dx fs, H x = some (.ins (wC K) dx fs)
  | .lf _, h => by obtain ⟨_, dx, a, h1, _⟩ := h; exact ⟨_, _, h1⟩
  | .nd _ _ _, h => by obtain ⟨_, y, z, ⟨dx, a, h1, _⟩, _⟩ := h; exact ⟨_, _, h1⟩
theorem drop_at {z : Str} {i c : Nat} {r : List Nat} (h : z.cps.toList.drop i = c :: r) : i < z.length ∧ z.cps[i]? = some c ∧ z.cps.toList.drop (i + 1) = r := by
  have hi : i < z.cps.toList.length := by
    rcases Nat.lt_or_ge i z.cps.toList.length with q | q
    · exact q
    · rw [List.drop_eq_nil_of_le q] at h; cases h
  rw [List.drop_eq_getElem_cons hi] at h
  injection h with h1 h2
  refine ⟨by show i < z.cps.size; simpa using hi, ?_, h2⟩
  have : z.cps.toList[i]? = some c := by rw [List.getElem?_eq_getElem hi, h1]
  simpa using this
def spPart (K : PySem.W.Frag) (n : Nat) : Sp := fun vs H Q _ => ∃ (z : Str) (i d : Nat) (t : Tr) (r : List Nat), vs = [.str z, .int i] ∧ z.length ≤ 1000 ∧ d + n = 9 ∧ RP d (z.cps.toList.drop i) t r ∧
  ∀ H' p x (j : Nat), Same H H' → H p = none → H' p = some (.tup [.ref x, .int j]) → IsTr K H' x t → z.cps.toList.drop j = r → Q (.ref p) H'
def spInter (K : PySem.W.Frag) (n : Nat) : Sp := fun vs H Q _ => ∃ (z : Str) (i d : Nat) (t : Tr) (r : List Nat), vs = [.str z, .int i] ∧ z.length ≤ 1000 ∧ d + n = 9 ∧ RI d (z.cps.toList.drop i) t r ∧
  ∀ H' p x (j : Nat), Same H H' → H p = none → H' p = some (.tup [.ref x, .int j]) → IsTr K H' x t → z.cps.toList.drop j = r → Q (.ref p) H'
def spSum (K : PySem.W.Frag) (n : Nat) : Sp := fun vs H Q _ => ∃ (z : Str) (i d : Nat) (t : Tr) (r : List Nat), vs = [.str z, .int i] ∧ z.length ≤ 1000 ∧ d + n = 9 ∧ RS d (z.cps.toList.drop i) t r ∧
  ∀ H' p x (j : Nat), Same H H' → H p = none → H' p = some (.tup [.ref x, .int j]) → IsTr K H' x t → z.cps.toList.drop j = r → Q (.ref p) H'
def spLess (K : PySem.W.Frag) : Nat → Sp
  | 0 => fun _ _ _ _ => False
  | n + 1 => spSum K n
theorem Wif.b0 {fdI fd1 : FuncData} {dv : V} (Z : Wif K fdI dv fd1) : ∃ ds, Vals [dv] ds ∧ Binds K fdI ["self", "sign", "parts"] ds := by
  obtain ⟨ds, h1, h2⟩ := Z.fi.binds1 (ps := ["self", "sign", "parts"]) 2 0 (by simp) (by simp) fun T kV doc pm an cdv ct us its hl hi => by
    match us, its, hl, hi with
    | [a, b], [e], _, _ => exact ⟨_, rfl, rfl⟩
  exact ⟨ds, h1, h2⟩
abbrev nP : List Str := ["signs", "at", "word"]
theorem sc_part : FnScope nP ["signs", "at"] (defScope (top iPart)) := ⟨rfl, rfl, rfl, by decide +kernel, rfl, by decide +kernel, by decide +kernel⟩
theorem ok_part {fdI fd1 fdS : FuncData} {dv : V} (F : FnP K "read_part" iPart f fd) (T : Txt K mg) (Z : Wif K fdI dv fd1) (FS : FnP K "read_sum" iSum (He.ga K "read_sum") fdS) (n : Nat)
    (GS : FnOk P w K mg base CX0 (4 + 3 * n) (He.ga K "read_sum") fdS ["signs", "at"] (spLess K n)) : FnOk P w K mg base CX0 (5 + 3 * n) f fd ["signs", "at"] (spPart K n) := by
  have GI : FnOk P w K mg base CX0 2 _ fdI ["self", "sign", "parts"] (spWI K) := ok_wi Z.fi T Z.ft
  obtain ⟨ds, h1, BI⟩ := Z.b0
  obtain ⟨ad, rfl, hdv⟩ := Z.dv
  have BS : Binds K fdS ["signs", "at"] [] := FS.bindsN fun _ _ _ _ _ _ us hl => match us, hl with | [_, _], _ => rfl
  rw [show 5 + 3 * n = (4 + 3 * n) + 1 by omega]
  refine F.ok sc_part (fun vs H Q E h => ?_) (fun cdv A outer s H vs Q E hr h => ?_)
  · obtain ⟨z, i, d, t, r, rfl, _⟩ := h
    rfl
  · obtain ⟨z, i, d, t, r, rfl, hz, hd, hR, k⟩ := h
    have nd := sc_part.nd
    have hr3 : Room (2 + 1) _ := hr.mono (by omega)
    have lz2 : z.length ≤ sizeLine := Nat.le_of_lt (lt_line (by omega))
    refine ⟨_, PSs.nox (pss_cons (ps_if (pt_cmpR op_ne (pe_ix ix_str (pv 0) (pv 1) (fun _ _ => rfl)) pe_str (nomark _))
        (pss_one (ps_ret (pe_tup (pa_cons (pe_make T.mks GI hr3 (by rfl) T.word BI h1 pass0 (pa_cons (pe_ix ix_str (pv 0) (pv 1) (fun _ _ => rfl)) pa_nil)) (pa_cons (pe_op op_add (pv 1) pe_int) pa_nil))))) pss_nil)
      (pss_cons (ps_asg (pe_call GS hr (by rfl) (T.df "read_sum" iSum) FS.kp BS .nil pass0 (pa_cons (pv 0) (pa_cons (pe_op op_add (pv 1) pe_int) pa_nil))) (pg_tup (by rfl) (pgs_cons (pg_name (i := 2) nd rfl (.inl rfl)) (pgs_cons (pg_name (i := 1) nd rfl (.inl rfl)) pgs_nil))))
      (pss_one (ps_ret (pe_tup (pa_cons (pv 2) (pa_cons (pe_op op_add (pv 1) pe_int) pa_nil))))))), ?_⟩
    have d40 : ∀ c, decide (V.str (one c) = V.str "(") = (c == 40) := fun c => dec_one
    have at_ : ∀ {c : Nat} {l : List Nat}, z.cps.toList.drop i = c :: l → atI z.cps.toList (i : Int) = some c := fun e => by
      have := (drop_at e).2.1
      exact atI_nat (by simpa using this)
    generalize hl : z.cps.toList.drop i = l at hR
    cases hR with
    | @leaf _ c r hc =>
      obtain ⟨a1, a2, a3⟩ := drop_at hl
      have n := leaf_no hc
      refine ⟨_, rfl, _, rfl, z, _, c, rfl, rfl, lz2, at_ hl, rfl, _, rfl, ?_⟩
      rw [show decide (V.str ⟨#[c]⟩ = V.str "(") = (c == 40) from d40 c, beq_eq_false_iff_ne.mpr n.2.1]
      refine iteT ?_
      refine ⟨_, rfl, _, rfl, z, _, c, rfl, rfl, lz2, at_ hl, fun x dx hx hdx ne => ?_⟩
      have s1 : Same H (upd (upd H dx (.own x)) x (.ins (wC K) dx [])) := same_two hdx (by rw [upd_ne (Ne.symm ne)]; exact hx)
      refine ⟨x, c, ad, [], dx, rfl, upd_same, .inr (hdv _), (by show fitB c 0 = true; simp [fitB, hc]), (by show 0 ≤ 1000; decide), fun H' kept isw => ⟨rfl, ?_⟩⟩
      refine ⟨_, rfl, _, _, rfl, rfl, (by show 2 ≤ sizeLine; decide), fun p hp => ?_⟩
      have s2 : Same H H' := fun b o q => kept b o (s1 _ _ q) (ne_of_none q hx)
      have s3 := same_new (o := .tup [.ref x, .int ((i : Int) + 1)]) hp
      exact k _ p x (i + 1) (s2.trans s3) (s2.free hp) (by rw [upd_same]; rfl) ⟨hc, isw.same s3⟩ a3
    | @paren _ l r _ hd9 hS =>
      obtain ⟨a1, a2, a3⟩ := drop_at hl
      obtain ⟨m, rfl⟩ : ∃ m, n = m + 1 := ⟨n - 1, by omega⟩
      refine ⟨_, rfl, _, rfl, z, _, 40, rfl, rfl, lz2, at_ hl, rfl, _, rfl, ?_⟩
      rw [show decide (V.str ⟨#[40]⟩ = V.str "(") = true from d40 40]
      refine iteF ?_
      refine ⟨_, rfl, _, rfl, _, _, rfl, rfl, z, i + 1, d + 1, t, 41 :: r, rfl, hz, by omega, by rw [a3]; exact hS, fun H1 p x j s1 hp hpt htr hj => ?_⟩
      obtain ⟨_, _, b3⟩ := drop_at hj
      refine ⟨p, _, rfl, SqT.of hpt, rfl, _, _, rfl, _, _, rfl, rfl, ?_⟩
      refine ⟨_, rfl, _, rfl, _, _, rfl, rfl, (by show 2 ≤ sizeLine; decide), fun q hq => ?_⟩
      have s3 := same_new (o := .tup [.ref x, .int ((j : Int) + 1)]) hq
      exact k _ q x (j + 1) (s1.trans s3) (s1.free hq) (by rw [upd_same]; rfl) (htr.same s3) b3
end
end KB

set_option Elab.async false
set_option linter.all false
set_option maxRecDepth 100000
set_option maxHeartbeats 4000000
/-! # words.py: read_intersection, read_sum -/
namespace KB
open PySem PySem.Spec PyProof.Rows L2 VX KW
section
variable {P : Program} {w : World} {K : PySem.W.Frag} {mg : Str → Option Value} {base : Heap} {f : Addr} {fd : FuncData}
theorem cut_one {z : Str} {i : Nat} : cutS z (some (i : Int)) (some ((i : Int) + 1)) = ⟨((z.cps.toList.drop i).take 1).toArray⟩ := by
  have e1 : HT.sIx z.length 0 (some (i : Int)) = min i z.length := HT.sIx_nat _ _ _
  have e2 : HT.sIx z.length z.length (some ((i : Int) + 1)) = min (i + 1) z.length := by
    have := HT.sIx_nat z.length z.length (i + 1)
    rwa [show ((i + 1 : Nat) : Int) = (i : Int) + 1 by omega] at this
  unfold cutS
  rw [e1, e2]
  have hz : z.cps.toList.length = z.length := by show _ = z.cps.size; simp
  congr 2
  by_cases h : i < z.length
  · rw [Nat.min_eq_left (by omega), Nat.min_eq_left (by omega), show i + 1 - i = 1 by omega]
  · rw [Nat.min_eq_right (by omega), Nat.min_eq_right (by omega), List.drop_eq_nil_of_le (by omega), List.drop_eq_nil_of_le (by omega)]
    simp
theorem cut_is {z : Str} {i c : Nat} : decide (V.str (cutS z (some (i : Int)) (some ((i : Int) + 1))) = V.str (one c)) = decide ((z.cps.toList.drop i).head? = some c) := by
  rw [cut_one]
  apply decide_eq_decide.mpr
  cases z.cps.toList.drop i with
  | nil =>
    constructor
    · intro h
      injection h with h
      have := congrArg (fun s : Str => s.cps.size) h
      simp at this
    · intro h; cases h
  | cons a l =>
    show (V.str (one a) = V.str (one c)) ↔ _
    rw [List.head?_cons]
    constructor
    · intro h
      injection h with h
      rw [one_eq.mp h]
    · intro h
      rw [Option.some.inj h]
abbrev nI : List Str := ["signs", "at", "word", "more"]
theorem sc_inter : FnScope nI ["signs", "at"] (defScope (top iInter)) := ⟨rfl, rfl, rfl, by decide +kernel, rfl, by decide +kernel, by decide +kernel⟩
theorem ok_inter {fdI fd1 fdP fdB : FuncData} {dv : V} (F : FnP K "read_intersection" iInter f fd) (T : Txt K mg) (Z : Wif K fdI dv fd1) (FP : FnP K "read_part" iPart (He.ga K "read_part") fdP)
    (FB : FunD K "__and__" "Word.__and__" (defArgs sWB) (defBody sWB) (defScope sWB) [] [] (He.ma K (wC K) "__and__") fdB) (n : Nat)
    (GP : FnOk P w K mg base CX0 (5 + 3 * n) (He.ga K "read_part") fdP ["signs", "at"] (spPart K n)) : FnOk P w K mg base CX0 (6 + 3 * n) f fd ["signs", "at"] (spInter K n) := by
  have BP : Binds K fdP ["signs", "at"] [] := FP.bindsN fun _ _ _ _ _ _ us hl => match us, hl with | [_, _], _ => rfl
  have GB : FnOk P w K mg base CX0 4 _ fdB ["self", "other"] (spOp K 38) := ok_wb FB T Z
  have BB : Binds K fdB ["self", "other"] [] := FB.bindsN fun _ _ _ _ _ _ us hl => match us, hl with | [_, _], _ => rfl
  have RB : FnR P w K mg base CX0 4 (He.ma K (wC K) "__and__") (spOp K 38) := (GB.raw BB .nil).imp fun vs H Q E h => by rw [List.append_nil]; exact h
  rw [show 6 + 3 * n = (5 + 3 * n) + 1 by omega]
  refine F.ok sc_inter (fun vs H Q E h => ?_) (fun cdv A outer s H vs Q E hr h => ?_)
  · obtain ⟨z, i, d, t, r, rfl, _⟩ := h
    rfl
  · obtain ⟨z, i, d, t, r, rfl, hz, hd, hR, k⟩ := h
    have nd := sc_inter.nd
    have hr4 : Room 4 _ := hr.mono (by omega)
    have lz2 : z.length ≤ sizeLine := Nat.le_of_lt (lt_line (by omega))
    refine ⟨_, PSs.nox (pss_cons (ps_asg (pe_call GP hr (by rfl) (T.df "read_part" iPart) FP.kp BP .nil pass0 (pa_cons (pv 0) (pa_cons (pv 1) pa_nil))) (pg_tup (by rfl) (pgs_cons (pg_name (i := 2) nd rfl (.inl rfl)) (pgs_cons (pg_name (i := 1) nd rfl (.inl rfl)) pgs_nil))))
      (pss_cons (ps_while PassesOwn.never (pt_cmpR op_eq (pe_slice sl_str (pv 0) (po_some (pv 1)) (po_some (pe_op op_add (pv 1) pe_int))) pe_str (nomark _))
        (pss_cons (ps_asg (pe_call GP hr (by rfl) (T.df "read_part" iPart) FP.kp BP .nil pass0 (pa_cons (pv 0) (pa_cons (pe_op op_add (pv 1) pe_int) pa_nil))) (pg_tup (by rfl) (pgs_cons (pg_name (i := 3) nd rfl (.inl rfl)) (pgs_cons (pg_name (i := 1) nd rfl (.inl rfl)) pgs_nil))))
        (pss_one (ps_set (i := 2) nd rfl (.inl rfl) (pe_op (op_ownB RB T.first T.and T.andf pass0 hr4) (pv 2) (pv 3))))))
      (pss_one (ps_ret (pe_tup (pa_cons (pv 2) (pa_cons (pv 1) pa_nil))))))), ?_⟩
    cases hR with
    | @mk _ kk _ r0 _ t0 _ hP hL =>
    refine ⟨_, rfl, _, rfl, z, i, d, t0, r0, rfl, hz, hd, hP, fun H1 p x j s1 hp hpt htr hj => ?_⟩
    refine ⟨p, _, rfl, SqT.of hpt, rfl, _, _, rfl, _, _, rfl, rfl, ?_⟩
    refine while_cnt (fun m σ H' => Same H H' ∧ ∃ (x : Addr) (j : Nat) (y3 : Option V) (u : Tr) (q : List Nat), σ = [some (.str z), some (.int j), some (.ref x), y3] ∧ IsTr K H' x u ∧ z.cps.toList.drop j = q ∧ RIs d m u q t r) kk ⟨s1, x, j, none, t0, r0, rfl, htr, hj, hL⟩ ?_ ?_
    · rintro m σ H2 ⟨s2, x, j, y3, u, q, rfl, hx, hq, hL⟩
      refine ⟨_, rfl, _, rfl, _, rfl, _, rfl, _, _, rfl, rfl, _, rfl, z, rfl, lz2, rfl, _, rfl, ?_⟩
      rw [show decide (V.str (cutS z (some (j : Int)) (some ((j : Int) + 1))) = V.str "&") = _ from cut_is (c := 38), hq]
      cases hL with
      | stop hn =>
        rw [decide_eq_false hn]
        refine iteF ⟨_, rfl, _, rfl, (by show 2 ≤ sizeLine; decide), fun p2 hp2 => ?_⟩
        have s3 := same_new (o := .tup [.ref x, .int j]) hp2
        exact k _ p2 x j (s2.trans s3) (s2.free hp2) upd_same (hx.same s3) hq
      | @more _ k2 _ v _ r2 r1 _ hP2 hL2 =>
        obtain ⟨a1, a2, a3⟩ := drop_at hq
        rw [decide_eq_true (show (38 :: r2).head? = some 38 from rfl)]
        refine iteT ⟨_, rfl, _, rfl, _, _, rfl, rfl, z, j + 1, d, v, r1, rfl, hz, hd, by rw [a3]; exact hP2, fun H3 p2 x2 j2 s3 hp2 hpt2 htr2 hj2 => ?_⟩
        refine ⟨p2, _, rfl, SqT.of hpt2, rfl, _, _, rfl, _, _, rfl, rfl, ?_⟩
        have hx3 := hx.same s3
        obtain ⟨dx, fs, i1⟩ := hx3.ins
        obtain ⟨dy, gs, i2⟩ := htr2.ins
        refine ⟨_, rfl, _, rfl, x, x2, dx, dy, fs, gs, rfl, rfl, i1, i2, x, x2, rfl, fun H4 x4 s4 h4 isw => ?_⟩
        exact ⟨k2, Nat.lt_succ_self _, s2.trans (s3.trans s4), x4, j2, _, .nd 38 u v, r1, rfl, ⟨by decide, x, x2, isw, hx3.same s4, htr2.same s4⟩, hj2, hL2⟩
    · rintro σ H' Q1 Q2 hq ⟨a1, b1, a2, b2, a3, b3, a4, b4, a5, a6, b5, b6, a7, b7, a8, b8, b9, b10, a11, b11, b12⟩
      exact ⟨a1, b1, a2, b2, a3, b3, a4, b4, a5, a6, b5, b6, a7, b7, a8, b8, b9, b10, a11, b11, hq _ _ b12⟩
/-! ### read_sum -/
theorem sc_sum : FnScope nI ["signs", "at"] (defScope (top iSum)) := ⟨rfl, rfl, rfl, by decide +kernel, rfl, by decide +kernel, by decide +kernel⟩
theorem ok_sum {fdI fd1 fdP fdB : FuncData} {dv : V} (F : FnP K "read_sum" iSum f fd) (T : Txt K mg) (Z : Wif K fdI dv fd1) (FP : FnP K "read_intersection" iInter (He.ga K "read_intersection") fdP)
    (FB : FunD K "__add__" "Word.__add__" (defArgs sWA) (defBody sWA) (defScope sWA) [] [] (He.ma K (wC K) "__add__") fdB) (n : Nat)
    (GP : FnOk P w K mg base CX0 (6 + 3 * n) (He.ga K "read_intersection") fdP ["signs", "at"] (spInter K n)) : FnOk P w K mg base CX0 (7 + 3 * n) f fd ["signs", "at"] (spSum K n) := by
  have BP : Binds K fdP ["signs", "at"] [] := FP.bindsN fun _ _ _ _ _ _ us hl => match us, hl with | [_, _], _ => rfl
  have GB : FnOk P w K mg base CX0 4 _ fdB ["self", "other"] (spOp K 43) := ok_wa FB T Z
  have BB : Binds K fdB ["self", "other"] [] := FB.bindsN fun _ _ _ _ _ _ us hl => match us, hl with | [_, _], _ => rfl
  have RB : FnR P w K mg base CX0 4 (He.ma K (wC K) "__add__") (spOp K 43) := (GB.raw BB .nil).imp fun vs H Q E h => by rw [List.append_nil]; exact h
  rw [show 7 + 3 * n = (6 + 3 * n) + 1 by omega]
  refine F.ok sc_sum (fun vs H Q E h => ?_) (fun cdv A outer s H vs Q E hr h => ?_)
  · obtain ⟨z, i, d, t, r, rfl, _⟩ := h
    rfl
  · obtain ⟨z, i, d, t, r, rfl, hz, hd, hR, k⟩ := h
    have nd := sc_sum.nd
    have hr4 : Room 4 _ := hr.mono (by omega)
    have lz2 : z.length ≤ sizeLine := Nat.le_of_lt (lt_line (by omega))
    refine ⟨_, PSs.nox (pss_cons (ps_asg (pe_call GP hr (by rfl) (T.df "read_intersection" iInter) FP.kp BP .nil pass0 (pa_cons (pv 0) (pa_cons (pv 1) pa_nil))) (pg_tup (by rfl) (pgs_cons (pg_name (i := 2) nd rfl (.inl rfl)) (pgs_cons (pg_name (i := 1) nd rfl (.inl rfl)) pgs_nil))))
      (pss_cons (ps_while PassesOwn.never (pt_cmpR op_eq (pe_slice sl_str (pv 0) (po_some (pv 1)) (po_some (pe_op op_add (pv 1) pe_int))) pe_str (nomark _))
        (pss_cons (ps_asg (pe_call GP hr (by rfl) (T.df "read_intersection" iInter) FP.kp BP .nil pass0 (pa_cons (pv 0) (pa_cons (pe_op op_add (pv 1) pe_int) pa_nil))) (pg_tup (by rfl) (pgs_cons (pg_name (i := 3) nd rfl (.inl rfl)) (pgs_cons (pg_name (i := 1) nd rfl (.inl rfl)) pgs_nil))))
        (pss_one (ps_set (i := 2) nd rfl (.inl rfl) (pe_op (op_ownB RB T.first T.add T.addf pass0 hr4) (pv 2) (pv 3))))))
      (pss_one (ps_ret (pe_tup (pa_cons (pv 2) (pa_cons (pv 1) pa_nil))))))), ?_⟩
    cases hR with
    | @mk _ kk _ r0 _ t0 _ hP hL =>
    refine ⟨_, rfl, _, rfl, z, i, d, t0, r0, rfl, hz, hd, hP, fun H1 p x j s1 hp hpt htr hj => ?_⟩
    refine ⟨p, _, rfl, SqT.of hpt, rfl, _, _, rfl, _, _, rfl, rfl, ?_⟩
    refine while_cnt (fun m σ H' => Same H H' ∧ ∃ (x : Addr) (j : Nat) (y3 : Option V) (u : Tr) (q : List Nat), σ = [some (.str z), some (.int j), some (.ref x), y3] ∧ IsTr K H' x u ∧ z.cps.toList.drop j = q ∧ RSs d m u q t r) kk ⟨s1, x, j, none, t0, r0, rfl, htr, hj, hL⟩ ?_ ?_
    · rintro m σ H2 ⟨s2, x, j, y3, u, q, rfl, hx, hq, hL⟩
      refine ⟨_, rfl, _, rfl, _, rfl, _, rfl, _, _, rfl, rfl, _, rfl, z, rfl, lz2, rfl, _, rfl, ?_⟩
      rw [show decide (V.str (cutS z (some (j : Int)) (some ((j : Int) + 1))) = V.str "+") = _ from cut_is (c := 43), hq]
      cases hL with
      | stop hn =>
        rw [decide_eq_false hn]
        refine iteF ⟨_, rfl, _, rfl, (by show 2 ≤ sizeLine; decide), fun p2 hp2 => ?_⟩
        have s3 := same_new (o := .tup [.ref x, .int j]) hp2
        exact k _ p2 x j (s2.trans s3) (s2.free hp2) upd_same (hx.same s3) hq
      | @more _ k2 _ v _ r2 r1 _ hP2 hL2 =>
        obtain ⟨a1, a2, a3⟩ := drop_at hq
        rw [decide_eq_true (show (43 :: r2).head? = some 43 from rfl)]
        refine iteT ⟨_, rfl, _, rfl, _, _, rfl, rfl, z, j + 1, d, v, r1, rfl, hz, hd, by rw [a3]; exact hP2, fun H3 p2 x2 j2 s3 hp2 hpt2 htr2 hj2 => ?_⟩
        refine ⟨p2, _, rfl, SqT.of hpt2, rfl, _, _, rfl, _, _, rfl, rfl, ?_⟩
        have hx3 := hx.same s3
        obtain ⟨dx, fs, i1⟩ := hx3.ins
        obtain ⟨dy, gs, i2⟩ := htr2.ins
        refine ⟨_, rfl, _, rfl, x, x2, dx, dy, fs, gs, rfl, rfl, i1, i2, x, x2, rfl, fun H4 x4 s4 h4 isw => ?_⟩
        exact ⟨k2, Nat.lt_succ_self _, s2.trans (s3.trans s4), x4, j2, _, .nd 43 u v, r1, rfl, ⟨by decide, x, x2, isw, hx3.same s4, htr2.same s4⟩, hj2, hL2⟩
    · rintro σ H' Q1 Q2 hq ⟨a1, b1, a2, b2, a3, b3, a4, b4, a5, a6, b5, b6, a7, b7, a8, b8, b9, b10, a11, b11, b12⟩
      exact ⟨a1, b1, a2, b2, a3, b3, a4, b4, a5, a6, b5, b6, a7, b7, a8, b8, b9, b10, a11, b11, hq _ _ b12⟩
/-! ### the knot -/
structure Rdf (K : PySem.W.Frag) (fdI fd1 fdP fdN fdS fdA fdB : FuncData) (dv : V) : Prop where
  w : Wif K fdI dv fd1
  fp : FnP K "read_part" iPart (He.ga K "read_part") fdP
  fn : FnP K "read_intersection" iInter (He.ga K "read_intersection") fdN
  fs : FnP K "read_sum" iSum (He.ga K "read_sum") fdS
  fa : FunD K "__add__" "Word.__add__" (defArgs sWA) (defBody sWA) (defScope sWA) [] [] (He.ma K (wC K) "__add__") fdA
  fb : FunD K "__and__" "Word.__and__" (defArgs sWB) (defBody sWB) (defScope sWB) [] [] (He.ma K (wC K) "__and__") fdB
theorem ok_reads {fdI fd1 fdP fdN fdS fdA fdB : FuncData} {dv : V} (T : Txt K mg) (Z : Rdf K fdI fd1 fdP fdN fdS fdA fdB dv) : ∀ n, FnOk P w K mg base CX0 (7 + 3 * n) (He.ga K "read_sum") fdS ["signs", "at"] (spSum K n) := by
  have one : ∀ n, FnOk P w K mg base CX0 (4 + 3 * n) (He.ga K "read_sum") fdS ["signs", "at"] (spLess K n) → FnOk P w K mg base CX0 (7 + 3 * n) (He.ga K "read_sum") fdS ["signs", "at"] (spSum K n) := fun n h =>
    ok_sum Z.fs T Z.w Z.fn Z.fa n (ok_inter Z.fn T Z.w Z.fp Z.fb n (ok_part Z.fp T Z.w Z.fs n h))
  intro n
  induction n with
  | zero => exact one 0 ⟨fun _ _ _ _ h => h.elim, fun _ _ _ _ _ _ _ _ _ _ _ _ _ h => h.elim⟩
  | succ n ih => exact one (n + 1) (by rw [show 4 + 3 * (n + 1) = 7 + 3 * n by omega]; exact ih)
end
end KB

set_option Elab.async false
set_option linter.all false
set_option maxRecDepth 100000
set_option maxHeartbeats 4000000
/-! # words.py: Word.read -/
namespace KB
open PySem PySem.Spec PyProof.Rows L2 VX KW CwR
section
variable {P : Program} {w : World} {K : PySem.W.Frag} {mg : Str → Option Value} {base : Heap} {f : Addr} {fd : FuncData}
def spRW (K : PySem.W.Frag) : Sp := fun vs H Q E => ∃ (z : Str), vs = [.str z, .int 9] ∧ z.length ≤ 1000 ∧
  (due z.cps.toList ≠ 0 → ∀ H' d, Same H H' → H' d = none → E (.ref (He.ga K "BadColumn")) (some d) (upd H' d (.xd [("column", .int (due z.cps.toList : Nat))]))) ∧
  (due z.cps.toList = 0 → ∀ t, RS 0 (z.cps.toList.filter (· != 32)) t [] → ∀ H' x, Same H H' → IsTr K H' x t → Q (.ref x) H')
def spRead (K : PySem.W.Frag) : Sp := fun vs H Q E => ∃ (u : V) (z : Str), vs = [u, .str z] ∧ z.length ≤ 1000 ∧
  (due z.cps.toList ≠ 0 → ∀ H' d, Same H H' → H' d = none → E (.ref (He.ga K "BadColumn")) (some d) (upd H' d (.xd [("column", .int (due z.cps.toList : Nat))]))) ∧
  (due z.cps.toList = 0 → ∀ t, RS 0 (z.cps.toList.filter (· != 32)) t [] → ∀ H' x, Same H H' → IsTr K H' x t → Q (.ref x) H')
abbrev nR : List Str := ["cls", "text"]
abbrev nRW : List Str := ["text", "most", "word", "_"]
theorem sc_rw : FnScope nRW ["text", "most"] (defScope (top iRW)) := ⟨rfl, rfl, rfl, by decide +kernel, rfl, by decide +kernel, by decide +kernel⟩
theorem sc_read : FnScope nR ["cls", "text"] (defScope sWR) := ⟨rfl, rfl, rfl, by decide +kernel, rfl, by decide +kernel, by decide +kernel⟩
theorem ok_rw {fdC fdc fdI fd1 fdP fdN fdS fdA fdB : FuncData} {dv : V} (F : FnP K "read_word" iRW f fd) (T : Txt K mg) (Z : Rdf K fdI fd1 fdP fdN fdS fdA fdB dv)
    (FC : FnP K "check_text" iCheck (He.ga K "check_text") fdC) (GB : FnOk P w K mg base CX0 1 (He.ma K (He.ga K "BadColumn") "__init__") fdc ["self", "column"] (spIni K (He.ga K "BadColumn") "column")) (BB : Binds K fdc ["self", "column"] []) :
    FnOk P w K mg base (L2.CX P w) 35 f fd ["text", "most"] (spRW K) := by
  have GC : FnOk P w K mg base (L2.CX P w) 4 _ fdC ["text", "most"] (spCheck K) := ok_check FC T GB BB
  have BC : Binds K fdC ["text", "most"] [] := FC.bindsN fun _ _ _ _ _ _ us hl => match us, hl with | [_, _], _ => rfl
  have GS : FnOk P w K mg base CX0 34 _ fdS ["signs", "at"] (spSum K 9) := ok_reads T Z 9
  have BS : Binds K fdS ["signs", "at"] [] := Z.fs.bindsN fun _ _ _ _ _ _ us hl => match us, hl with | [_, _], _ => rfl
  refine okT F sc_rw (by decide +kernel) (by decide) (fun vs H Q E h => ?_) (fun cdv A outer s H vs Q E hr h => ?_)
  · obtain ⟨z, rfl, _⟩ := h
    rfl
  · obtain ⟨z, rfl, hz, k1, k0⟩ := h
    have nd := sc_rw.nd
    have hr4 : Room 4 _ := hr.mono (by decide)
    refine ⟨_, psst_cons (PST.of (ps_expr (pe_call GC hr4 (by rfl) (T.df "check_text" iCheck) FC.kp BC .nil (passes_call (takes_of rfl rfl rfl rfl) (fun _ _ _ _ h => h)) (pa_cons (pv 0) (pa_cons (pv 1) pa_nil)))))
      (psst_cons (pst_asg (pet_call GS hr (by rfl) (T.df "read_sum" iSum) Z.fs.kp BS .nil pass0 (pat_cons (pet_replC (pv 0)) (pat_cons (PET.of pe_int) pat_nil))) (pg_tup (by rfl) (pgs_cons (pg_name (i := 2) nd rfl (.inl rfl)) (pgs_cons (pg_name (i := 3) nd rfl (.inl rfl)) pgs_nil))))
      (psst_one (PST.of (ps_ret (pv 2))))), ?_⟩
    refine ⟨_, rfl, _, rfl, z, rfl, hz, fun h0 H1 s1 => ?_, fun h0 H1 d s1 hd => k1 h0 H1 d s1 hd⟩
    have e : (Txt.replace z " " "").cps.toList = z.cps.toList.filter (· != 32) := PyProof.Rows.replace_strikes z 32
    have hl : (Txt.replace z " " "").length ≤ z.length := by
      show (Txt.replace z " " "").cps.size ≤ z.cps.size
      rw [← Array.length_toList, e, ← Array.length_toList]
      exact List.length_filter_le _ _
    obtain ⟨t, ht⟩ := reads h0
    refine ⟨_, rfl, z, rfl, (by show z.length + (z.length + 1) * 0 ≤ 16777216; omega), Txt.replace z " " "", 0, 0, t, [], rfl, by omega, by decide, by rw [List.drop_zero, e]; exact ht, fun H2 p x j s2 hp hpt htr hj => ?_⟩
    refine ⟨p, _, rfl, SqT.of hpt, rfl, _, _, rfl, _, _, rfl, rfl, ?_⟩
    exact ⟨_, rfl, k0 h0 t ht H2 x (s1.trans s2) htr⟩
theorem ok_read {fdC fdc fdI fd1 fdP fdN fdS fdA fdB fdR : FuncData} {dv : V} (F : FunD K "read" "Word.read" (defArgs sWR) (defBody sWR) (defScope sWR) [] [] f fd) (T : Txt K mg) (Z : Rdf K fdI fd1 fdP fdN fdS fdA fdB dv)
    (FR : FnP K "read_word" iRW (He.ga K "read_word") fdR)
    (FC : FnP K "check_text" iCheck (He.ga K "check_text") fdC) (GB : FnOk P w K mg base CX0 1 (He.ma K (He.ga K "BadColumn") "__init__") fdc ["self", "column"] (spIni K (He.ga K "BadColumn") "column")) (BB : Binds K fdc ["self", "column"] []) :
    FnOk P w K mg base (L2.CX P w) 36 f fd ["cls", "text"] (spRead K) := by
  have GW : FnOk P w K mg base (L2.CX P w) 35 _ fdR ["text", "most"] (spRW K) := ok_rw FR T Z FC GB BB
  have BW : Binds K fdR ["text", "most"] [] := FR.bindsN fun _ _ _ _ _ _ us hl => match us, hl with | [_, _], _ => rfl
  obtain ⟨tm, hm⟩ := T.most
  refine F.ok sc_read (fun vs H Q E h => ?_) (fun cdv A outer s H vs Q E hr h => ?_)
  · obtain ⟨u, z, rfl, _⟩ := h
    rfl
  · obtain ⟨u, z, rfl, k⟩ := h
    refine ⟨_, pss_one (ps_ret (pe_call GW hr (by rfl) (T.df "read_word" iRW) FR.kp BW .nil (passes_call (takes_of rfl rfl rfl rfl) (fun _ _ _ _ h => h)) (pa_cons (pv 1) (pa_cons (pe_glob (v := .int 9) (by rfl) hm ⟨tm, rfl⟩) pa_nil)))), ?_⟩
    exact ⟨_, rfl, z, rfl, k⟩
end
end KB

set_option Elab.async false
set_option linter.all false
set_option maxRecDepth 100000
set_option maxHeartbeats 4000000
/-! # the law's draws -/
namespace KB
open PySem PySem.Spec PyProof.Rows L2 VX KW
section
variable {P : Program} {w : World} {K : PySem.W.Frag} {mg : Str → Option Value} {base : Heap} {f : Addr} {fd : FuncData}
theorem sc_cell : FnScope ["_law_script", "_law_k"] ["_law_script", "_law_k"] (defScope (top iCell)) := ⟨rfl, rfl, rfl, by decide +kernel, rfl, by decide +kernel, by decide +kernel⟩
theorem ok_cell (F : FnP K "_law_cell" iCell f fd) (T : Txt K mg) : FnOk P w K mg base CX0 1 f fd ["_law_script", "_law_k"] (spCell K) := by
  refine F.ok sc_cell (fun vs H Q E h => ?_) (fun cdv A outer s H vs Q E hr h => ⟨tCellE K, PSs.nox ?_, cellE_run h⟩)
  · obtain ⟨l, ns, j, rfl, _⟩ := h
    rfl
  · exact pss_one (ps_ret (pe_ifExp (pt_cmp (pc_lt (pv 1) (pe_callB call_len (by rfl) (T.fr "len") boot_len (pa_cons (pv 0) pa_nil)))) (pe_ix ix_seq (pv 0) (pv 1) fun _ _ => rfl) pe_int))
/-! ### _law_box -/
theorem sc_box : FnScope ["_law_script", "_law_k"] ["_law_script", "_law_k"] (defScope (top iBox)) := ⟨rfl, rfl, rfl, by decide +kernel, rfl, by decide +kernel, by decide +kernel⟩
theorem ok_box {fd1 : FuncData} (F : FnP K "_law_box" iBox f fd) (T : Txt K mg) (F1 : FnP K "_law_cell" iCell (He.ga K "_law_cell") fd1) : FnOk P w K mg base CX0 2 f fd ["_law_script", "_law_k"] (spBox K) := by
  have G1 : FnOk P w K mg base CX0 1 _ fd1 ["_law_script", "_law_k"] (spCell K) := ok_cell F1 T
  have B1 : Binds K fd1 ["_law_script", "_law_k"] [] := F1.bindsN fun _ _ _ _ _ _ us hl => match us, hl with | [_, _], _ => rfl
  refine F.ok sc_box (fun vs H Q E h => ?_) (fun cdv A outer s H vs Q E hr h => ?_)
  · obtain ⟨l, ns, j, rfl, _⟩ := h
    rfl
  · obtain ⟨l, ns, j, rfl, hs, hj, k⟩ := h
    refine ⟨_, PSs.nox (pss_one (ps_ret (pe_lst (pa_cons (pe_callB call_abs (by rfl) (T.fr "abs") (by decide +kernel) (pa_cons (pe_callTy call_int1 (by rfl) (T.fr "int") boot_int
      (pa_cons (pe_call G1 hr (by rfl) (T.df "_law_cell" iCell) F1.kp B1 .nil pass0 (pa_cons (pv 0) (pa_cons (pv 1) pa_nil))) pa_nil)) pa_nil)) (pa_cons pe_int (pa_cons (pe_op op_add (pe_op op_mul pe_int (pv 1)) pe_int) pa_nil)))))), ?_⟩
    refine ⟨_, rfl, _, rfl, l, ns, j, rfl, hs, .inl ⟨_, rfl, _, rfl, _, rfl, _, _, rfl, rfl, .inl ⟨by decide, by decide⟩, _, _, rfl, rfl, (by show 3 ≤ sizeLine; decide), fun p hp => ?_⟩⟩
    have e : (if cellOf ns j < 0 then -cellOf ns j else cellOf ns j) = ((cellOf ns j).natAbs : Int) := by
      by_cases h : cellOf ns j < 0
      · rw [if_pos h]; omega
      · rw [if_neg h]; omega
    rw [e]
    exact k p _ hp (same_new hp) ⟨_, 0, _, upd_same, by omega, by omega, by omega, by omega, by omega⟩
/-! ### _law_take -/
theorem sc_take : FnScope ["_law_box_here", "_law_many", "_law_digit", "_law_mixed"] ["_law_box_here", "_law_many"] (defScope (top iTake)) := ⟨rfl, rfl, rfl, by decide +kernel, rfl, by decide +kernel, by decide +kernel⟩
theorem ok_take (F : FnP K "_law_take" iTake f fd) (T : Txt K mg) : FnOk P w K mg base CX0 1 f fd ["_law_box_here", "_law_many"] spTake := by
  refine F.ok sc_take (fun vs H Q E h => ?_) (fun cdv A outer s H vs Q E hr h => ?_)
  · obtain ⟨b, m, x, y, z, rfl, _⟩ := h
    rfl
  · obtain ⟨b, m, x, y, z, rfl, hb, x0, y0, y1, z0, z1, m0, m1, k⟩ := h
    have i0 := T.fr "int"
    refine ⟨_, PSs.nox (pss_cons (ps_if (pt_cmpR op_ge (pe_ix ix_list (pv 0) pe_int (fun _ _ => rfl)) (pe_op op_pow pe_int pe_int) (nomark _))
        (pss_cons (ps_set (i := 2) sc_take.nd rfl (Or.inl rfl) (pe_op op_mod (pe_callTy call_int1 (by rfl) i0 boot_int (pa_cons (pe_ix ix_list (pv 0) pe_int (fun _ _ => rfl)) pa_nil)) (pv 1)))
        (pss_cons (ps_asg (pe_op op_fdiv (pe_ix ix_list (pv 0) pe_int (fun _ _ => rfl)) (pv 1)) (pg_sub (pv 0) pe_int set_list))
        (pss_one (ps_ret (pv 2))))) pss_nil)
      (pss_cons (ps_asg (pe_op op_add (pe_ix ix_list (pv 0) pe_int (fun _ _ => rfl)) pe_int) (pg_sub (pv 0) pe_int set_list))
      (pss_cons (ps_set (i := 3) sc_take.nd rfl (Or.inl rfl) (pe_op op_mod (pe_op op_pw (pe_callTy call_int1 (by rfl) i0 boot_int (pa_cons (pe_op op_add (pe_op op_add (pe_op op_mul (pe_op op_add (pe_ix ix_list (pv 0) pe_int (fun _ _ => rfl)) pe_int) pe_int)
          (pe_op op_mul (pe_ix ix_list (pv 0) pe_int (fun _ _ => rfl)) pe_int)) (pe_ix ix_list (pv 0) pe_int (fun _ _ => rfl))) pa_nil)) pe_int) pe_int))
      (pss_cons (ps_set (i := 3) sc_take.nd rfl (Or.inl rfl) (pe_op op_mod (pe_op op_pw (pe_callTy call_int1 (by rfl) i0 boot_int (pa_cons (pe_op op_add (pv 3) (pe_op op_mul (pe_ix ix_list (pv 0) pe_int (fun _ _ => rfl)) pe_int)) pa_nil)) pe_int) pe_int))
      (pss_one (ps_ret (pe_op op_mod (pe_callTy call_int1 (by rfl) i0 boot_int (pa_cons (pe_op op_fdiv (pv 3) pe_int) pa_nil)) (pv 1)))))))), ?_⟩
    refine ⟨_, rfl, b, _, _, _, rfl, rfl, SqL.of hb, rfl, _, _, rfl, rfl, ⟨by decide, by decide, by decide⟩, _, _, rfl, rfl, _, rfl, ?_⟩
    refine ite2 (fun c => ?_) (fun c => ?_)
    · refine ⟨_, rfl, b, _, _, _, rfl, rfl, SqL.of hb, rfl, .inl ⟨_, rfl, _, rfl, _, _, rfl, rfl, m0, ?_⟩⟩
      refine ⟨_, rfl, b, _, _, _, rfl, rfl, SqL.of hb, rfl, _, rfl, _, _, rfl, rfl, ⟨m0, by omega⟩, ?_⟩
      refine ⟨_, rfl, b, _, _, 0, rfl, rfl, hb, rfl, _, rfl, ?_⟩
      have d0 : 0 ≤ x % m := Int.emod_nonneg x (by omega)
      have d1 : x % m < m := Int.emod_lt_of_pos x m0
      have q0 : 0 ≤ x / m := Int.ediv_nonneg x0 (by omega)
      have q1 : x / m ≤ x := Int.ediv_le_self m x0
      exact k (x % m) (x / m) y d0 d1 q0 q1 (by omega) (by omega)
    · have c' : x < 10 ^ 18 := by simpa using c
      refine ⟨_, rfl, b, _, _, _, rfl, rfl, SqL.of hb, rfl, _, _, rfl, rfl, ?_⟩
      refine ⟨_, rfl, b, _, _, 1, rfl, rfl, hb, rfl, ?_⟩
      have h1 : upd H b (.lst (([V.int x, V.int y, V.int z] : List V).set 1 (V.int (y + 1)))) b = some (.lst [.int x, .int (y + 1), .int z]) := upd_same
      refine ⟨_, rfl, b, _, _, _, rfl, rfl, SqL.of h1, rfl, _, _, rfl, rfl, _, _, rfl, rfl, .inr ⟨by decide, by decide⟩, _, rfl, b, _, _, _, rfl, rfl, SqL.of h1, rfl, _, _, rfl, rfl, .inr ⟨by decide, by decide⟩, _, _, rfl, rfl, _, rfl, b, _, _, _, rfl, rfl, SqL.of h1, rfl, _, _, rfl, rfl, .inl ⟨_, rfl, _, _, rfl, rfl, pw_ok (by omega) (by omega), _, _, rfl, rfl, (by show (0 : Int) < 2147483647; decide), ?_⟩⟩
      refine ⟨_, rfl, _, rfl, b, _, _, _, rfl, rfl, SqL.of h1, rfl, _, _, rfl, rfl, .inr ⟨by decide, by decide⟩, _, _, rfl, rfl, .inl ⟨_, rfl, _, _, rfl, rfl, ?_, _, _, rfl, rfl, (by show (0 : Int) < 2147483399; decide), ?_⟩⟩
      · have a0 := Int.emod_nonneg (((x + 7) * 69069 + (y + 1) * 40692 + z) ^ Int.toNat 3) (show (2147483647 : Int) ≠ 0 by decide)
        have a1 := Int.emod_lt_of_pos (((x + 7) * 69069 + (y + 1) * 40692 + z) ^ Int.toNat 3) (show (0 : Int) < 2147483647 by decide)
        exact pw_ok (by omega) (by omega)
      · refine ⟨_, rfl, _, _, rfl, rfl, ⟨by decide, by decide⟩, .inl ⟨_, rfl, _, rfl, _, _, rfl, rfl, m0, ?_⟩⟩
        exact k _ x (y + 1) (Int.emod_nonneg _ (by omega)) (Int.emod_lt_of_pos _ m0) x0 (Int.le_refl x) (by omega) (by omega)
end
end KB

set_option Elab.async false
set_option linter.all false
set_option maxRecDepth 100000
set_option maxHeartbeats 4000000
/-! # _law_line, _law_due -/
namespace KB
open PySem PySem.Spec PyProof.Rows L2 VX KW
section
variable {P : Program} {w : World} {K : PySem.W.Frag} {mg : Str → Option Value} {base : Heap} {f : Addr} {fd : FuncData}
abbrev nL : List Str := ["_law_box_here", "_law_line_here", "_law_wanted", "_law_k", "_law_way", "_law_sign"]
def spLine : Sp := fun vs H Q _ => ∃ (b : Addr) (N : Nat), vs = [.ref b] ∧ BoxK H b N ∧ N ≤ 800000 ∧ ∀ H' z, Kept b H H' → BoxK H' b (N + 100) → z.length ≤ 200 → Q (.str z) H'
theorem sc_line : FnScope nL ["_law_box_here"] (defScope (top iLine)) := ⟨rfl, rfl, rfl, by decide +kernel, rfl, by decide +kernel, by decide +kernel⟩
theorem ok_line {fdT : FuncData} (F : FnP K "_law_line" iLine f fd) (T : Txt K mg) (FT : FnP K "_law_take" iTake (He.ga K "_law_take") fdT) : FnOk P w K mg base CX0 2 f fd ["_law_box_here"] spLine := by
  have GT : FnOk P w K mg base CX0 1 _ fdT ["_law_box_here", "_law_many"] spTake := ok_take FT T
  have BT : Binds K fdT ["_law_box_here", "_law_many"] [] := FT.bindsN fun _ _ _ _ _ _ us hl => match us, hl with | [_, _], _ => rfl
  refine F.ok sc_line (fun vs H Q E h => ?_) (fun cdv A outer s H vs Q E hr h => ?_)
  · obtain ⟨b, N, rfl, _⟩ := h
    rfl
  · obtain ⟨b, N, rfl, hb, hN, k⟩ := h
    have nd := sc_line.nd
    refine ⟨_, PSs.nox (pss_cons (ps_set (i := 1) nd rfl (.inl rfl) (pe_op op_mulS pe_str (pe_ix ix_list (pe_lst (pa_cons pe_int (pa_cons pe_int (pa_cons pe_int (pa_cons pe_int (pa_cons pe_int (pa_cons pe_int (pa_cons pe_int (pa_cons pe_int pa_nil))))))))) (pe_call GT hr (by rfl) (T.df "_law_take" iTake) FT.kp BT .nil pass0 (pa_cons (pv 0) (pa_cons pe_int pa_nil))) (fun _ _ => rfl)))) (pss_cons (ps_set (i := 2) nd rfl (.inl rfl) pe_bl) (pss_cons (ps_for PassesOwn.never rfl (pi_range1 (by rfl) (T.fr "range") (pa_cons (pe_call GT hr (by rfl) (T.df "_law_take" iTake) FT.kp BT .nil pass0 (pa_cons (pv 0) (pa_cons pe_int pa_nil))) pa_nil)) (pg_name (i := 3) nd rfl (.inl rfl)) (pss_cons (ps_set (i := 4) nd rfl (.inl rfl) (pe_call GT hr (by rfl) (T.df "_law_take" iTake) FT.kp BT .nil pass0 (pa_cons (pv 0) (pa_cons pe_int pa_nil)))) (pss_cons (ps_if (pt_cmpR op_eq (pv 4) pe_int (nomark _)) (pss_one (ps_set (i := 5) nd rfl (.inl rfl) (pe_ix ix_list (pe_lst (pa_cons pe_str (pa_cons pe_str (pa_cons pe_str (pa_cons pe_str (pa_cons pe_str (pa_cons pe_str (pa_cons pe_str (pa_cons pe_str (pa_cons pe_str (pa_cons pe_str pa_nil))))))))))) (pe_call GT hr (by rfl) (T.df "_law_take" iTake) FT.kp BT .nil pass0 (pa_cons (pv 0) (pa_cons pe_int pa_nil))) (fun _ _ => rfl)))) (pss_one (ps_if (pt_cmpR op_lt (pv 4) pe_int (nomark _)) (pss_one (ps_set (i := 5) nd rfl (.inl rfl) pe_str)) (pss_one (ps_if (pt_val (pv 2)) (pss_cons (ps_set (i := 5) nd rfl (.inl rfl) (pe_ix ix_list (pe_lst (pa_cons pe_str (pa_cons pe_str (pa_cons pe_str (pa_cons pe_str (pa_cons pe_str (pa_cons pe_str pa_nil))))))) (pe_call GT hr (by rfl) (T.df "_law_take" iTake) FT.kp BT .nil pass0 (pa_cons (pv 0) (pa_cons pe_int pa_nil))) (fun _ _ => rfl))) (pss_one (ps_set (i := 2) nd rfl (.inl rfl) (pe_cmpR op_eq (pv 5) pe_str (nomark _))))) (pss_cons (ps_set (i := 5) nd rfl (.inl rfl) (pe_ix ix_list (pe_lst (pa_cons pe_str (pa_cons pe_str (pa_cons pe_str pa_nil)))) (pe_call GT hr (by rfl) (T.df "_law_take" iTake) FT.kp BT .nil pass0 (pa_cons (pv 0) (pa_cons pe_int pa_nil))) (fun _ _ => rfl))) (pss_one (ps_set (i := 2) nd rfl (.inl rfl) (pe_cmpR op_ne (pv 5) pe_str (nomark _)))))))))) (pss_one (ps_set (i := 1) nd rfl (.inl rfl) (pe_op op_add_str (pv 1) (pv 5))))))) (pss_one (ps_ret (pe_op op_add_str (pv 1) (pe_op op_mulS pe_str (pe_ix ix_list (pe_lst (pa_cons pe_int (pa_cons pe_int (pa_cons pe_int (pa_cons pe_int (pa_cons pe_int (pa_cons pe_int (pa_cons pe_int pa_nil)))))))) (pe_call GT hr (by rfl) (T.df "_law_take" iTake) FT.kp BT .nil pass0 (pa_cons (pv 0) (pa_cons pe_int pa_nil))) (fun _ _ => rfl))))))))), ?_⟩
    refine ⟨(by show 8 ≤ sizeLine; decide), fun l0 hl0 => ⟨_, rfl, ?_⟩⟩
    dsimp only [tCons, tC, tNil, List.append_nil]
    refine pick_use (m := 8) hb hl0 (by omega) rfl (by decide) (by decide) fun v H1 hv k1 b1 => ?_
    have hv : ∃ n : Int, v = .int n ∧ 0 ≤ n ∧ n ≤ 12 := by
      simp only [List.mem_cons, List.not_mem_nil, or_false] at hv
      rcases hv with rfl | rfl | rfl | rfl | rfl | rfl | rfl | rfl <;> exact ⟨_, rfl, by decide, by decide⟩
    obtain ⟨n, rfl, n0, n12⟩ := hv
    refine ⟨_, n, rfl, rfl, by decide, n0, by omega, ?_⟩
    have lz0 : (Txt.mul "(" n).length ≤ 12 := by
      have := len_mul_leN (x := "(") (L := 1) (N := 12) (n := n) (by decide) (by omega)
      omega
    refine ⟨_, rfl, ?_⟩
    dsimp -proj only [tCons, tC, tNil, List.append_nil]
    refine take_use (m := 15) b1 (by omega) (by decide) (by decide) fun d H2 d0 d1 k2 b2 _ => ?_
    refine ⟨d, rfl, by omega, by omega, for_range (lo := 0) (n := d.toNat) (fun i σ H' => ∃ (z : Str) (w : Bool) (y3 y4 y5 : Option V), σ = [some (.ref b), some (.str z), some (.bl w), y3, y4, y5] ∧ Kept b H H' ∧ BoxK H' b (N + 2 + 2 * i) ∧ z.length ≤ 12 + 2 * i) ⟨Txt.mul "(" n, true, none, none, none, rfl, k1.trans k2, b2, by omega⟩ ?_ ?_⟩
    · rintro i σ H3 hi ⟨z, w', y3, y4, y5, rfl, k3, b3, hz⟩
      refine ⟨_, rfl, ?_⟩
      dsimp only [tCons, tC, tNil, List.append_nil]
      refine take_use (m := 10) b3 (by omega) (by decide) (by decide) fun way H4 w0 w1 k4 b4 _ => ?_
      have k34 := k3.trans k4
      have fin : ∀ {sg : Str} {w2 : Bool} {H5 : Hp} {M : Nat}, sg.length ≤ 2 → M ≤ N + 4 + 2 * i → Kept b H H5 → BoxK H5 b M → z.length + sg.length ≤ sizeLine ∧ (∃ (z2 : Str) (w3 : Bool) (y3 y4 y5 : Option V), [some (V.ref b), some (V.str (z ++ sg)), some (V.bl w2), some (V.int (0 + (i : Nat))), some (V.int way), some (V.str sg)] = [some (.ref b), some (.str z2), some (.bl w3), y3, y4, y5] ∧ Kept b H H5 ∧ BoxK H5 b (N + 2 + 2 * (i + 1)) ∧ z2.length ≤ 12 + 2 * (i + 1)) := fun {sg w2 H5 M} hs hM kk bb => by
        have ll : (z ++ sg).length = z.length + sg.length := by
          show (z.cps ++ sg.cps).size = z.cps.size + sg.cps.size
          exact Array.size_append
        refine ⟨Nat.le_of_lt (lt_line (by omega)), _, _, _, _, _, rfl, kk, bb.mono (by omega), by omega⟩
      refine ⟨_, rfl, rfl, _, rfl, ?_⟩
      refine ite2 (fun c0 => ?_) (fun c0 => ?_)
      · refine ⟨(by show 10 ≤ sizeLine; decide), fun l1 hl1 => ⟨_, rfl, ?_⟩⟩
        dsimp only [tCons, tC, tNil, List.append_nil]
        refine pick_use (m := 10) b4 hl1 (by omega) rfl (by decide) (by decide) fun v H5 hv k5 b5 => ?_
        have hv : ∃ sg : Str, v = .str sg ∧ sg.length ≤ 2 := by
          simp only [List.mem_cons, List.not_mem_nil, or_false] at hv
          rcases hv with rfl | rfl | rfl | rfl | rfl | rfl | rfl | rfl | rfl | rfl <;> exact ⟨_, rfl, by decide⟩
        obtain ⟨sg, rfl, hs⟩ := hv
        have q := fin (w2 := w') hs (Nat.le_of_eq (by omega)) (k34.trans k5) b5
        exact ⟨_, rfl, _, rfl, z, sg, rfl, rfl, q.1, q.2⟩
      · refine ⟨_, rfl, _, _, rfl, rfl, _, rfl, ?_⟩
        refine ite2 (fun c1 => ?_) (fun c1 => ?_)
        · have q := fin (sg := " ") (w2 := w') (by decide) (by omega) k34 b4
          exact ⟨_, rfl, _, rfl, z, " ", rfl, rfl, q.1, q.2⟩
        · refine ⟨_, rfl, _, rfl, ?_⟩
          refine ite2 (fun c2 => ?_) (fun c2 => ?_)
          · refine ⟨(by show 6 ≤ sizeLine; decide), fun l1 hl1 => ⟨_, rfl, ?_⟩⟩
            dsimp only [tCons, tC, tNil, List.append_nil]
            refine pick_use (m := 6) b4 hl1 (by omega) rfl (by decide) (by decide) fun v H5 hv k5 b5 => ?_
            have hv : ∃ sg : Str, v = .str sg ∧ sg.length ≤ 2 := by
              simp only [List.mem_cons, List.not_mem_nil, or_false] at hv
              rcases hv with rfl | rfl | rfl | rfl | rfl | rfl <;> exact ⟨_, rfl, by decide⟩
            obtain ⟨sg, rfl, hs⟩ := hv
            refine ⟨_, rfl, rfl, ?_⟩
            have q := fin (w2 := decide (V.str sg = V.str "(")) hs (Nat.le_of_eq (by omega)) (k34.trans k5) b5
            exact ⟨_, rfl, _, rfl, z, sg, rfl, rfl, q.1, q.2⟩
          · refine ⟨(by show 3 ≤ sizeLine; decide), fun l1 hl1 => ⟨_, rfl, ?_⟩⟩
            dsimp only [tCons, tC, tNil, List.append_nil]
            refine pick_use (m := 3) b4 hl1 (by omega) rfl (by decide) (by decide) fun v H5 hv k5 b5 => ?_
            have hv : ∃ sg : Str, v = .str sg ∧ sg.length ≤ 2 := by
              simp only [List.mem_cons, List.not_mem_nil, or_false] at hv
              rcases hv with rfl | rfl | rfl <;> exact ⟨_, rfl, by decide⟩
            obtain ⟨sg, rfl, hs⟩ := hv
            refine ⟨_, rfl, rfl, ?_⟩
            have q := fin (w2 := !decide (V.str sg = V.str ")")) hs (Nat.le_of_eq (by omega)) (k34.trans k5) b5
            exact ⟨_, rfl, _, rfl, z, sg, rfl, rfl, q.1, q.2⟩
    · rintro σ H3 ⟨z, w', y3, y4, y5, rfl, k3, b3, hz⟩
      refine ⟨_, rfl, (by show 7 ≤ sizeLine; decide), fun l1 hl1 => ⟨_, rfl, ?_⟩⟩
      dsimp only [tCons, tC, tNil, List.append_nil]
      refine pick_use (m := 7) b3 hl1 (by omega) rfl (by decide) (by decide) fun v H5 hv k5 b5 => ?_
      have hv : ∃ n : Int, v = .int n ∧ 0 ≤ n ∧ n ≤ 12 := by
        simp only [List.mem_cons, List.not_mem_nil, or_false] at hv
        rcases hv with rfl | rfl | rfl | rfl | rfl | rfl | rfl <;> exact ⟨_, rfl, by decide, by decide⟩
      obtain ⟨m, rfl, m0, m12⟩ := hv
      have lz1 : (Txt.mul ")" m).length ≤ 12 := by
        have := len_mul_leN (x := ")") (L := 1) (N := 12) (n := m) (by decide) (by omega)
        omega
      have ll : (z ++ Txt.mul ")" m).length = z.length + (Txt.mul ")" m).length := by
        show (z.cps ++ (Txt.mul ")" m).cps).size = z.cps.size + (Txt.mul ")" m).cps.size
        exact Array.size_append
      have hd : d.toNat ≤ 14 := by omega
      refine ⟨_, m, rfl, rfl, by decide, m0, by omega, z, _, rfl, rfl, Nat.le_of_lt (lt_line (by omega)), ?_⟩
      exact k _ _ (k3.trans k5) (b5.mono (by omega)) (by omega)
end
end KB

set_option Elab.async false
set_option linter.all false
set_option maxRecDepth 100000
set_option maxHeartbeats 4000000
/-! # _law_due -/
namespace KB
open PySem PySem.Spec PyProof.Rows L2 VX KW
section
variable {P : Program} {w : World} {K : PySem.W.Frag} {mg : Str → Option Value} {base : Heap} {f : Addr} {fd : FuncData}
def spDue : Sp := fun vs H Q _ => ∃ z : Str, vs = [.str z] ∧ z.length ≤ 1000 ∧ Q (.int (due z.cps.toList : Nat)) H
theorem sc_due : FnScope ["_law_line_here", "_law_opened", "_law_wanted", "_law_k", "_law_sign"] ["_law_line_here"] (defScope (top iDue)) := ⟨rfl, rfl, rfl, by decide +kernel, rfl, by decide +kernel, by decide +kernel⟩
theorem sign_leaf (c : Nat) : decide (c ∈ ("abc01" : Str).cps.toList) = leafC c := by
  rw [show ("abc01" : Str).cps.toList = [97, 98, 99, 48, 49] from rfl, Bool.eq_iff_iff]
  simp [leafC, or_assoc]
theorem sign_joint (c : Nat) : decide (c ∈ ("+&" : Str).cps.toList) = jointC c := by
  rw [show ("+&" : Str).cps.toList = [43, 38] from rfl, Bool.eq_iff_iff]
  simp [jointC]
theorem ok_due (F : FnP K "_law_due" iDue f fd) (T : Txt K mg) : FnOk P w K mg base CX0 1 f fd ["_law_line_here"] spDue := by
  refine F.ok sc_due (fun vs H Q E h => ?_) (fun cdv A outer s H vs Q E hr h => ?_)
  · obtain ⟨z, rfl, _⟩ := h
    rfl
  · obtain ⟨z, rfl, hz, k⟩ := h
    have nd := sc_due.nd
    have lz2 : z.length ≤ sizeLine := Nat.le_of_lt (lt_line (by omega))
    refine ⟨_, PSs.nox (pss_cons (ps_set (i := 1) nd rfl (.inl rfl) pe_int) (pss_cons (ps_set (i := 2) nd rfl (.inl rfl) pe_bl) (pss_cons (ps_for PassesOwn.never rfl (pi_range1 (by rfl) (T.fr "range") (pa_cons (pe_callB call_len_str (by rfl) (T.fr "len") boot_len (pa_cons (pv 0) pa_nil)) pa_nil)) (pg_name (i := 3) nd rfl (.inl rfl)) (pss_cons (ps_set (i := 4) nd rfl (.inl rfl) (pe_ix ix_str (pv 0) (pv 3) (fun _ _ => rfl))) (pss_cons (ps_if (pt_cmpR op_eq (pv 4) pe_str (nomark _)) (pss_one ps_continue) pss_nil) (pss_one (ps_if (PW.pt (pw_and (pt_val (pv 2)) (pw_and (pt_cmpR op_eq (pv 4) pe_str (nomark _)) (pw_and1 (pt_cmpR op_lt (pv 1) pe_int (nomark _)))))) (pss_one (ps_set (i := 1) nd rfl (.inl rfl) (pe_op op_add (pv 1) pe_int))) (pss_one (ps_if (PW.pt (pw_and (pt_val (pv 2)) (pw_and1 (pt_cmpR op_in_sign (pv 4) pe_str (by rfl))))) (pss_one (ps_set (i := 2) nd rfl (.inl rfl) pe_bl)) (pss_one (ps_if (PW.pt (pw_and (pt_not (pt_val (pv 2))) (pw_and1 (pt_cmpR op_in_sign (pv 4) pe_str (by rfl))))) (pss_one (ps_set (i := 2) nd rfl (.inl rfl) pe_bl)) (pss_one (ps_if (PW.pt (pw_and (pt_not (pt_val (pv 2))) (pw_and (pt_cmpR op_eq (pv 4) pe_str (nomark _)) (pw_and1 (pt_cmpR op_gt (pv 1) pe_int (nomark _)))))) (pss_one (ps_set (i := 1) nd rfl (.inl rfl) (pe_op op_sub (pv 1) pe_int))) (pss_one (ps_ret (pe_op op_add (pv 3) pe_int)))))))))))))) (pss_one (ps_ret (pe_ifExp (PW.pt (pw_or (pt_val (pv 2)) (pw_or1 (pt_cmpR op_gt (pv 1) pe_int (nomark _))))) (pe_op op_add (pe_callB call_len_str (by rfl) (T.fr "len") boot_len (pa_cons (pv 0) pa_nil)) pe_int) pe_int)))))), ?_⟩
    refine ⟨_, rfl, z, rfl, lz2, z.length, rfl, by omega, by omega, for_range (lo := 0) (n := z.length) (fun i σ H' => H' = H ∧ ∃ (o : Nat) (w : Bool) (y3 y4 : Option V), σ = [some (.str z), some (.int o), some (.bl w), y3, y4] ∧ dueAt (z.cps.toList.drop i) o w (i + 1) = due z.cps.toList) ⟨rfl, 0, true, none, none, rfl, rfl⟩ ?_ ?_⟩
    · rintro i σ H' hi ⟨rfl, o, w, y3, y4, rfl, hd⟩
      obtain ⟨c, r, hdr⟩ : ∃ c r, z.cps.toList.drop i = c :: r := by
        have h1 : i < z.cps.toList.length := by
          have : i < z.cps.size := hi
          simpa using this
        exact ⟨_, _, List.drop_eq_getElem_cons h1⟩
      obtain ⟨a1, a2, a3⟩ := drop_at hdr
      have go : ∀ {o' : Nat} {w' : Bool}, stp o w c = some (o', w') → dueAt (z.cps.toList.drop (i + 1)) o' w' (i + 1 + 1) = due z.cps.toList := fun {o' w'} hs => by
        rw [hdr] at hd
        simp only [dueAt, hs] at hd
        rw [a3]
        exact hd
      have no : stp o w c = none → due z.cps.toList = i + 1 := fun hs => by
        rw [hdr] at hd
        simp only [dueAt, hs] at hd
        exact hd.symm
      have d40 : decide (V.str (one c) = V.str "(") = (c == 40) := dec_one
      have d41 : decide (V.str (one c) = V.str ")") = (c == 41) := dec_one
      have d32 : decide (V.str (one c) = V.str " ") = (c == 32) := dec_one
      have at_ : atI z.cps.toList (0 + (i : Int)) = some c := by
        rw [Int.zero_add]
        exact atI_nat (by simpa using a2)
      refine ⟨_, rfl, _, rfl, z, _, c, rfl, rfl, lz2, at_, ?_⟩
      refine ⟨_, rfl, rfl, _, rfl, ?_⟩
      rw [show decide (V.str ⟨#[c]⟩ = V.str " ") = (c == 32) from d32]
      refine ite2 (fun c0 => ?_) (fun c0 => ?_)
      · have e32 : c = 32 := by simpa using c0
        exact ⟨rfl, o, w, _, _, rfl, go (by simp [stp, e32])⟩
      · have e32 : c ≠ 32 := by simpa using c0
        have l40 : leafC 40 = false := rfl
        have j41 : jointC 41 = false := rfl
        have out : stp o w c = none → Q (.int (0 + (i : Int) + 1)) H' := fun hs => by
          have := no hs
          rw [this] at k
          rw [show (0 + (i : Int) + 1) = ((i + 1 : Nat) : Int) by omega]
          exact k
        cases w with
        | true =>
          refine ⟨_, rfl, _, rfl, iteT ⟨_, rfl, rfl, _, rfl, ?_⟩⟩
          rw [show decide (V.str ⟨#[c]⟩ = V.str "(") = (c == 40) from d40]
          refine ite2 (fun h40 => ?_) (fun h40 => ?_)
          · have e40 : c = 40 := by simpa using h40
            refine ⟨_, rfl, _, _, rfl, rfl, _, rfl, ?_⟩
            refine ite2 (fun h9 => ?_) (fun h9 => ?_)
            · have h9' : o < 9 := by have := of_decide_eq_true h9; omega
              refine ⟨_, rfl, _, _, rfl, rfl, rfl, o + 1, true, _, _, rfl, go ?_⟩
              subst e40
              simp [stp, leafC, h9']
            · have h9' : ¬ o < 9 := fun h => h9 (decide_eq_true (by omega))
              refine ⟨_, rfl, _, rfl, iteT ⟨_, rfl, c, _, rfl, rfl, _, rfl, ?_⟩⟩
              rw [sign_leaf, e40, l40]
              refine iteF ⟨_, rfl, _, rfl, iteF ⟨_, rfl, _, rfl, iteF ⟨_, rfl, _, _, rfl, rfl, ?_⟩⟩⟩
              exact out (by subst e40; simp [stp, leafC, h9', jointC])
          · have e40 : c ≠ 40 := by simpa using h40
            refine ⟨_, rfl, _, rfl, iteT ⟨_, rfl, c, _, rfl, rfl, _, rfl, ?_⟩⟩
            rw [sign_leaf]
            refine ite2 (fun hl => ?_) (fun hl => ?_)
            · exact ⟨rfl, o, false, _, _, rfl, go (by simp [stp, e32, hl])⟩
            · refine ⟨_, rfl, _, rfl, iteF ⟨_, rfl, _, rfl, iteF ⟨_, rfl, _, _, rfl, rfl, ?_⟩⟩⟩
              exact out (by simp [stp, e32, e40, hl])
        | false =>
          refine ⟨_, rfl, _, rfl, iteF ⟨_, rfl, _, rfl, iteF ⟨_, rfl, _, rfl, iteT ⟨_, rfl, c, _, rfl, rfl, _, rfl, ?_⟩⟩⟩⟩
          rw [sign_joint]
          refine ite2 (fun hj => ?_) (fun hj => ?_)
          · exact ⟨rfl, o, true, _, _, rfl, go (by simp [stp, e32, hj])⟩
          · refine ⟨_, rfl, _, rfl, iteT ⟨_, rfl, rfl, _, rfl, ?_⟩⟩
            rw [show decide (V.str ⟨#[c]⟩ = V.str ")") = (c == 41) from d41]
            refine ite2 (fun h41 => ?_) (fun h41 => ?_)
            · have e41 : c = 41 := by simpa using h41
              refine ⟨_, rfl, _, _, rfl, rfl, _, rfl, ?_⟩
              refine ite2 (fun h9 => ?_) (fun h9 => ?_)
              · have h9' : 0 < o := by have := of_decide_eq_true h9; omega
                refine ⟨_, rfl, _, _, rfl, rfl, rfl, o - 1, false, some (.int (0 + (i : Int))), some (.str (one c)), ?_, go ?_⟩
                · show [some (V.str z), some (V.int ((o : Int) - 1)), some (V.bl false), some (V.int (0 + (i : Int))), some (V.str (one c))] = _
                  rw [show ((o - 1 : Nat) : Int) = (o : Int) - 1 by omega]
                · subst e41
                  simp [stp, jointC, h9']
              · have h9' : ¬ 0 < o := fun h => h9 (decide_eq_true (by omega))
                refine ⟨_, rfl, _, _, rfl, rfl, ?_⟩
                exact out (by subst e41; simp [stp, h9', jointC])
            · have e41 : c ≠ 41 := by simpa using h41
              refine ⟨_, rfl, _, _, rfl, rfl, ?_⟩
              exact out (by simp [stp, e32, e41, hj])
    · rintro σ H' ⟨rfl, o, w, y3, y4, rfl, hd⟩
      have hn : z.cps.toList.drop z.length = [] := List.drop_eq_nil_of_le (by show z.cps.toList.length ≤ z.cps.size; simp)
      rw [hn] at hd
      simp only [dueAt] at hd
      cases w with
      | true =>
        refine ⟨_, rfl, _, rfl, iteT ⟨_, rfl, z, rfl, lz2, _, _, rfl, rfl, ?_⟩⟩
        rw [← hd] at k
        exact k
      | false =>
        refine ⟨_, rfl, _, rfl, iteF ⟨_, rfl, _, _, rfl, rfl, _, rfl, ?_⟩⟩
        refine ite2 (fun h9 => ?_) (fun h9 => ?_)
        · have h9' : 0 < o := by have := of_decide_eq_true h9; omega
          refine ⟨_, rfl, z, rfl, lz2, _, _, rfl, rfl, ?_⟩
          rw [← hd] at k
          simpa [h9'] using k
        · have h9' : ¬ 0 < o := fun h => h9 (decide_eq_true (by omega))
          rw [← hd] at k
          have k' : Q (V.int 0) H' := by simpa [h9'] using k
          exact k'
end
end KB

set_option Elab.async false
set_option linter.all false
set_option maxRecDepth 100000
set_option maxHeartbeats 4000000
/-! # _law_told, law -/
namespace KB
open PySem PySem.Spec PyProof.Rows L2 VX KW
section
variable {P : Program} {w : World} {K : PySem.W.Frag} {mg : Str → Option Value} {base : Heap} {f : Addr} {fd : FuncData}
def spTold : Sp := fun vs H Q _ => ∃ z : Str, vs = [.str z] ∧ z.length ≤ 1000 ∧ ∀ H', Same H H' → Q (.int (due z.cps.toList : Nat)) H'
theorem sc_told : FnScope ["_law_line_here", "e"] ["_law_line_here"] (defScope (top iTold)) := ⟨rfl, rfl, rfl, by decide +kernel, rfl, by decide +kernel, by decide +kernel⟩
theorem ok_told {fdR : FuncData} (F : FnP K "_law_told" iTold f fd) (T : Txt K mg) (GR : FnOk P w K mg base (L2.CX P w) 36 (He5.wf K (wC K) "classmethod" "read") fdR ["cls", "text"] (spRead K)) (BR : Binds K fdR ["cls", "text"] []) : FnOk P w K mg base CX0 37 f fd ["_law_line_here"] spTold := by
  have RR : FnR P w K mg base (L2.CX P w) 36 (He5.wf K (wC K) "classmethod" "read") (spRead K) := (GR.raw BR .nil).imp fun vs H Q E h => by rw [List.append_nil]; exact h
  refine F.ok sc_told (fun vs H Q E h => ?_) (fun cdv A outer s H vs Q E hr h => ?_)
  · obtain ⟨z, rfl, _⟩ := h
    rfl
  · obtain ⟨z, rfl, hz, k⟩ := h
    have nd := sc_told.nd
    refine ⟨_, (pss_cons (ps_try_named (n := "e") (i := 1) (Wout := fun _ _ _ _ => False) rfl rfl nd rfl rfl takes0
        (fun W pn xe tk _ => pss_one (ps_expr (pe_cmethS (pe_glob (v := .ref (wC K)) (by rfl) T.word rfl) T.cr T.cm RR hr (fun σ => passAt tk σ) (pa_cons (pv 0) pa_nil))))
        (.cons ⟨rfl, by decide, .inl T.badc⟩ (fun a oe cls d pn hz hf => pss_one (ps_ret (pe_xf T.exf.xf T.inf.no hz hf (pv 1)))) .nil))
      (pss_one (ps_ret pe_int))), ?_⟩
    refine ⟨rfl, _, rfl, .ref (wC K), z, rfl, hz, fun h0 H1 d s1 hd => ?_, fun h0 t ht H1 x s1 htr => ?_⟩
    · refine ⟨true, T.exm, fun _ a0 _ => ?_, fun q => nomatch q⟩
      refine ⟨_, rfl, rfl, rfl, d, _, _, rfl, upd_same, by simp [List.lookup], k _ (s1.trans (same_new hd))⟩
    · have := k _ s1
      rw [h0] at this
      exact this
/-! ### law -/
structure Lwf (K : PySem.W.Frag) (fdT fdB fdL fdD fdU fdC : FuncData) : Prop where
  ft : FnP K "_law_take" iTake (He.ga K "_law_take") fdT
  fb : FnP K "_law_box" iBox (He.ga K "_law_box") fdB
  fl : FnP K "_law_line" iLine (He.ga K "_law_line") fdL
  fd : FnP K "_law_told" iTold (He.ga K "_law_told") fdD
  fu : FnP K "_law_due" iDue (He.ga K "_law_due") fdU
  fc : FnP K "_law_cell" iCell (He.ga K "_law_cell") fdC
def spLaw (K : PySem.W.Frag) : Sp := fun vs H Q _ => ∃ (l : Addr) (ns : List Int), vs = [.ref l] ∧ SqL K H l (ns.map V.int) ∧ ∀ H', Q (.bl true) H'
abbrev nW : List Str := ["_law_script","_law_k","_law_box_here","_law_turn","_law_line_here","_law_at","_law_other"]
theorem sc_law : FnScope nW ["_law_script"] (defScope (top iLaw)) := ⟨rfl, rfl, rfl, by decide +kernel, rfl, by decide +kernel, by decide +kernel⟩
theorem due0 : due ("" : Str).cps.toList = 1 := rfl
theorem due3 : due ("   " : Str).cps.toList = 4 := rfl
theorem due10 : due (Txt.mul "(" 10).cps.toList = 10 := by
  rw [show (Txt.mul "(" 10).cps.toList = List.replicate (Int.toNat 10) 40 from mul_one_list 40 10]
  rfl
theorem ok_law {fdT fdB fdL fdD fdU fdC fdR : FuncData} (F : FnP K "law" iLaw f fd) (T : Txt K mg) (Z : Lwf K fdT fdB fdL fdD fdU fdC) (GR : FnOk P w K mg base (L2.CX P w) 36 (He5.wf K (wC K) "classmethod" "read") fdR ["cls", "text"] (spRead K)) (BR : Binds K fdR ["cls", "text"] []) : FnOk P w K mg base CX0 38 f fd ["_law_script"] (spLaw K) := by
  have GT : FnOk P w K mg base CX0 1 _ fdT ["_law_box_here", "_law_many"] spTake := ok_take Z.ft T
  have BT : Binds K fdT ["_law_box_here", "_law_many"] [] := Z.ft.bindsN fun _ _ _ _ _ _ us hl => match us, hl with | [_, _], _ => rfl
  have GB : FnOk P w K mg base CX0 2 _ fdB ["_law_script", "_law_k"] (spBox K) := ok_box Z.fb T Z.fc
  have BB : Binds K fdB ["_law_script", "_law_k"] [] := Z.fb.bindsN fun _ _ _ _ _ _ us hl => match us, hl with | [_, _], _ => rfl
  have GL : FnOk P w K mg base CX0 2 _ fdL ["_law_box_here"] spLine := ok_line Z.fl T Z.ft
  have BL : Binds K fdL ["_law_box_here"] [] := Z.fl.bindsN fun _ _ _ _ _ _ us hl => match us, hl with | [_], _ => rfl
  have GD : FnOk P w K mg base CX0 37 _ fdD ["_law_line_here"] spTold := ok_told Z.fd T GR BR
  have BD : Binds K fdD ["_law_line_here"] [] := Z.fd.bindsN fun _ _ _ _ _ _ us hl => match us, hl with | [_], _ => rfl
  have GU : FnOk P w K mg base CX0 1 _ fdU ["_law_line_here"] spDue := ok_due Z.fu T
  have BU : Binds K fdU ["_law_line_here"] [] := Z.fu.bindsN fun _ _ _ _ _ _ us hl => match us, hl with | [_], _ => rfl
  refine F.ok sc_law (fun vs H Q E h => ?_) (fun cdv A outer s H vs Q E hr h => ?_)
  · obtain ⟨l, ns, rfl, _⟩ := h
    rfl
  · obtain ⟨l, ns, rfl, hs, k⟩ := h
    have nd := sc_law.nd
    have hr1 : Room 1 _ := hr.mono (by decide)
    have hr2 : Room 2 _ := hr.mono (by decide)
    refine ⟨_, PSs.nox (pss_cons (ps_for PassesOwn.never rfl (pi_range1 (by rfl) (T.fr "range") (pa_cons (pe_callB (call_max2 rfl) (by rfl) (T.fr "max") (by decide +kernel) (pa_cons pe_int (pa_cons (pe_callB (call_min2 rfl) (by rfl) (T.fr "min") (by decide +kernel) (pa_cons pe_int (pa_cons (pe_callB call_len_seq (by rfl) (T.fr "len") boot_len (pa_cons (pv 0) pa_nil)) pa_nil))) pa_nil))) pa_nil)) (pg_name (i := 1) nd rfl (.inl rfl)) (pss_cons (ps_set (i := 2) nd rfl (.inl rfl) (pe_call GB hr2 (by rfl) (T.df "_law_box" iBox) Z.fb.kp BB .nil pass0 (pa_cons (pv 0) (pa_cons (pv 1) pa_nil)))) (pss_one (ps_for PassesOwn.never rfl (pi_range1 (by rfl) (T.fr "range") (pa_cons pe_int pa_nil)) (pg_name (i := 3) nd rfl (.inl rfl)) (pss_cons (ps_set (i := 4) nd rfl (.inl rfl) (pe_call GL hr2 (by rfl) (T.df "_law_line" iLine) Z.fl.kp BL .nil pass0 (pa_cons (pv 2) pa_nil))) (pss_cons (ps_if (pt_cmpR op_ne (pe_call GD hr (by rfl) (T.df "_law_told" iTold) Z.fd.kp BD .nil pass0 (pa_cons (pv 4) pa_nil)) (pe_call GU hr1 (by rfl) (T.df "_law_due" iDue) Z.fu.kp BU .nil pass0 (pa_cons (pv 4) pa_nil)) (nomark _)) (pss_one (ps_ret pe_bl)) pss_nil) (pss_cons (ps_set (i := 5) nd rfl (.inl rfl) (pe_call GT hr1 (by rfl) (T.df "_law_take" iTake) Z.ft.kp BT .nil pass0 (pa_cons (pv 2) (pa_cons (pe_op op_add (pe_callB call_len_str (by rfl) (T.fr "len") boot_len (pa_cons (pv 4) pa_nil)) pe_int) pa_nil)))) (pss_one (ps_for PassesOwn.never rfl (pi_list (pe_lst (pa_cons (pe_slice sl_str (pv 4) po_none (po_some (pv 5))) (pa_cons (pe_op op_add_str (pe_slice sl_str (pv 4) po_none (po_some (pv 5))) (pe_slice sl_str (pv 4) (po_some (pe_op op_add (pv 5) pe_int)) po_none)) (pa_cons (pe_slice sl_str (pv 4) (po_some (pv 5)) po_none) pa_nil))))) (pg_name (i := 6) nd rfl (.inl rfl)) (pss_one (ps_if (pt_cmpR op_ne (pe_call GD hr (by rfl) (T.df "_law_told" iTold) Z.fd.kp BD .nil pass0 (pa_cons (pv 6) pa_nil)) (pe_call GU hr1 (by rfl) (T.df "_law_due" iDue) Z.fu.kp BU .nil pass0 (pa_cons (pv 6) pa_nil)) (nomark _)) (pss_one (ps_ret pe_bl)) pss_nil))))))))))) (pss_one (ps_ret (pe_and (pe_cmpR op_eq (pe_call GD hr (by rfl) (T.df "_law_told" iTold) Z.fd.kp BD .nil pass0 (pa_cons pe_str pa_nil)) pe_int (nomark _)) (pe_and (pe_cmpR op_eq (pe_call GD hr (by rfl) (T.df "_law_told" iTold) Z.fd.kp BD .nil pass0 (pa_cons pe_str pa_nil)) pe_int (nomark _)) (pe_one (pe_cmpR op_eq (pe_call GD hr (by rfl) (T.df "_law_told" iTold) Z.fd.kp BD .nil pass0 (pa_cons (pe_op op_mulS pe_str pe_int) pa_nil)) pe_int (nomark _)))))))), ?_⟩
    have base_ : ∀ {c : Int}, 1 ≤ c → c ≤ 2 → c.toNat ≤ 2 := fun h1 h2 => by omega
    refine ⟨_, rfl, l, _, rfl, .inl hs, _, _, rfl, _, _, rfl, ?_⟩
    generalize hc : (if (if ((ns.map V.int).length : Int) < 2 then ((ns.map V.int).length : Int) else 2) > 1 then (if ((ns.map V.int).length : Int) < 2 then ((ns.map V.int).length : Int) else 2) else 1) = cnt
    have hc1 : 0 ≤ cnt ∧ cnt ≤ 2 := by
      rw [← hc]
      split <;> split <;> omega
    refine ⟨cnt, rfl, by omega, by omega, for_range (lo := 0) (n := cnt.toNat) (fun i σ H' => Same H H' ∧ ∃ y1 y2 y3 y4 y5 y6, σ = [some (V.ref l), y1, y2, y3, y4, y5, y6]) ⟨Same.refl _, none, none, none, none, none, none, rfl⟩ ?_ ?_⟩
    · rintro i σ H1 hi ⟨s1, y1, y2, y3, y4, y5, y6, rfl⟩
      refine ⟨_, rfl, _, rfl, l, ns, i, (by simp), Same.seq s1 hs, by omega, fun b H2 hb s2 bx => ?_⟩
      have s12 := s1.trans s2
      have hbH : H1 b = none := hb
      have kb : ∀ {H'}, Kept b H2 H' → Same H1 H' := fun {H'} kk c o q => kk c o (s2 c o q) (ne_of_none q hbH)
      refine ⟨6, rfl, by decide, by decide, for_range (lo := 0) (n := 6) (fun t σ H' => Kept b H2 H' ∧ BoxK H' b (t * 102) ∧ ∃ z3 z4 z5 z6, σ = [some (V.ref l), some (.int (0 + (i : Nat))), some (V.ref b), z3, z4, z5, z6]) ⟨Kept.refl, bx.mono (by omega), _, _, _, _, rfl⟩ ?_ ?_⟩
      · rintro t σ H3 ht ⟨k3, b3, z3, z4, z5, z6, rfl⟩
        refine ⟨_, rfl, b, t * 102, rfl, b3, by omega, fun H4 z k4 b4 hz => ?_⟩
        have lz2 : z.length ≤ sizeLine := Nat.le_of_lt (lt_line (by omega))
        refine ⟨_, rfl, z, rfl, by omega, fun H5 s5 => ⟨_, rfl, z, rfl, by omega, rfl, _, rfl, ?_⟩⟩
        refine iteNS rfl ?_
        refine ⟨_, rfl, _, rfl, z, rfl, lz2, _, _, rfl, rfl, ?_⟩
        dsimp -proj only [tCons, tC, tNil, List.append_nil]
        refine take_use (m := (z.length : Int) + 1) (b4.same s5) (by omega) (by omega) (by omega) fun d H6 d0 d1 k6 b6 _ => ?_
        have la : (cutS z none (some d)).length ≤ z.length := cutS_length _ _ _
        have lb : (cutS z (some (d + 1)) none).length ≤ z.length := cutS_length _ _ _
        have lc : (cutS z (some d) none).length ≤ z.length := cutS_length _ _ _
        have lab : (cutS z none (some d) ++ cutS z (some (d + 1)) none).length = (cutS z none (some d)).length + (cutS z (some (d + 1)) none).length := by
          show ((cutS z none (some d)).cps ++ (cutS z (some (d + 1)) none).cps).size = (cutS z none (some d)).cps.size + (cutS z (some (d + 1)) none).cps.size
          exact Array.size_append
        refine ⟨_, rfl, _, rfl, _, rfl, z, rfl, lz2, ?_⟩
        refine ⟨_, rfl, _, rfl, _, rfl, z, rfl, lz2, ?_⟩
        refine ⟨_, rfl, _, rfl, _, _, rfl, rfl, _, rfl, z, rfl, lz2, ?_⟩
        refine ⟨_, _, rfl, rfl, Nat.le_of_lt (lt_line (by omega)), ?_⟩
        refine ⟨_, rfl, _, rfl, _, rfl, z, rfl, lz2, ?_⟩
        refine ⟨(by show 3 ≤ sizeLine; decide), fun p hp => ?_⟩
        have k6' : Kept b H2 H6 := (k3.trans k4).trans ((Kept.of s5).trans k6)
        refine ⟨p, rfl, ⟨_, SqL.of upd_same⟩, for_it (walk_list (K := K) (a := p) (xs := [.str (cutS z none (some d)), .str (cutS z none (some d) ++ cutS z (some (d + 1)) none), .str (cutS z (some d) none)])) (fun j σ H' => Same (upd H6 p (.lst [.str (cutS z none (some d)), .str (cutS z none (some d) ++ cutS z (some (d + 1)) none), .str (cutS z (some d) none)])) H' ∧ ∃ z6, σ = [some (V.ref l), some (.int (0 + (i : Nat))), some (V.ref b), some (.int (0 + (t : Nat))), some (.str z), some (.int d), z6]) ⟨Same.refl _, _, rfl⟩ (fun j σ H' _ q => SqL.of (q.1 _ _ upd_same)) ?_ ?_⟩
        · rintro j x σ H7 H8 hj ⟨s7, z7, rfl⟩ ⟨rfl, hx⟩
          have hx : ∃ u : Str, x = .str u ∧ u.length ≤ 500 := by
            have m := List.mem_of_getElem? hx
            simp only [List.mem_cons, List.not_mem_nil, or_false] at m
            rcases m with rfl | rfl | rfl
            · exact ⟨_, rfl, by omega⟩
            · exact ⟨_, rfl, by omega⟩
            · exact ⟨_, rfl, by omega⟩
          obtain ⟨u, rfl, hu⟩ := hx
          refine ⟨_, rfl, u, rfl, by omega, fun H9 s9 => ⟨_, rfl, u, rfl, by omega, rfl, _, rfl, ?_⟩⟩
          exact iteNS rfl ⟨s7.trans s9, _, rfl⟩
        · rintro σ H7 ⟨s7, z7, rfl⟩
          have s67 : Same H6 H7 := (same_new hp).trans s7
          exact ⟨k6'.trans (Kept.of s67), (b6.same s67).mono (by omega), _, _, _, _, rfl⟩
      · rintro σ H3 ⟨k3, b3, z3, z4, z5, z6, rfl⟩
        exact ⟨s1.trans (kb k3), _, _, _, _, _, _, rfl⟩
    · rintro σ H1 ⟨s1, y1, y2, y3, y4, y5, y6, rfl⟩
      refine ⟨_, rfl, by decide, fun H2 s2 => ⟨rfl, _, rfl, ?_⟩⟩
      rw [due0]
      refine iteT ⟨_, rfl, by decide, fun H3 s3 => ⟨rfl, _, rfl, ?_⟩⟩
      rw [due3]
      refine iteT ⟨"(", 10, rfl, rfl, by decide, by decide, by decide, Txt.mul "(" 10, rfl, by decide, fun H4 s4 => ⟨rfl, ?_⟩⟩
      rw [due10]
      exact k H4
end
end KB

set_option Elab.async false
set_option linter.all false
set_option maxRecDepth 100000
set_option maxHeartbeats 0
/-! ## the facts of the top -/
namespace KB
open PySem PySem.Spec PyProof.Rows L2 VX KW
def dvA (K : PySem.W.Frag) : Addr := He.dflAt ("Word", some "__init__") 0 K
def dD (x : Str) (i : Nat) : He5.DefA := ⟨fun K => He.ga K x, x, x, defArgs (top i), defBody (top i), defScope (top i), [], []⟩
def dM (m : Str) (st : Stmt) (dfl : List He.Dv) : He5.DefA := ⟨fun K => He.ma K (wC K) m, m, ("Word." : Str) ++ m, defArgs st, defBody st, defScope st, dfl, []⟩
def dC : He5.DefA := ⟨fun K => He.ma K (He.ga K "BadColumn") "__init__", "__init__", "BadColumn.__init__", defArgs (inClass (top iBadC) 0), defBody (inClass (top iBadC) 0), defScope (inClass (top iBadC) 0), [], []⟩
def dR : He5.DefA := ⟨fun K => He5.wf K (wC K) "classmethod" "read", "read", "Word.read", defArgs sWR, defBody sWR, defScope sWR, [], []⟩
def fn : List He5.DefA := defs.map (fun p => dD p.1 p.2) ++ [dM "__init__" sWI [.adr dvA], dM "__add__" sWA [], dM "__and__" sWB [], dC, dR]
def glos : List Str := ["LEAVES", "JOINTS", "Word", "BadColumn"]
def fa : List He.Fa := (glos.map He.Fa.glo) ++ (defs.map fun p => He.Fa.glo p.1) ++ free.map He.Fa.free ++ [.int "MOST_OPEN" 9, .cls "Word", .noat "Word" "_sign", .noat "Word" "_parts", .mkr "Word", .exm "BadColumn" "BadColumn" true]
/-- an empty tuple stands at a -/
def nilB (K : PySem.W.Frag) (a : Addr) : Bool := match K.lookup a with
  | some ⟨.type c, _, .seq its _, _⟩ => decide (c = "tuple") && decide (its.size = 0)
  | _ => false
theorem nilB_ok {K : PySem.W.Frag} {a : Addr} (h : nilB K a = true) (H : Hp) : SqT K H a [] := by
  unfold nilB at h
  cases q : K.lookup a with
  | none => rw [q] at h; cases h
  | some o =>
    obtain ⟨oc, od, dt, osl⟩ := o
    rw [q] at h
    cases oc with
    | type c =>
      cases dt with
      | seq its n =>
        obtain ⟨h1, h2⟩ := He.ba (show (decide (c = "tuple") && decide (its.size = 0)) = true from h)
        have e : its = #[] := Array.eq_empty_of_size_eq_zero (of_decide_eq_true h2)
        subst e
        exact .inr ⟨_, #[], n, q, congrArg Value.type (of_decide_eq_true h1), rfl, by simp, .nil⟩
      | _ => cases h
    | _ => cases dt <;> cases h
def clB (K : PySem.W.Frag) : Bool := PySem.W.readsIn K (wC K) (.type "type") && (He.eqO (PySem.W.specialIn K (.ref (wC K)) "__getattribute__") (some (some (.builtin "type.__getattribute__"))) && (He5.wrapB K (wC K) "classmethod" "classmethod.__get__" "read" && (PySem.W.fnIn K (He5.wf K (wC K) "classmethod" "read") && (PySem.W.selfFirst K (wC K) &&
  (He.eqO (PySem.W.findIn K (.ref (wC K)) "__add__") (some (some (.ref (He.ma K (wC K) "__add__")))) && (PySem.W.isFn K (.ref (He.ma K (wC K) "__add__")) && (He.eqO (PySem.W.findIn K (.ref (wC K)) "__and__") (some (some (.ref (He.ma K (wC K) "__and__")))) && PySem.W.isFn K (.ref (He.ma K (wC K) "__and__")))))))))
def ex (K : PySem.W.Frag) : Bool := (exB K (He.ga K "BadColumn") && inB K (He.ga K "BadColumn") "column") && ((He.tupB K "LEAVES" [.str "a", .str "b", .str "c", .str "0", .str "1"] && He.tupB K "JOINTS" [.str "+", .str "&"]) && (nilB K (dvA K) && clB K))
theorem txt_mk {K : PySem.W.Frag} {h : Heap} {mg : Str → Option Value} (X : K.In h) (G : h.Ns mainGlobals mg) (c : He5.SaysA fa fn K) (e : ex K = true) : Txt K mg := by
  have F : ∀ f ∈ fa, f.ok K = true := fun f hf => by
    obtain ⟨i, hi, e⟩ := List.mem_iff_getElem.mp hf
    exact c.fact i (f := f) (by rw [List.getElem?_eq_getElem hi, e])
  obtain ⟨e1, e⟩ := He.ba e
  obtain ⟨e2, e3⟩ := He.ba e
  obtain ⟨e4, e5⟩ := He.ba e1
  obtain ⟨e6, e7⟩ := He.ba e2
  obtain ⟨e8, e9⟩ := He.ba e3
  obtain ⟨c1, e9⟩ := He.ba e9
  obtain ⟨c2, e9⟩ := He.ba e9
  obtain ⟨c3, e9⟩ := He.ba e9
  obtain ⟨c4, e9⟩ := He.ba e9
  obtain ⟨c5, e9⟩ := He.ba e9
  obtain ⟨c6, e9⟩ := He.ba e9
  obtain ⟨c7, e9⟩ := He.ba e9
  obtain ⟨c8, c9⟩ := He.ba e9
  have m1 : ∀ {f}, f ∈ glos.map He.Fa.glo → f ∈ fa := fun h => List.mem_append_left _ (List.mem_append_left _ (List.mem_append_left _ h))
  have m2 : ∀ {f}, f ∈ (defs.map fun p => He.Fa.glo p.1) → f ∈ fa := fun h => List.mem_append_left _ (List.mem_append_left _ (List.mem_append_right _ h))
  have m3 : ∀ {f}, f ∈ KB.free.map He.Fa.free → f ∈ fa := fun h => List.mem_append_left _ (List.mem_append_right _ h)
  have m4 : ∀ {f}, f ∈ [He.Fa.int "MOST_OPEN" 9, .cls "Word", .noat "Word" "_sign", .noat "Word" "_parts", .mkr "Word", .exm "BadColumn" "BadColumn" true] → f ∈ fa := fun h => List.mem_append_right _ h
  have g : ∀ x ∈ glos, mg x = some (.ref (He.ga K x)) := fun x hx => He.glo_ok X G (F _ (m1 (List.mem_map.mpr ⟨x, hx, rfl⟩)))
  have xf := exB_ok e4
  exact {
    dfs := fun p hp => He.glo_ok X G (F _ (m2 (List.mem_map.mpr ⟨p, hp, rfl⟩)))
    free := fun x hx => He.free_ok X G (F _ (m3 (List.mem_map.mpr ⟨x, hx, rfl⟩)))
    leaves := g _ (.head _)
    joints := g _ (.tail _ (.head _))
    ltup := fun H => He.tupB_ok e6 H
    jtup := fun H => He.tupB_ok e7 H
    most := He.int_ok X G (F _ (m4 (.head _)))
    word := g _ (.tail _ (.tail _ (.head _)))
    cls := He.cls_ok (F _ (m4 (.tail _ (.head _))))
    fs := He.noat_ok (F _ (m4 (.tail _ (.tail _ (.head _)))))
    fp := He.noat_ok (F _ (m4 (.tail _ (.tail _ (.tail _ (.head _))))))
    mks := He.mkr_ok (F _ (m4 (.tail _ (.tail _ (.tail _ (.tail _ (.head _)))))))
    cr := ⟨c1, He.eqO_ok c2⟩
    cm := He5.cmet_of c3 c4
    first := c5
    add := He.eqO_ok c6
    addf := c7
    and := He.eqO_ok c8
    andf := c9
    badc := g _ (.tail _ (.tail _ (.tail _ (.head _))))
    exf := xf
    inf := inB_ok xf e5
    exm := He.exm_ok (F _ (m4 (.tail _ (.tail _ (.tail _ (.tail _ (.tail _ (.head _)))))))) }
abbrev R : PySem.W.OpenRow := PySem.W.OpenLaw.row PySem.Challenge.rw_handspaces_k11_texts_refused
abbrev hk : PySem.W.Hook := hookMA 6 fa fn ex
def ob (s : PySem.W.SharedT) : He.AlD × Bool := obsMA 6 fa fn ex (HandSHeadRun.getT s)
theorem ob_eq (s : PySem.W.SharedT) : ob s = hk.obs s.abs := obsMA_eq (HandSHeadRun.getT_eq s)
def loose : List Str := (["_wall", "HandError", "BadSign", "BadColumn", "LEAVES", "JOINTS", "MOST_OPEN", "leaves", "part_text", "Word"] : List Str) ++ (defs.map (·.1)).dropLast
set_option maxRecDepth 1000000 in
theorem run (w : World) : HandSHeadRun.RunEq R (PySem.W.view R.prog [25]) hk ob 60000 loose w := by
  intro os
  kernel_rfl
end KB

set_option Elab.async false
set_option linter.all false
set_option maxRecDepth 100000
set_option maxHeartbeats 0
/-! ## the end -/
namespace KB
open PySem PySem.Spec PyProof.Rows L2 VX KW
theorem facts {P : Program} {w : World} {K : PySem.W.Frag} {h : Heap} {mg : Str → Option Value} {f : Addr} (X : K.In h) (G : h.Ns mainGlobals mg) (hfa : mg ("law" : Str) = some (.ref f)) (c : He5.SaysA fa fn K) (e : ex K = true) :
    ∃ fd : FuncData, (∀ (s : Shared) (v : Value), BindsTo s fd ⟨[v], []⟩ [("_law_script", v)]) ∧ ∀ base : Heap, K.In base → base.Ns mainGlobals mg → FnOk P w K mg base CX0 38 f fd ["_law_script"] (spLaw K) := by
  have T : Txt K mg := txt_mk X G c e
  have at_ : ∀ d ∈ fn, ∃ fd, FunD K d.name d.qual d.params d.body d.scope (d.dvs K) (d.kws K) (d.at_ K) fd := fun d hd => by
    obtain ⟨i, hi, e⟩ := List.mem_iff_getElem.mp hd
    exact c.def_ i (d := d) (by rw [List.getElem?_eq_getElem hi, e])
  have D : ∀ p ∈ defs, ∃ fd, FnP K p.1 p.2 (He.ga K p.1) fd := fun p hp => at_ (dD p.1 p.2) (List.mem_append_left _ (List.mem_map.mpr ⟨p, hp, rfl⟩))
  have M : ∀ d ∈ [dM "__init__" sWI [.adr dvA], dM "__add__" sWA [], dM "__and__" sWB [], dC, dR], ∃ fd, FunD K d.name d.qual d.params d.body d.scope (d.dvs K) (d.kws K) (d.at_ K) fd := fun d hd => at_ d (List.mem_append_right _ hd)
  have ee := hfa.symm.trans (T.dfs ("law", iLaw) (by decide +kernel))
  cases ee
  obtain ⟨fd, F⟩ := D ("law", iLaw) (by decide +kernel)
  have b := FunD.bindsA (ps := ["_law_script"]) F fun _ _ _ _ _ _ us hl => match us, hl with | [_], _ => rfl
  obtain ⟨_, Ff⟩ := D ("fits", iFits) (by decide +kernel)
  obtain ⟨_, Fc⟩ := D ("check_text", iCheck) (by decide +kernel)
  obtain ⟨_, Fs⟩ := D ("read_sum", iSum) (by decide +kernel)
  obtain ⟨_, Fi⟩ := D ("read_intersection", iInter) (by decide +kernel)
  obtain ⟨_, Fp⟩ := D ("read_part", iPart) (by decide +kernel)
  obtain ⟨_, F1⟩ := D ("_law_cell", iCell) (by decide +kernel)
  obtain ⟨_, F2⟩ := D ("_law_box", iBox) (by decide +kernel)
  obtain ⟨_, F3⟩ := D ("_law_take", iTake) (by decide +kernel)
  obtain ⟨_, F4⟩ := D ("_law_due", iDue) (by decide +kernel)
  obtain ⟨_, F5⟩ := D ("_law_line", iLine) (by decide +kernel)
  obtain ⟨_, F6⟩ := D ("_law_told", iTold) (by decide +kernel)
  obtain ⟨_, Wi⟩ := M (dM "__init__" sWI [.adr dvA]) (.head _)
  obtain ⟨_, Wa⟩ := M (dM "__add__" sWA []) (.tail _ (.head _))
  obtain ⟨_, Wb⟩ := M (dM "__and__" sWB []) (.tail _ (.tail _ (.head _)))
  obtain ⟨_, Wc⟩ := M dC (.tail _ (.tail _ (.tail _ (.head _))))
  obtain ⟨_, Wr⟩ := M dR (.tail _ (.tail _ (.tail _ (.tail _ (.head _)))))
  refine ⟨fd, fun s v => b s [v] rfl, fun base _ _ => ?_⟩
  have e8 := (He.ba (He.ba (He.ba e).2).2).1
  have Zw : Wif K _ (.ref (dvA K)) _ := ⟨Wi, Ff, ⟨dvA K, rfl, nilB_ok e8⟩⟩
  have GBc : FnOk P w K mg base CX0 1 (He.ma K (He.ga K "BadColumn") "__init__") _ ["self", "column"] (spIni K (He.ga K "BadColumn") "column") := ok_ini Wc ⟨rfl, rfl, rfl, by decide +kernel, rfl, by decide +kernel, by decide +kernel⟩ rfl T.inf (by decide) (by decide)
  have BBc := FunD.bindsN (ps := ["self", "column"]) Wc fun _ _ _ _ _ _ us hl => match us, hl with | [_, _], _ => rfl
  obtain ⟨_, Frw⟩ := D ("read_word", iRW) (by decide +kernel)
  have GR := ok_read (P := P) (w := w) (mg := mg) (base := base) Wr T ⟨Zw, Fp, Fi, Fs, Wa, Wb⟩ Frw Fc GBc BBc
  have BR := FunD.bindsN (ps := ["cls", "text"]) Wr fun _ _ _ _ _ _ us hl => match us, hl with | [_, _], _ => rfl
  exact ok_law F T ⟨F3, F2, F5, F6, F4, F1⟩ GR BR
end KB
open PySem PySem.W PySem.Calls PyProof.Rows
set_option maxRecDepth 100000 in
set_option maxHeartbeats 0 in
theorem PySem.Challenge.cw_handspaces_k11_texts_refused_holds : PySem.Challenge.rw_handspaces_k11_texts_refused.Holds := by
  w_on; o_law
  refine HandSHeadRun.head_any (r := KB.R) (q := view KB.R.prog [25]) (H := KB.hk) (ob := KB.ob) (M := 60000) (loose := KB.loose) (d := HandSHeadRun.topDef KB.R.prog 25) (kwd := []) KB.ob_eq
    (by kernel_rfl) (fun s => by kernel_rfl) KB.run (by kernel_rfl) (by kernel_rfl) (by kernel_rfl) (by rfl) (by first | assumption | decide +kernel) (by decide +kernel) ⟨rfl, rfl, rfl, rfl, rfl, by decide +kernel⟩ ?hw ?hc
  case hw => w_witness2
  case hc =>
    refine L2.walk_ofE (l := PySem.Challenge.rw_handspaces_k11_texts_refused) (n := 63) (k := 38) (CX := L2.CX0) (x := "_law_script") rfl (by decide) (by kernel_rfl) ⟨rfl, by decide, by decide⟩ ?F (fun _ _ _ _ h => h)
    intro w mg fa h Y G hmg0
    obtain ⟨K, KX, c, e⟩ := Y
    have hmg : mg ("law" : PySem.Str) = some (.ref fa) := by
      have q : (HandSHeadRun.topDef KB.R.prog 25).name = ("law" : PySem.Str) := by kernel_rfl
      rw [← q]
      exact hmg0
    obtain ⟨fd, hb, hF⟩ := KB.facts (P := (PySem.Challenge.rw_handspaces_k11_texts_refused).prog) (w := w) KX G hmg c e
    exact ⟨K, fd, KB.spLaw K, KX, hb, fun H a ns hl _ hS => ⟨a, ns, rfl, hS, fun _ => rfl⟩, hF⟩
