import PyProof.Rows.All
import Wide.All
import OpenK.AllK
import Wide.FinOn
import HandS.ForMost
import HandS.Exc
import HandS.TryOnly
import HandS.ExcOwn
import HandS.WordsExc
import HandS.TryMany
import HandS.ExcInit
import HandS.ExcField
import HandS.ExcIs
import HandS.ExcValue
import HandS.More
import HandS.IsInst
import HandS.DeepEq
import HandS.Style
import HandS.Conv
import HandS.NoneIn
import HandS.Flow
import KE.KIsAll
import KE.KTryMore
import HandS.Defaults
import HandS.Zip
import HandS.Walk
import KE.GoesMore
import KE.GoesEnum
import KE.GoesZip
import HandS.Replace
import HandS.ReplaceDef
import HandS.ReplaceLit
import KE.GoesEnumKw
import OpenK.KMeth
import PyProof.Rows.CallKwBuiltin
import HandS.ClsMeth
import HandS.HeadNt
import HandS.LawCells
import HandS.Dict
import KE.KDictDisplayH
import HandS.HeadEnd
import HandS.HeadHook1
import HandS.HeadHook2
import HandS.Wide
import HandS.Star
import HandS.Property
import HandS.TupLen
import HandS.OwnEq
import KE.KStateDown
import Lean
import HandS.Head0
import HandS.Head1
import HandS.Head2
import PySem.Challenge.RW_handspaces_k07_images
set_option Elab.async false
set_option linter.all false
set_option maxRecDepth 100000
set_option maxHeartbeats 2000000
namespace VX
open PySem PySem.Spec PyProof.Rows L2
/-! ### ints: a power of a greater base -/
def CPw (i j : Int) : Prop := 0 ≤ j ∧ (Builtin.Int.intBits i : Int) * j ≤ 2 ^ 27
theorem op_pw {X : Cx} : OpR X (binaryOp .Pow) (rI CPw fun i j => .int (i ^ j.toNat)) :=
  opI fun _ _ _ _ _ _ _ c q => pow_int c.1 c.2 q
/-! ### repr of data -/
inductive DX (K : PySem.W.Frag) (H : Hp) : V → PyData → Prop where
  | dp {v : V} {d : PyData} (h : Dp K H v d) : DX K H v d
  | dk {a : Addr} {x : Str} {i : Int} (h : H a = some (.dK [(Sum.inr x, .int i)])) : DX K H (.ref a) (.dict [(.str x, .int i)])
structure Shown (K : PySem.W.Frag) (H : Hp) (v : V) (d : PyData) : Prop where
  dx : DX K H v d
  sh : d.showable = true
  dep : d.depth ≤ 8
  sz : d.shown.length ≤ sizeLine
theorem kv_one {kvs : List (Key × V)} {vs : List (Key × Value)} {x : Str} {i : Int} (r : KV kvs vs) (e : kvs = [(Sum.inr x, V.int i)]) : ∃ t, vs = [(Sum.inr x, Value.int i t)] := by
  subst e
  cases r with
  | cons h t =>
    cases t
    rename_i b
    obtain ⟨k, u⟩ := b
    obtain ⟨h1, h2⟩ := h
    obtain ⟨t, h2⟩ := h2
    dsimp only at h1 h2
    subst h1 h2
    exact ⟨t, rfl⟩
theorem DX.reads {X : Cx} {pins : List (Addr × Obj)} {σ : L2.St} {H : Hp} {s : Shared} (I : Inv X pins σ H s) {d : PyData} {v : V} {u : Value} (h : DX X.K H v d) (r : RelV v u) :
    ∃ as, Reads s.heap u d as ∧ (d.hasDict = true → sysModules ∉ as) := by
  cases h with
  | dp h =>
    obtain ⟨as, q⟩ := Dp.reads I d v u h r
    refine ⟨as, q, fun hd => ?_⟩
    exfalso
    have no : ∀ (d : PyData) (v : V), Dp X.K H v d → d.hasDict = false := by
      intro d
      refine PyData.rec (motive_1 := fun d => ∀ v, Dp X.K H v d → d.hasDict = false) (motive_2 := fun ds => ∀ vs, DpAll X.K H vs ds → PyData.hasDictAll ds = false)
        (motive_3 := fun _ => True) (motive_4 := fun _ => True) ?_ ?_ ?_ ?_ ?_ ?_ ?_ ?_ ?_ ?_ ?_ ?_ d
      all_goals first
        | (intros; simp only [PyData.hasDict]; done)
        | (intro xs ih v h; simp only [PyData.hasDict]; cases h with | lst _ ha => exact ih _ ha)
        | (intro xs ih v h; simp only [PyData.hasDict]; cases h with | tup _ ha => exact ih _ ha)
        | (intro xs ih v h; cases h; done)
        | (intro vs h; simp only [PyData.hasDictAll]; done)
        | (intro x xs ih1 ih2 vs h; cases h with | cons h1 h2 => simp only [PyData.hasDictAll, ih1 _ h1, ih2 _ h2, Bool.or_self])
        | (intros; trivial)
    rw [no d v h] at hd
    cases hd
  | @dk a x i h =>
    cases (show u = Value.ref a from r)
    obtain ⟨_, ns, vs, rv, o, es, ep, e, ex, hd, hk, hp, _⟩ := (show ObjOk X.prog X.w H s.heap a (.dK [(Sum.inr x, .int i)]) from I.hok a _ h)
    obtain ⟨t, rfl⟩ := kv_one rv rfl
    obtain ⟨l⟩ := es
    cases hp with
    | @cons en kv tl tk h1 h2 h3 =>
      cases h3
      obtain ⟨t', ek⟩ := Value.isStrOf_shape (x := x) (v := en.key) (show Value.isStrOf x en.key = true from h1)
      have ev : en.val = Value.int i t := h2
      refine ⟨[a] ++ ([] ++ []) ++ ([] ++ []), Reads.dict (as := [] ++ []) (bs := [] ++ []) e ex.1 hd (ReadsAll.cons ?_ .nil) (ReadsAll.cons ?_ .nil), fun _ => ?_⟩
      · show Reads s.heap en.key (.str x) []
        rw [ek]; exact Reads.str x t'
      · show Reads s.heap en.val (.int i) []
        rw [ev]; exact Reads.int i t
      · intro m
        have e' : sysModules = a := by simpa using m
        rw [← e'] at ns
        exact absurd ns (by simp)
theorem call_repr {X : Cx} (hg : X.A.guards = some []) (hu : X.A.units + 64 < cLine) : CallR X (.builtin "repr") (fun xs H Q => ∃ v d, xs = [v] ∧ Shown X.K H v d ∧ Q (.str d.shown) H) := by
  intro pins s σ H xs us Q I r h
  obtain ⟨v, d, rfl, S, q⟩ := h
  obtain ⟨u, rfl, ru⟩ := vals1 r
  obtain ⟨as, R, hs⟩ := S.dx.reads I ru
  have leaf : ∀ {z : Str} {s' : Shared}, s' = { s with toks := s.toks + 1 } → Q (.str z) H → EP X pins σ Q (.str z s.toks) s' := fun {z s'} e q => by
    subst e
    exact ⟨.str z, H, I.tok _, ⟨_, rfl⟩, q⟩
  have sh := S.sh
  have sz := S.sz
  have dp := S.dep
  clear S ru r
  cases R with
  | none => exact P.repr_of_none (leaf rfl (by simpa only [PyData.shown] using q))
  | bool b => exact P.repr_of_bool (leaf rfl (by simpa only [PyData.shown] using q))
  | int i t => exact P.repr_of_int (by simpa [PyData.showable] using sh) (leaf rfl (by simpa only [PyData.shown] using q))
  | str x t => exact P.repr_of_str (leaf rfl (by simpa only [PyData.shown] using q)) (by simpa only [PyData.shown] using sz)
  | list a b c e => exact repr_of_reads' (Reads.list a b c e) sh hs hg (by omega) (fun _ _ z => z) (fun h' u tk k => ⟨.str _, H, I.kept k, ⟨_, rfl⟩, q⟩) sz
  | tuple a b c e => exact repr_of_reads' (Reads.tuple a b c e) sh hs hg (by omega) (fun _ _ z => z) (fun h' u tk k => ⟨.str _, H, I.kept k, ⟨_, rfl⟩, q⟩) sz
  | dict a b c e f => exact repr_of_reads' (Reads.dict a b c e f) sh hs hg (by omega) (fun _ _ z => z) (fun h' u tk k => ⟨.str _, H, I.kept k, ⟨_, rfl⟩, q⟩) sz
/-! ### lists of the very same things -/
def OneV (v : V) : Prop := flatB v = true ∨ ∃ c, v = .ref c
theorem one_eq {A : Around} {s : Shared} {v : V} {u u' : Value} (o : OneV v) (r : RelV v u) (r' : RelV v u') : SeqAt.EqAt A s u u' true := by
  rcases o with o | ⟨c, rfl⟩
  · exact eqAt_same r r' o
  · cases (show u = Value.ref c from r)
    cases (show u' = Value.ref c from r')
    exact SeqAt.EqAt.same _
theorem all_one {A : Around} {s : Shared} : ∀ {xs : List V} {us ws : List Value}, (∀ v ∈ xs, OneV v) → Vals xs us → Vals xs ws → ∀ j (h1 : j < us.length) (h2 : j < ws.length), SeqAt.EqAt A s us[j] ws[j] true
  | [], _, _, _, .nil, .nil, j, h1, _ => absurd h1 (Nat.not_lt_zero j)
  | x :: xs, _, _, o, .cons a b, .cons a' b', 0, _, _ => one_eq (o x List.mem_cons_self) a a'
  | x :: xs, _, _, o, .cons a b, .cons a' b', j + 1, h1, h2 => all_one (fun v hv => o v (List.mem_cons_of_mem _ hv)) b b' j (Nat.lt_of_succ_lt_succ h1) (Nat.lt_of_succ_lt_succ h2)
def rSame (K : PySem.W.Frag) (b : Bool) : R2 := fun x y H Q => ∃ p q xs, x = .ref p ∧ y = .ref q ∧ SqL K H p xs ∧ SqL K H q xs ∧ (∀ v ∈ xs, OneV v) ∧ Q (.bl b) H
theorem op_neSame {X : Cx} (hu : X.A.units < cLine) : OpR X (compareOp .NotEq) (rSame X.K false) := by
  intro pins s σ H x y v u Q I rx ry h
  obtain ⟨p, q, xs, rfl, rfl, hp, hq, ho, hQ⟩ := h
  cases (show v = Value.ref p from rx)
  cases (show u = Value.ref q from ry)
  obtain ⟨us, r1, p1, _⟩ := I.list hp
  obtain ⟨ws, r2, p2, _⟩ := I.list hq
  have hsz : us.toArray.size = ws.toArray.size := by
    rw [List.size_toArray, List.size_toArray, ← r1.length, ← r2.length]
  refine SeqAt.RcNeAt.lists (e := fun _ => true) p1.isList p2.isList hsz hu (fun j h1 h2 => ?_) _ _ _ _ ?_
  · have k := all_one (A := X.A.in1) (s := s) ho r1 r2 j (by simpa using h1) (by simpa using h2)
    simpa using k
  · rw [show ((List.range us.toArray.size).all fun _ => true) = true from List.all_eq_true.mpr fun _ _ => rfl]
    exact ⟨.bl false, H, I, rfl, hQ⟩
theorem op_eqSame {X : Cx} (hu : X.A.units < cLine) : OpR X (compareOp .Eq) (rSame X.K true) := by
  intro pins s σ H x y v u Q I rx ry h
  obtain ⟨p, q, xs, rfl, rfl, hp, hq, ho, hQ⟩ := h
  cases (show v = Value.ref p from rx)
  cases (show u = Value.ref q from ry)
  obtain ⟨us, r1, p1, _⟩ := I.list hp
  obtain ⟨ws, r2, p2, _⟩ := I.list hq
  have hsz : us.toArray.size = ws.toArray.size := by
    rw [List.size_toArray, List.size_toArray, ← r1.length, ← r2.length]
  refine SeqAt.RcAt.lists (e := fun _ => true) p1.isList p2.isList hsz hu (fun j h1 h2 => ?_) _ _ _ _ ?_
  · have k := all_one (A := X.A.in1) (s := s) ho r1 r2 j (by simpa using h1) (by simpa using h2)
    simpa using k
  · rw [show ((List.range us.toArray.size).all fun _ => true) = true from List.all_eq_true.mpr fun _ _ => rfl]
    exact ⟨.bl true, H, I, rfl, hQ⟩
end VX

set_option Elab.async false
set_option linter.all false
set_option maxRecDepth 100000
set_option maxHeartbeats 4000000
/-! exceptions as values -/
namespace VX
open PySem PySem.Spec PyProof.Rows L2
section
variable {X : Cx} {pins : List (Addr × Obj)} {σ : L2.St} {H : Hp} {s s' : Shared}
/-- the same state, the heap grown -/
theorem Inv.up (I : L2.Inv X pins σ H s) (k : ∀ b o, s.heap.get? b = some o → s'.heap.get? b = some o) (ho : s'.os = s.os) (hb : AllBare s'.gens) : L2.Inv X pins σ H s' :=
  I.call' (ch := []) ho (Un.kept k) (I.hok.kept k) hb fun b z => absurd z (by simp)
/-- the same state, the heap grown by one thing that is tracked from now on -/
theorem Inv.upA {a : Addr} {o : HO} (I : L2.Inv X pins σ H s) (k : ∀ b o, s.heap.get? b = some o → s'.heap.get? b = some o) (n : s.heap.get? a = none) (na : H a = none) (new : ObjOk X.prog X.w (upd H a o) s'.heap a o) (ho : s'.os = s.os) (hb : AllBare s'.gens) :
    L2.Inv X pins σ (upd H a o) s' :=
  I.call' (ch := []) ho (Un.laidN k n na) (I.hok.laidN k na new) hb fun b z => absurd z (by simp)
end
/-- an exception that stands at a, of the class cls, its own dict d -/
def ExD (cls : Value) (d : Option Addr) (a : Addr) : HO := .ext fun h => ∃ (oe : Obj) (vs : Array Value), h.get? a = some oe ∧ Zc cls d oe ∧ oe.data = .fields vs
theorem exD_ok {P : Program} {w : World} {H : Hp} {h : Heap} {a : Addr} {cls : Value} {d : Option Addr} {oe : Obj} {vs : Array Value} (e : h.get? a = some oe) (z : Zc cls d oe) (q : oe.data = .fields vs) : ObjOk P w H h a (ExD cls d a) :=
  ⟨⟨oe, vs, e, z, q⟩, ⟨oe, e⟩, fun _ _ ⟨o, v, p, r⟩ k => ⟨o, v, k o p, r⟩⟩
/-- C(..), the exception itself -/
theorem pe_exV {X : Cx} {e : Expr} {t : L2.St → Hp → XK → Prop} (he : PMk X e t) : PE X e (fun σ H Q => t σ H fun cls d H1 => ∀ a, H1 a = none → Q (.ref a) (upd H1 a (ExD cls d a))) := by
  refine ⟨fun pins s σ H Q I h => ?_⟩
  refine thn (he pins s σ H _ I h) fun u s1 hu => ?_
  obtain ⟨a, oe, vs, sI, H', cls, d, rfl, J, k, n, ha, hz, hd, _, na, os, ag, _, q⟩ := hu
  exact ⟨.ref a, _, Inv.upA J k n na (exD_ok ha hz hd) os ag, rfl, q a na⟩
/-- C(..).n -/
theorem pe_exGet {X : Cx} {e : Expr} {n : Str} {pos : Pos} {t : L2.St → Hp → XK → Prop} (he : PMk X e t) (hb : attributeBase e n X.env (eval e X.env) = eval e X.env := by rfl) :
    PE X (.Attribute e n pos) (fun σ H Q => t σ H fun cls d H1 => ∃ (C dd : Addr) (fs : List (Str × V)) (v : V), cls = .ref C ∧ d = some dd ∧ XfC X.K C ∧ PySem.W.findIn X.K (.ref C) n = some none ∧ H1 dd = some (.xd fs) ∧ fs.lookup n = some v ∧ Q v H1) := by
  refine ⟨fun pins s σ H Q I h => ?_⟩
  refine attr_of hb (thn (he pins s σ H _ I h) fun u s1 hu => ?_)
  obtain ⟨a, oe, vs, sI, H', cls, d, rfl, J, k, n0, ha, hz, hd, _, na, os, ag, _, C, dd, fs, v, rfl, rfl, T, hno, hx, hl, q⟩ := hu
  have J1 := Inv.up (s' := s1) J k os ag
  obtain ⟨mA, hns, hr⟩ := (show ObjOk X.prog X.w H' s1.heap dd (.xd fs) from J1.hok dd _ hx)
  obtain ⟨od, ho, hlk⟩ := lookIn_ns hns
  obtain ⟨u, hu, ru⟩ := RelO.some_of (v := v) (o := mA n) (by rw [← hl]; exact hr n)
  have it : PySem.W.InstAt s1.heap a oe C (some od) := ⟨ha, hz.1, by unfold PySem.W.notCls; rw [hd] <;> rfl, by rw [hz.2]; exact ho⟩
  exact HandSPX.exc_get J1.kIn it T.ga T.gg T.exC (PySem.W.findObj_own T.hdC hno rfl (by rw [hlk, hu])) (handed_of ru) ⟨v, H', J1.tok _, ru, q⟩
end VX

set_option Elab.async false
set_option linter.all false
set_option maxRecDepth 100000
set_option maxHeartbeats 4000000
/-! isinstance of an exception that may have its own dict -/
namespace VX
open PySem PySem.Spec PySem.Calls PyProof.Rows PySem.W
section
variable {pg : Program} {wd : World} {B : Around} {Er : Value → Shared → Prop} {st : Shared} {F : Frag} {y D : Addr} {oy : Obj} {od : Option Obj}
theorem bindsAt {C : Addr} {nm : Str} {a g : Value} (hc : (clsIn F C).isSome = true) (h1 : findIn F (.ref C) nm = some (some a)) (h2 : specialIn F a "__get__" = some (some g)) (h3 : takesIn F a = some true) : findObj F C od nm = some (.bind g a) := by
  cases e : clsIn F C with
  | none => rw [e] at hc; cases hc
  | some cd => simp [findObj, e, h1, h2, h3]
structure ExIs (F : Frag) (D : Addr) : Prop where
  xc : L2.ExcC F D
theorem clsSome (h : hasDictIn F D = true) : (clsIn F D).isSome = true := by
  obtain ⟨cd, hc, _⟩ := any_some h
  rw [hc]; rfl
theorem class_of_exc {Q : Option Value → Shared → Prop} (T : L2.ExcC F D) (X : F.In st.heap) (I : InstAt st.heap y oy D od) (h : Q (some (.ref D)) { st with toks := st.toks + 1 }) : wpAny (model pg wd) B (getAttr? (.ref y) "__class__") Q Er st := by
  have fb : findObj F D od "__class__" = some (.bind (.builtin "getset_descriptor.__get__") (.builtin "object.__class__")) := bindsAt (clsSome T.hd) T.ha T.hn T.ht
  obtain ⟨hp, gs, dr, tk, os⟩ := st
  have a0 := I.type (M := model pg wd)
  have a1 := looks_findIn (M := model pg wd) X T.hg
  have a2 := looks_findIn (M := model pg wd) X T.hk
  have a3 := looks_find (M := model pg wd) X I fb
  have sb : Looks (model pg wd) hp (isInstance (.ref y) (.type "BaseException")) true := a0.andThen (looks_subIn X T.hs)
  have ne : (Value.builtin "BaseException.__getattribute__" == Value.builtin "object.__getattribute__") = false := by decide +kernel
  have nf : (onTheHeap (Value.ref D) && Value.builtin "BaseException.__getattribute__" == Value.builtin "object.__getattribute__") = false := by rw [ne]; rfl
  unfold getAttr? getAttrBy? getAttrBy
  refine wpAny_bind (wpAny_mkText (wpAny_bind (wpAny_attempt (wpAny_holding (wpAny_bind (a0.at (wpAny_bind (a1.at ?z1))))))))
  case z1 =>
    show wpAny _ _ (if (onTheHeap (Value.ref D) && Value.builtin "BaseException.__getattribute__" == Value.builtin "object.__getattribute__") = true then _ else _) _ _ _
    rw [nf, if_neg Bool.false_ne_true]; unfold getAttrByItsOwn hookBefore
    refine wpAny_bind ?z2
    case z2 =>
      rw [if_pos (show onTheHeap (Value.ref D) = true from rfl)]; refine a2.at (wpAny_bind (wpAny_attempt (wpAny_holding ?z3)))
      case z3 =>
        unfold callGetattribute; rw [show (false && onTheHeap (Value.builtin "BaseException.__getattribute__")) = false from rfl, if_neg Bool.false_ne_true]
        unfold boundAndCalled; rw [PySem.F.excAttr_ValueError.ga.bind (.ref y)]
        refine wpAny_bind (wpAny_pure ?z4)
        case z4 =>
          show wpAny _ _ (call (.builtin "BaseException.__getattribute__") [.ref y, .str "__class__" tk]) _ _ _
          refine wpAny_call (codeAny_call_builtin PySem.F.excAttr_ValueError.ga.plain PySem.F.entry_bexc_ga ?z5)
          case z5 =>
            refine @check_slot (model pg wd) _ _ ⟨hp, gs, dr, tk + 1, os⟩ "BaseException.__getattribute__" "BaseException" "__getattribute__" (.ref y) [.str "__class__" tk] [] _ (by decide +kernel) (by decide +kernel) sb (PySem.F.args_bexc_ga (.ref y) (.str "__class__" tk)) ?z6
            case z6 =>
              unfold Builtin.«object.__getattribute__»
              refine wpAny_bind (wpAny_of_eq (a := ((Value.ref y : Value), [Value.str "__class__" tk])) (by first | rfl | (simp only [slotArgs]; rfl)) (wpAny_bind (wpAny_pure (wpAny_bind (a0.at (wpAny_bind (a3.at ?z7)))))))
              case z7 =>
                show wpAny _ _ (holding [Value.builtin "object.__class__"] (call (.builtin "getset_descriptor.__get__") [.builtin "object.__class__", .ref y, .ref D]) >>= ret) _ _ _
                refine wpAny_bind (wpAny_holding (wpAny_call (class_get (s := ⟨hp, gs, dr, tk + 1, os⟩) (ox := oy) (od := od) X I T.hm (wpAny_pure ?z8))))
                case z8 =>
                  show wpAny _ _ (handedOut (.ref D)) _ _ _
                  rw [handedOut_of (v := .ref D) rfl]
                  first | exact wpAny_pure (wpAny_pure h) | exact wpAny_pure h | exact wpAny_pure (wpAny_bind (wpAny_pure (wpAny_pure h)))
theorem kitx_exd (T : L2.ExcC F D) : KitX F (.ref y) (.ref D) (fun h => ∃ oy od, InstAt h y oy D od) where
  ty := fun _ _ _ ⟨_, _, I⟩ => I.type
  it := fun M h X _ A Q E s k q => by
    have z := clsSome T.hd
    unfold clsIn at z
    split at z
    · rename_i hk
      unfold isType loadHead
      exact wpAny_bind (wpAny_loadPart (k _ _ (X _ _ hk)) (wpAny_pure q))
    · cases z
  ne := fun h tp dd its n sl X htp => by
    cases e : (Value.ref D == Value.ref tp) with
    | false => rfl
    | true =>
      have e2 : D = tp := Value.ref.inj (beq_iff_eq.mp e)
      subst e2
      have z := clsSome T.hd
      unfold clsIn at z
      split at z
      · rename_i hk
        exact nomatch (X _ _ hk).symm.trans htp
      · cases z
  ca := fun X ⟨_, _, I⟩ q => class_of_exc T X I q
end
end VX
namespace VX
open PySem PySem.Spec PyProof.Rows L2
/-- isinstance(e, c) of such an exception -/
def rIsX (K : PySem.W.Frag) : List V → Hp → VK → Prop := fun xs H Q => ∃ (a D : Addr) (d : Option Addr) (c : V) (cv : Value) (b : Bool), xs = [.ref a, c] ∧ ExcC K D ∧ H a = some (ExD (.ref D) d a) ∧ (∀ dd, d = some dd → ∃ o, H dd = some o) ∧ ClsV c cv ∧ PySem.W.kitOne K (.ref D) cv = some b ∧ Q (.bl b) H
theorem call_isX {X : Cx} : CallR X (.builtin "isinstance") (rIsX X.K) := by
  intro pins s σ H xs us Q I r h
  obtain ⟨a, D, d, c, cv, b, rfl, T, ha, hd, hc, e, q⟩ := h
  obtain ⟨u1, u2, rfl, r1, r2⟩ := vals2 r
  have e2 := hc.eq r2
  subst e2
  cases (show u1 = Value.ref a from r1)
  have ok : ObjOk X.prog X.w H s.heap a (.ext fun h => ∃ (oe : Obj) (vs : Array Value), h.get? a = some oe ∧ Zc (.ref D) d oe ∧ oe.data = .fields vs) := I.hok a _ ha
  obtain ⟨⟨oe, vs, ho, hz, hf⟩, _, _⟩ := ok
  have J : ∃ od, PySem.W.InstAt s.heap a oe D od := by
    have nc : PySem.W.notCls oe = true := by unfold PySem.W.notCls; rw [hf] <;> rfl
    cases d with
    | none => exact ⟨none, ho, hz.1, nc, by rw [hz.2]; trivial⟩
    | some dd =>
      obtain ⟨o, hdd⟩ := hd dd rfl
      obtain ⟨ob, hob⟩ := objOk_get (I.hok dd o hdd)
      exact ⟨some ob, ho, hz.1, nc, by rw [hz.2]; exact hob⟩
  obtain ⟨od, J⟩ := J
  exact PySem.W.kia_one (kitx_exd T) I.kIn ⟨oe, od, J⟩ e (fun z => nomatch z) fun tk => ⟨.bl b, H, I.tok tk, rfl, q⟩
end VX

set_option Elab.async false
set_option linter.all false
set_option maxRecDepth 100000
set_option maxHeartbeats 4000000
/-! C(f = v), C an exception's class with its own __init__ -/
namespace VX
open PySem PySem.Calls PySem.HandSPX
section
variable {M : Model} {pg : Program} {wd : World} {B : Around} {Er : Value → Shared → Prop} {R : Result → Shared → Prop} {hh : Heap} {gs : Array GenState} {dr : Drawn} {tk : Nat} {os : OsState}
variable {nm q : Str} {C N : Addr} {bs bm bB : List Value} {hd : Bool} {sn : List Str} {sub : List Value} {ab : Bool} {col : Option Bool} {dd : Option Addr} {m0 m1 m2 m3 m5 : Option Value} {T nid iid : String} {kw : List (Str × Value)}
theorem chkNewK (F : ExcBaseFacts T nid iid bB) (hT : ∀ Y : String, bm.contains (.type Y) = bB.contains (.type Y)) {Q : Unit → Shared → Prop} (hC : hh.get? C = some (excClassObj nm q C N bs bm hd sn sub ab col dd m0 m1 m2 m3 m5 nid)) (hq : Q () ⟨hh, gs, dr, tk, os⟩) :
    wpAny M B (checkBuiltinCall nid ⟨[.ref C], kw⟩) Q Er ⟨hh, gs, dr, tk, os⟩ := by
  have hc : (Value.ref C :: bm).contains (.type T) = true := by rw [List.contains_cons, hT, F.hasB, Bool.or_true]
  have hs := F.noStar
  simp only [checkBuiltinCall, F.newKind, F.newSplit, F.newRow]
  repeat (first | refine wpAny_loadPart_at hC ?_ | (refine wpAny_isSubtype_exc hC ?_; rw [hc]) | refine wpAny_staticBase_exc hC ?_ | refine wpAny_madeBy_exc hC ?_ | simp only [bne_self_eq_false, Bool.false_eq_true, if_false] | wp_step)
  exact hq
end
section
variable {pg : Program} {wd : World} {B : Around} {Er : Value → Shared → Prop} {R : Result → Shared → Prop} {hh : Heap} {gs : Array GenState} {dr : Drawn} {tk : Nat} {os : OsState}
variable {nm q : Str} {C N : Addr} {bs bm bB : List Value} {hd : Bool} {sn : List Str} {sub : List Value} {ab : Bool} {col : Option Bool} {dd : Option Addr} {m0 m1 m2 m3 m5 : Option Value} {T nid iid : String} {kw : List (Str × Value)}
/-- the heap behind C.__new__(C, f = v) -/
abbrev born (hh : Heap) (C : Addr) : Heap := (hh.push (W.kdv_tup [])).push (excO C hh.objs.size)
theorem newK (F : ExcBaseFacts T nid iid bB) (hT : ∀ Y : String, bm.contains (.type Y) = bB.contains (.type Y)) (hC : hh.get? C = some (excClassObj nm q C N bs bm hd sn sub ab col dd m0 m1 m2 m3 m5 nid))
    (hq : R (.ok (.ret (.ref (hh.objs.size + 1)))) ⟨born hh C, gs, dr, tk, os⟩) : codeAny (model pg wd) B (.builtin nid ⟨[.ref C], kw⟩) R ⟨hh, gs, dr, tk, os⟩ := by
  have he := F.ends
  have cB : (Value.ref C :: bm).contains (.type T) = true := by rw [List.contains_cons, hT, F.hasB, Bool.or_true]
  have cA : (Value.ref C :: bm).contains (.type "AttributeError") = false := by rw [List.contains_cons, hT, F.noAttr]; rfl
  have cN : (Value.ref C :: bm).contains (.type "NameError") = false := by rw [List.contains_cons, hT, F.noName]; rfl
  refine codeAny_builtinAt F.entry ?_
  unfold Builtin.«BaseException.__new__»
  refine wpAt_bind ?_
  show wpAt _ _ _ (stack >>= _) _ _ _
  refine wpAt_bind (wpAt_stack fun p below => wpAt_of_wpAny ?_)
  wp_walk
  refine wpAt_of_wpAny ?_
  rw [F.owner]
  repeat (first | with_reducible refine wpAny_madeHere_exc F.canon hC ?_ | with_reducible refine wpAny_loadPart_at hC ?_ | (with_reducible refine wpAny_isSubtype_exc hC ?_; first | rw [cB] | rw [cA] | rw [cN]) | wp_step)
  show R _ _
  rw [Heap.size_push]
  exact hq
theorem typeCallK (F : ExcBaseFacts T nid iid bB) (hT : ∀ Y : String, bm.contains (.type Y) = bB.contains (.type Y)) {fI : Addr} {Q : Fin → Shared → Prop} (hC : hh.get? C = some (excClassObj nm q C N bs bm hd sn sub ab col dd m0 m1 m2 m3 m5 nid))
    (hi : W.Looks (model pg wd) hh (typeLookup (.ref C) "__init__") (some (.ref fI))) (hb : ∀ o, W.Looks (model pg wd) hh (bindSpecial (.ref fI) o) (.ref fI, [o]))
    (hq : codeAny (model pg wd) B (.call (.ref fI) ⟨[.ref (hh.objs.size + 1)], kw⟩) (fun r s' => match r with | .ok (.ret v) => v = .none ∧ Q (.done (.ret (.ref (hh.objs.size + 1)))) s' | .ok _ => False | .error e => Er e s') ⟨born hh C, gs, dr, tk, os⟩) :
    wpAny (model pg wd) B (Builtin.«type.__call__» ⟨[.ref C], kw⟩) Q Er ⟨hh, gs, dr, tk, os⟩ := by
  repeat (first | with_reducible refine wpAny_loadPart_at hC ?_ | with_reducible refine wpAny_madeBy_exc hC ?_ | wp_step)
  refine codeAny_call_builtin_code (Code.quiet_builtin _ F.quiet) (chkNewK F hT hC (newK F hT hC ?_))
  show wpAny _ _ _ _ _ _
  have k : ∀ b o, hh.get? b = some o → (born hh C).get? b = some o := fun b o e => Heap.get?_push_of_some _ (Heap.get?_push_of_some _ e)
  have hC1 := k _ _ hC
  have hg : (born hh C).get? (hh.objs.size + 1) = some (excO C hh.objs.size) := by heap_get
  have cC : (Value.ref C :: bm).contains (.ref C) = true := by simp
  have i1 := hi.keeps k
  have b1 := (hb (.ref (hh.objs.size + 1))).keeps k
  unfold isInstance
  repeat (first | with_reducible refine wpAny_loadPart_at hg ?_ | (with_reducible refine wpAny_isSubtype_exc hC1 ?_; rw [cC]) | wp_step)
  show wpAny _ _ (typeLookup (.ref C) _) _ _ _
  refine i1.at ?_
  refine wpAny_holding (wpAny_bind (b1.at (wpAny_bind (wpAny_call (codeAny_mono hq fun r s' z => ?_)))))
  rcases r with e | (v | _ | _ | _) <;> first | exact z | exact z.elim | skip
  obtain ⟨rfl, z⟩ := z
  first
    | exact wpAny_pure (wpAny_pure z)
    | (wp_walk; exact z)
theorem callK (F : ExcBaseFacts T nid iid bB) (hT : ∀ Y : String, bm.contains (.type Y) = bB.contains (.type Y)) {fI : Addr} (hC : hh.get? C = some (excClassObj nm q C N bs bm hd sn sub ab col dd m0 m1 m2 m3 m5 nid))
    (hi : W.Looks (model pg wd) hh (typeLookup (.ref C) "__init__") (some (.ref fI))) (hb : ∀ o, W.Looks (model pg wd) hh (bindSpecial (.ref fI) o) (.ref fI, [o]))
    (hq : codeAny (model pg wd) (B.under (.builtin "type.__call__" ⟨[.ref C], kw⟩)) (.call (.ref fI) ⟨[.ref (hh.objs.size + 1)], kw⟩) (W.InitBack (hh.objs.size + 1) R) ⟨born hh C, gs, dr, tk, os⟩) :
    codeAny (model pg wd) B (.call (.ref C) ⟨[], kw⟩) R ⟨hh, gs, dr, tk, os⟩ := by
  have f1 := tc_lookup
  have f2 := tc_bind (.ref C)
  have tT : (⟨hh, gs, dr, tk, os⟩ : Shared).TypeIs (.ref C) "type" := ⟨_, hC, rfl⟩
  have ck : wpAny (model pg wd) B.in1 (checkBuiltinCall "type.__call__" ⟨[.ref C], kw⟩) (fun _ s => s = ⟨hh, gs, dr, tk, os⟩) (fun _ _ => False) ⟨hh, gs, dr, tk, os⟩ := by
    have f3 := tc_sub
    simp only [checkBuiltinCall, tc_kind, tc_split]
    repeat (any_goals (first | assumption | rfl | with_reducible refine wpAny_loadPart_at hC ?_ | with_reducible refine wpAny_onRaise ?_ | with_reducible refine wpAny_map ?_ | wp_step))
  refine codeAny_of_tree ?_
  show wpAny _ _ (callAny (.ref C) _) _ _ _
  repeat (any_goals (first | assumption | with_reducible refine wpAny_loadPart_at hC ?_ | wp_step))
  refine ⟨rfl, codeAny_call_builtin_at (Code.quiet_builtin _ (by decide +kernel)) entry_typeCall (wpAny_mono ck (fun _ s' e => ?_) fun _ _ z => False.elim z)⟩
  subst e
  refine typeCallK F hT hC hi hb (codeAny_mono hq fun r s' z => ?_)
  rcases r with e | (v | _ | _ | _) <;> exact z
end
end VX
namespace VX
open PySem PySem.Spec PyProof.Rows L2
/-- C(f = v), C's own __init__ keeping sp -/
def tMkK (C : Addr) (sp : Sp) (ta : TA) : L2.St → Hp → XK → Prop := fun σ H Q => ta σ H fun zs H1 => zs.length = 1 ∧ ∀ a, H1 a = none → sp (.ref a :: zs) (upd H1 a (exo a C none))
  (fun v H2 => v = .non ∧ ∃ (d : Addr) (fs : List (Str × V)), H2 a = some (exo a C (some d)) ∧ H2 d = some (exd d fs) ∧ H1 d = none ∧ Q (.ref C) (some d) (upd (del H2 a) d (.xd fs))) (fun _ _ _ => False)
theorem pmk_oexK {X : Cx} {CX : CXT} {x f : Str} {C fI : Addr} {k : Nat} {fd : FuncData} {sp : Sp} {p kpos pos : Pos} {e : Expr} {ta : TA} (T : OexC X.K C) (iC : PySem.W.findIn X.K (.ref C) "__init__" = some (some (.ref fI))) (tI : PySem.W.typeIn X.K (.ref fI) = some (.type "function"))
    (F1 : FnOk X.prog X.w X.K X.mg X.base CX k fI fd ["self", f] sp) (hr : Room (k + 1) X.A) (hb : ∀ (s : Shared) (u v : Value), X.K.In s.heap → BindsTo s fd ⟨[u], [(f, v)]⟩ [("self", u), (f, v)]) (hx : Passes CX X (fun _ _ _ => False)) (hg : Gl X x) (hm : X.mg x = some (.ref C))
    (ha : PK X [⟨some f, e, kpos⟩] ta) (hdb : (x == ("__debug__" : Str)) = false := by decide) (hpl : ((backTo pos (starEach [] X.env)).any (·.1) || (backToKw pos (keywordEach [⟨some f, e, kpos⟩] X.env)).any (·.1.isNone)) = false := by rfl)
    (hall : (backToKw pos (keywordEach [⟨some f, e, kpos⟩] X.env)).all (·.1.isSome) = true := by rfl) (hks : (backToKw pos (keywordEach [⟨some f, e, kpos⟩] X.env)).filterMap (·.1) = [f] := by rfl) :
    PMk X (.Call (.Name x p) [] [⟨some f, e, kpos⟩] pos) (tMkK C sp ta) := by
  intro pins s σ H Q I h
  obtain ⟨nm, q, N, bs, bm, sn, sub, ab, col, dd, k0, k1, k2, k3, k5, hC, hbm⟩ := T.cls
  refine wpAny_Call_Name_kw (ld_glob I hg hm ?_ hdb)
  refine PySem.W.callWith_KW0 (h₀ := X.base) I.ok.mod.kin T.kC hall ?_ hpl
  refine thn (ha.run pos pins s σ H _ I h) fun ws s1 ⟨zs, H1, I1, rz, l1, q1⟩ => ⟨I1.kIn, ?_⟩
  rw [hks]
  obtain ⟨z, rfl⟩ : ∃ z, zs = [z] := by
    cases zs with
    | nil => cases l1
    | cons z r =>
      cases r with
      | nil => exact ⟨z, rfl⟩
      | cons _ _ => cases l1
  obtain ⟨u, rfl, ru⟩ := vals1 rz
  show wpAny _ _ (call (.ref C) [] [(f, u)]) _ _ _
  obtain ⟨hp, g, dr, tk, os⟩ := s1
  have hsz : hp.objs.size ≤ hp.objs.size + 1 := Nat.le_succ _
  have hn : H1 (hp.objs.size + 1) = none := I1.hok.fresh hsz
  have hq := q1 (hp.objs.size + 1) hn
  have kk : ∀ b o, hp.get? b = some o → (born hp C).get? b = some o := fun b o e => Heap.get?_push_of_some _ (Heap.get?_push_of_some _ e)
  have hget : (born hp C).get? (hp.objs.size + 1) = some (PySem.HandSPX.excO C hp.objs.size) := by heap_get
  have I2 : L2.Inv X pins σ (upd H1 (hp.objs.size + 1) (exo (hp.objs.size + 1) C none)) ⟨born hp C, g, dr, tk, os⟩ :=
    I1.laid (t' := tk) (a := hp.objs.size + 1) (o := exo (hp.objs.size + 1) C none) (h' := born hp C) kk hsz (exo_ok hget)
  have r2 : Vals [V.ref (hp.objs.size + 1), z] [Value.ref (hp.objs.size + 1), u] := .cons rfl (.cons ru .nil)
  have e1 : Env0 X.prog X.w X.K X.mg X.base (X.A.under (.builtin "type.__call__" ⟨[.ref C], [(f, u)]⟩)) X.stack ⟨born hp C, g, dr, tk, os⟩ (upd H1 (hp.objs.size + 1) (exo (hp.objs.size + 1) C none)) := I2.env0.make C [] [(f, u)]
  refine wpAny_call (callK PySem.F.excBase_ValueError (fun Y => PySem.HandSPX.refsVE_contains Y bm hbm) (I1.kIn _ _ hC) (PySem.W.looks_findIn I1.kIn iC) (fun o => PySem.W.bind_fn I1.kIn o tI)
    (codeAny_mono (F1.run _ X.stack _ _ ⟨[Value.ref (hp.objs.size + 1)], [(f, u)]⟩ [Value.ref (hp.objs.size + 1), u] _ _ (fun _ _ _ => False) (hr.make C [] [(f, u)]) e1 (hb _ _ _ I2.kIn) r2 hq) fun r s' hq' => ?_))
  cases r with
  | error er => exact hx pins σ _ _ er s' I2 hq'
  | ok fl =>
    cases fl with
    | ret u =>
      obtain ⟨v, H2, os2, bare2, un2, hok2, rv, ev, d, fs, ea, ed, hd1, q2⟩ := hq'
      subst ev
      obtain ⟨h2, g2, d2, t2, os'⟩ := s'
      exact ⟨rv, mk_end (raises_own T.exC T.tyC) I1 hsz kk un2 hok2 os2 bare2 ea ed hd1 q2⟩
    | next => exact False.elim hq'
    | brk => exact False.elim hq'
    | cont => exact False.elim hq'
/-- C(), C an exception's class without an __init__ of its own -/
theorem pmk_own0 {X : Cx} {C : Addr} {bmB : List Value} {B newId initId : String} {x : Str} {p pos : Pos} (F : ExcBaseFacts B newId initId bmB) (q : PySem.W.excIn X.K C bmB newId = true) (gC : X.mg x = some (.ref C)) (kC : PySem.W.keepIn X.K (.ref C) = true) (r : Raises X (.ref C)) (hg : Gl X x)
    (hdb : (x == ("__debug__" : Str)) = false := by decide) : PMk X (.Call (.Name x p) [] [] pos) (fun _ H Q => Q (.ref C) none H) := by
  intro pins s σ H Q I h
  refine wpAny_Call_Name_kw (ld_glob I hg gC ?_ hdb)
  refine PySem.W.callWith_K0 I.kIn kC ?_
  show wpAny _ _ (call (.ref C) []) _ _ _
  obtain ⟨bm, N, nm, qn, bs, hdct, sn, sub, ab, col, dd, k0, k1, k2, k3, k5, mN, hC, hN, hni, T⟩ := exc_obj I.kIn q
  refine wpAny_call_exc_subT F T hC hN hni (fun h' e hm => ?_) (by show 0 ≤ sizeLine; omega)
  exact mk_of I hm r h (I.hok.gone hm.new)
end VX

set_option Elab.async false
set_option linter.all false
set_option maxRecDepth 100000
set_option maxHeartbeats 4000000
/-! defs that are called where no repr runs -/
namespace VX
open PySem PySem.Spec PyProof.Rows L2
/-- a def's promise, kept wherever no repr runs around the call -/
structure GFn (P : Program) (w : World) (K : PySem.W.Frag) (mg : Str → Option Value) (base : Heap) (k : Nat) (f : Addr) (fd : FuncData) (ps : List Str) (sp : Sp) : Prop where
  len : ∀ {vs H Q E}, sp vs H Q E → vs.length = ps.length
  go : ∀ {A : Around}, A.guards = some [] → Room k A → ∀ {outer : List Env} {s : Shared} {H : Hp}, Env0 P w K mg base A outer s H → ∀ {args : Args} {us : List Value} {vs : List V} {Q : VK} {E : XK}, BindsTo s fd args (ps.zip us) → Vals vs us → sp vs H Q E →
    codeAny (model P w) A (.call (.ref f) args) (CR CX0 outer P w H s Q E) s
section
variable {P : Program} {w : World} {K : PySem.W.Frag} {mg : Str → Option Value} {base : Heap} {x qual : Str} {pa : Arguments} {bd : List Stmt} {sc : Scope} {f : Addr} {fd : FuncData} {N ps : List Str} {k : Nat} {sp : Sp}
/-- the rule for such a def: the guards told -/
theorem GFn.of (F : FunD K x qual pa bd sc [] [] f fd) (S : FnScope N ps sc) (len : ∀ {vs H Q E}, sp vs H Q E → vs.length = ps.length)
    (body : ∀ (cdv : Value) (A : Around) (outer : List Env) (s : Shared) (H : Hp) (vs : List V) (Q : VK) (E : XK), A.guards = some [] → Room k (A.deeper (envOfC qual sc s.heap.objs.size f cdv)) → sp vs H Q E →
      ∃ t, PSs (cxOf CX0 P w K mg base N qual sc f cdv A outer s H E).nox bd t ∧ t { nx := fun _ H' => Q .non H', rt := Q } (start N vs) H) : GFn P w K mg base (k + 1) f fd ps sp := by
  obtain ⟨oc, od, dV, kV, doc, pm, an, cdv, ct, osl, rfl, lk, hcd, _, _⟩ := F.ex
  refine ⟨len, fun {A} hg hr {outer s H} e0 {args us vs Q E} hb r q => ?_⟩
  have KX : K.In s.heap := e0.mod.kin.keeps fun b o e => (e0.bs b o e).1
  have nl : s.heap.NoLimit := e0.mod.nolimit.keeps fun b o e => (e0.bs b o e).1
  have kinds : ∀ y ∈ ps.zip us, sc.names.lookup y.1 = some .local ∨ (sc.names.lookup y.1 = some .cell ∧ ((cellsFrom (s.heap.objs.size + 1) sc.names []).lookup y.1).isSome = true) := by
    rintro ⟨n, v⟩ hy
    have hn := S.par n (List.of_mem_zip hy).1
    exact hn.elim .inl fun z => .inr ⟨z, PySem.W.cellsFrom_some _ _ _ (.inl z)⟩
  refine codeAny_call_function hr.depth (KX _ _ lk) rfl S.co S.gen rfl (PySem.W.codeRec_of KX hcd) (hb _ _ _ _ (wpAny_newFunctionEnv_cells S.kind kinds ?_))
  rintro env rfl s1 ic
  refine ⟨nl.keeps ic.toInCall.keep, codeAny_func ?_⟩
  obtain ⟨t, ht, tq⟩ := body cdv A outer s H vs Q E hg (hr.deeper _) q
  have I : L2.Inv (cxOf CX0 P w K mg base N qual sc f cdv A outer s H E) [] (start N vs) H s1 := inv_start S hr.hd e0 (len q) r ic
  have back : ∀ {σ' : L2.St} {H' : Hp} {s' : Shared} {v : V} {u : Value}, L2.Inv (cxOf CX0 P w K mg base N qual sc f cdv A outer s H E) [] σ' H' s' → RelV v u → Q v H' → CE outer P w H s Q u s' :=
    fun J rv z => ⟨_, _, J.os, J.bare, J.base, J.hok, rv, z⟩
  refine wpAny_mono (ht.nox.run [] s1 (start N vs) H _ I tq) (fun fl s' h => ?_) fun _ _ h => h
  cases fl with
  | next => obtain ⟨_, _, J, z⟩ := h; exact back (v := V.non) (u := Value.none) J rfl z
  | ret u => obtain ⟨_, _, _, J, rv, z⟩ := h; exact back J rv z
  | brk => obtain ⟨_, _, _, z⟩ := h; exact z.elim
  | cont => obtain ⟨_, _, _, z⟩ := h; exact z.elim
end
section
variable {X : Cx} {k : Nat} {f : Addr} {fd : FuncData} {ps : List Str} {sp : Sp} {x : Str} {p pos : Pos} {e : Expr} {es : List Expr} {t : TA}
/-- f(e, ..) of such a def, where no repr runs -/
theorem pe_gcall (F : GFn X.prog X.w X.K X.mg X.base k f fd ps sp) (hg0 : X.A.guards = some []) (hr : Room k X.A) (hg : Gl X x) (hm : X.mg x = some (.ref f)) (hk : PySem.W.keepIn X.K (.ref f) = true) (hb : Binds X.K fd ps []) (ha : PA X (e :: es) t)
    (hdb : (x == ("__debug__" : Str)) = false := by decide) (he : starEach (e :: es) X.env = (false, eval e X.env) :: starEach es X.env := by rfl) (hpl : (backTo pos (starEach es X.env)).any (·.1) = false := by rfl) :
    PE X (.Call (.Name x p) (e :: es) [] pos) (tCall sp [] E0 t) := by
  refine ⟨fun pins s σ H Q I h => wpAny_Call_Name_kw (ld_glob I hg hm ?_ hdb)⟩
  refine PySem.W.callWith_K (h₀ := X.base) I.ok.mod.kin hk (thn (ha.run pos pins s σ H _ I h) fun us s1 ⟨vs, H1, I1, r, q⟩ => ⟨I1.kIn, ?_⟩) he hpl
  have q : sp vs H1 Q E0 := by have z : sp (vs ++ []) H1 Q E0 := q; rw [List.append_nil] at z; exact z
  have hl : us.length = ps.length := by rw [← r.length]; exact F.len q
  have b := hb s1 us I1.kIn (by rw [List.append_nil]; exact hl)
  rw [List.append_nil] at b
  refine wpAny_call (codeAny_mono (F.go hg0 hr I1.env0 b r q) fun r s' hq => ?_)
  match r, hq with
  | .ok (.ret u), hq => exact I1.after hq
  | .error _, hq => exact hq.elim
end
/-- the call's base: the heap without the script -/
theorem base_of {P : Program} {w : World} {K : PySem.W.Frag} {mg mb : Str → Option Value} {s : Shared} {H : Hp} {a : Addr} {vs : Array Value} (KX : K.In s.heap) (g1 : s.heap.Ns mainGlobals mg) (g2 : s.heap.Ns builtinsNs mb) (g3 : ∀ x : Str, x ≠ "__name__" → mb x = bootBuiltins x)
    (g4 : s.heap.NoLimit) (g5 : s.gens = #[]) (ha : s.heap.get? a = some { cls := .type "list", data := .seq vs }) (ok : HOk P w H s.heap) (only : ∀ b, b ≠ a → H b = none) (hK : H a ≠ none → K.lookup a = none) : Env0 P w K mg (hidT s.heap H) callerA [] s H := by
  have dk : ∀ {b : Addr} {o : Obj} {es : Array DictEntry} {ep : Nat}, s.heap.get? b = some o → o.data = .dict es ep → H b = none := by
    intro b o es ep e d
    by_cases hb : b = a
    · rw [hb, ha] at e
      rw [← Option.some.inj e] at d
      cases d
    · exact only b hb
  have ns : ∀ {b : Addr} {m : Str → Option Value}, s.heap.Ns b m → (hidT s.heap H).Ns b m := by
    rintro b m ⟨o, es, ep, e, d, r⟩
    exact ⟨o, es, ep, hidT_get e (dk e d), d, r⟩
  have kin : K.In (hidT s.heap H) := by
    intro b o e
    refine hidT_get (KX b o e) ?_
    by_cases hb : b = a
    · subst hb
      cases z : H b with
      | none => rfl
      | some u => rw [hK (by rw [z]; exact fun n => nomatch n)] at e; cases e
    · exact only b hb
  obtain ⟨mc, l1, l2⟩ := g4
  exact { frames := rfl, mod := { kin := kin, glob := ns g1, blt := ⟨mb, ns g2, g3⟩, nolimit := ⟨mc, ns l1, l2⟩ }, bs := fun b o e => of_hidT e, bsz := Nat.le_of_eq (hidT_size _ _), funs := trivial, frf := fun b hb => (nomatch hb), hok := ok, bare := .of_eq g5 }
/-- the law's own end, its def's promise kept where no repr runs -/
theorem walk_g {l : PySem.W.OpenLaw} {n k : Nat} {q : Program} {loose : List Str} {XP : (Str → Option Value) → Heap → Prop} {YP : World → Heap → Prop} {d : DefRec} {x : Str}
    (hn : l.most = some n) (hn2 : n ≤ sizeLine) (hdf : d.params.defaults = []) (hr : Room k callerA)
    (F : ∀ (w : World) (mg : Str → Option Value) (fa : Addr) (h : Heap), YP w h → h.Ns mainGlobals mg → mg d.name = some (.ref fa) →
      ∃ (K : PySem.W.Frag) (fd : FuncData) (sp : Sp), K.In h ∧ (∀ (s : Shared) (u : Value), BindsTo s fd ⟨[u], []⟩ [(x, u)]) ∧
        (∀ (H : Hp) (a : Addr) (ns : List Int), ns.length ≤ n → Only H → SqL K H a (ns.map V.int) → sp [.ref a] H (fun v _ => v = .bl true) fun _ _ _ => False) ∧
        ∀ base : Heap, K.In base → base.Ns mainGlobals mg → GFn l.prog w K mg base k fa fd [x] sp) :
    PySem.W.WalkO q loose XP YP l.row.toRowW d [] (fun f vs => PySem.call f vs) := by
  refine Att.attach_call hn hdf fun w s₀ s₁ mg mb fa o pm cd doc a vs ns G Y ho hd hcd hmg hobj hints hlen hg => ?_
  obtain ⟨K, fd, sp, KX, hb, hsp, hF⟩ := F w mg fa _ Y G.T.g hmg
  have rv := vals_ints hints
  have lv := hints.length
  have core : ∀ H : Hp, Only H → SqL K H a (ns.map V.int) → HOk l.prog w H s₁.heap → (∀ b, b ≠ a → H b = none) → (H a ≠ none → K.lookup a = none) →
      codeAny (model l.prog w) callerA (.call (.ref fa) ⟨[.ref a], []⟩) (fun r s' => r = .ok (.ret (.bool true)) ∧ OldK s₁.heap s'.heap ∧ s'.os = s₁.os ∧ AllBare s'.gens) s₁ := by
    intro H oH sH ok on hK
    have e0 := base_of (P := l.prog) (w := w) (mg := mg) KX G.T.g G.T.b G.T.builtins G.T.nolimit hg hobj ok on hK
    refine codeAny_mono ((hF _ e0.mod.kin e0.mod.glob).go (A := callerA) rfl hr e0 (us := [.ref a]) (vs := [V.ref a]) (hb s₁ (.ref a)) (.cons rfl .nil) (hsp H a ns hlen oH sH)) fun r s' h => ?_
    match r, h with
    | .error _, h => exact h.elim
    | .ok (.ret u), h =>
      obtain ⟨v, H', os, bare, un, ok', rr, rfl⟩ := h
      refine ⟨congrArg (fun u => Except.ok (Flow.ret u)) rr, OldK.of_keep fun b o e => ?_, os, bare⟩
      rcases oH b with z | ⟨ob, xs, z⟩
      · exact un.keep b o e z (fun m => nomatch m) (by simp)
      · have f1 := (ok b _ z).1
        have f2 := (ok' b _ (un.frzs b ob _ z)).1
        rw [e] at f1
        rw [f2, ← Option.some.inj f1]
  cases hk : K.lookup a with
  | some o1 =>
    have e := KX a o1 hk
    rw [hobj] at e
    cases e
    refine core (fun _ => none) (fun _ => .inl rfl) (.inr ⟨_, vs.toArray, _, hk, rfl, rfl, rfl, ?_, by simpa using rv⟩) (fun b u z => nomatch z) (fun b _ => rfl) fun z => absurd rfl z
    rw [List.size_toArray, lv]
    exact Nat.le_trans hlen hn2
  | none =>
    let fz : HO := .frz { cls := .type "list", data := .seq vs.toArray } (.lst (ns.map V.int))
    refine core (upd (fun _ => none) a fz) (fun b => ?_) (.inl (.inr ⟨_, upd_same⟩)) (fun b u z => ?_) (fun b hb => upd_ne hb) fun _ => hk
    · by_cases hb : b = a
      · exact .inr ⟨_, _, by rw [hb]; exact upd_same⟩
      · exact .inl (upd_ne hb)
    · by_cases hb : b = a
      · subst hb
        rw [upd_same] at z
        cases z
        exact ⟨hobj, by rw [List.length_map]; exact Nat.le_trans hlen hn2, vs, _, rv, hobj⟩
      · rw [upd_ne hb] at z
        cases z
end VX

set_option Elab.async false
set_option linter.all false
set_option maxRecDepth 100000
set_option maxHeartbeats 4000000
/-! several except clauses, each «as n», one name -/
namespace VX
open PySem PySem.Spec PyProof.Rows L2
/-- what the clauses wish of an exception of the body, from the first on; the name in slot i is empty behind a suite -/
def wNamed (K : PySem.W.Frag) (i : Nat) (Wout : WX) (D : Ends) : List (Value × (Addr → Value → Option Addr → TS)) → WX
  | [] => Wout
  | (c, ts) :: r => fun cls d σ H => ∃ b, PySem.W.exmOne K cls c = some b ∧ (b = true → ∀ a, H a = none →
      ts a cls d { nx := fun σ' H' => D.nx (σ'.set i none) H', rt := D.rt, bk := fun σ' H' => D.bk (σ'.set i none) H', ct := fun σ' H' => D.ct (σ'.set i none) H' } (σ.set i (some (.ref a))) H) ∧ (b = false → wNamed K i Wout D r cls d σ H)
inductive Clauses (X : Cx) (n : Str) : List ExceptHandler → List (Value × (Addr → Value → Option Addr → TS)) → Prop
  | nil : Clauses X n [] []
  | cons {x : Str} {c : Value} {ts : Addr → Value → Option Addr → TS} {b₀ : Stmt} {su : List Stmt} {p1 p2 : Pos} {hs : List ExceptHandler} {l : List (Value × (Addr → Value → Option Addr → TS))} (hc : Names X x c)
      (hsu : ∀ (a : Addr) (oe : Obj) (cls : Value) (d : Option Addr) (pn : List (Addr × Obj)), Zc cls d oe → (∃ vs, oe.data = .fields vs) → PSs (X.suite a ((a, oe) :: pn)) (b₀ :: su) (ts a cls d)) (r : Clauses X n hs l) :
      Clauses X n (.ExceptHandler (some (.Name x p1)) (some n) (b₀ :: su) p2 :: hs) ((c, ts) :: l)
theorem ps_try_named {X : Cx} {n : Str} {i : Nat} {body : List Stmt} {h₀ : ExceptHandler} {hds : List ExceptHandler} {l : List (Value × (Addr → Value → Option Addr → TS))} {pos : Pos} {tb : WX → TS} {Wout : WX}
    (hs : X.stack = X.env :: X.outer) (hf : X.env.frame = some X.env.locals) (hN : X.N.Nodup) (hi : X.N[i]? = some n) (hln : X.env.kindOf n = some .local) (tk : Takes X Wout)
    (hb : ∀ (W : WX) (pn : List (Addr × Obj)) (xe : Value → Shared → Prop), Takes (X.tr pn xe) W → PassesOwn (model X.prog X.w) X.A X.env xe → PSs (X.tr pn xe) body (tb W)) (hh : Clauses X n (h₀ :: hds) l) :
    PS X (.Try body (h₀ :: hds) [] [] pos) (fun D σ H => tb (wNamed X.K i Wout D l) D σ H) := by
  refine ⟨fun pins s σ H D I h => wpAny_Try_except ?_⟩
  have ok := I.ok
  have fr : X.A.frames = some (X.env :: X.outer) := by rw [ok.frames, hs]
  have lc : Loc X.env.scope n := .inl hln
  refine wpAny_mono ((hb (wNamed X.K i Wout D l) (X.pn ++ pins) (fun e t1 => wpAny (model X.prog X.w) X.A (noteFrame e X.env) (fun _ t2 => wpAny (model X.prog X.w) X.A (setFlight e none) (fun _ t3 =>
    wpAny (model X.prog X.w) X.A (handleBy e X.env (h₀ :: hds)) (SP X pins D) X.xe t3) X.xe t2) X.xe t1) (fun u s' xx => ?caught) PassesOwn.looking).run [] s σ H D (I.toTry _) h) (fun f s1 q => ?through) (fun _ _ z => z)
  case through =>
    cases f with
    | next => obtain ⟨σ', H', J, q⟩ := q; exact wpAny_execs_nil ⟨σ', H', J.ofTry ok, q⟩
    | brk => obtain ⟨σ', H', J, q⟩ := q; exact ⟨σ', H', J.ofTry ok, q⟩
    | cont => obtain ⟨σ', H', J, q⟩ := q; exact ⟨σ', H', J.ofTry ok, q⟩
    | ret u => obtain ⟨v, σ', H', J, r, q⟩ := q; exact ⟨v, σ', H', J.ofTry ok, r, q⟩
  case caught =>
    obtain ⟨a, B, sI, ps', σ', H', cls, d, rfl, J', nb, up, sky, na, os, ag, w⟩ := xx
    have J : L2.Inv X pins σ' H' sI := J'.ofTry ok
    have sk : Sky B (X.env :: X.outer) a (Zc cls d) X.env.locals s'.heap := by rw [← hs]; exact sky
    show wpAny (model X.prog X.w) X.A (noteFrame (.ref a) X.env) _ _ _
    refine Sky.land Zc.steady fr hf sk fun h3 fl3 up3 => ?_
    have J3 : L2.Inv X pins σ' H' { s' with heap := h3 } := J.landed nb fl3.1 (up.trans up3) os ag
    obtain ⟨oe, vs, he, hz, hd⟩ := fl3.there
    have nfr : a ∉ frs (X.env :: X.outer) := fun hm => by
      obtain ⟨_, o', e', hnf⟩ := fl3.2.2.1.mem hm
      rw [he] at e'
      cases e'
      exact hnf _ hd
    have nL : a ≠ X.env.locals := fun z => nfr (List.mem_filterMap.mpr ⟨X.env, .head _, by rw [hf, z]⟩)
    have nF : a ∉ X.fs := fun hm => by
      obtain ⟨e, m, q⟩ := List.mem_filterMap.mp hm
      exact nfr (List.mem_filterMap.mpr ⟨e, .tail _ m, q⟩)
    have S3 := J3.suite he hd na nL nF
    have go : ∀ {hs' : List ExceptHandler} {l' : List (Value × (Addr → Value → Option Addr → TS))}, Clauses X n hs' l' → wNamed X.K i Wout D l' cls d σ' H' → wpAny (model X.prog X.w) X.A (handleBy (.ref a) X.env hs') (SP X pins D) X.xe { s' with heap := h3 } := by
      intro hs' l' hk
      induction hk with
      | nil =>
        intro w
        refine wpAny_handleBy_nil ?_
        obtain ⟨_, _, _, oe1, vs1, T, oT, ts1, he1, hz1, hd1, h1, _⟩ := id fl3
        unfold PySem.passOn
        refine wpAny_bind (wpAny_field he1 hd1 h1 ?_)
        rw [if_neg (show ¬ ((Value.ref T == Value.none) = true) by simp)]
        have fin : wpAny (model X.prog X.w) X.A (setFlight (.ref a) X.env.frame) (fun _ s4 => wpAny (model X.prog X.w) X.A (throw (.ref a) : Sem Flow) (SP X pins D) X.xe s4) X.xe { s' with heap := h3 } := by
          rw [hf]
          exact HandSPX.setFlight_upZ fl3 fun h4 hh4 up4 => wpAny_throw (tk _ _ ⟨a, B, sI, pins, σ', H', cls, d, rfl, J, nb, (up.trans up3).trans up4, .inr (.inr (by rw [hs]; exact hh4)), na, os, ag, w⟩)
        first | exact wpAny_bind (wpAny_pure (wpAny_bind fin)) | exact wpAny_bind fin
      | @cons x c ts b₀ su p1 p2 hs2 l2 hc hsu r ih =>
        rintro ⟨b, hb1, hy, hno⟩
        refine wpAny_handleBy_cons (codeAny_handlers_test ?_) (by intro q; cases q)
        have ty : PySem.W.Looks (model X.prog X.w) h3 (typeOf (.ref a)) cls := fun A Q E t k q => wpAny_typeOf_ref (k _ _ he) (by rw [hz.1]; exact q)
        have lk := PySem.W.exm_one (M := model X.prog X.w) (J3.kIn) ty hb1
        have asked : ∀ {Q E : Value → Shared → Prop}, Q c { s' with heap := h3 } → wpAny (model X.prog X.w) (X.A.mark (some (.ref a))) (eval (.Name x p1) X.env) Q E { s' with heap := h3 } := by
          intro Q E q
          obtain ⟨hg, hdb, hm | ⟨hm, hv, hn⟩⟩ := hc
          · exact ld_glob (X := X.suite a ((a, oe) :: (X.pn ++ pins))) S3 hg hm q hdb
          · exact ld_blt (X := X.suite a ((a, oe) :: (X.pn ++ pins))) S3 hg hm hv q hn hdb
        refine asked (lk.here ?_)
        cases b with
        | false => exact ih (hno rfl)
        | true =>
          refine codeAny_handlers_suite_as (HandSPX.lands_againZ fl3 fun h4 fl4 up4 => ?_)
          have J4 : L2.Inv X pins σ' H' { s' with heap := h4 } := J.landed nb fl4.1 ((up.trans up3).trans up4) os ag
          obtain ⟨oe4, vs4, he4, hz4, hd4⟩ := fl4.there
          refine store_ok (X := X.suite a ((a, oe4) :: (X.pn ++ pins))) (v := .ref a) (J4.suite he4 hd4 na nL nF) hN hi lc rfl (fun s5 S5 => ?_) (.inr hln)
          refine wpAny_mono ((hsu a oe4 cls d (X.pn ++ pins) hz4 ⟨_, hd4⟩).run [] s5 _ H' _ S5 (hy rfl a na)) (fun f s6 q => ?_) (fun _ _ z => False.elim z)
          have over : ∀ {σ6 : L2.St} {H6 : Hp} {Q : Shared → Prop}, L2.Inv (X.suite a ((a, oe4) :: (X.pn ++ pins))) [] σ6 H6 s6 → (∀ s7, L2.Inv X pins (σ6.set i none) H6 s7 → Q s7) →
              wpAny (model X.prog X.w) X.A (do bindName X.env n .none; unbindBehindTheSuite X.env n p2) (fun _ s7 => Q s7) X.xe s6 := fun S6 hq => gone_ok (S6.unsuite ok) hN hi hln hq
          cases f with
          | next => obtain ⟨σ6, H6, S6, q6⟩ := q; exact over S6 fun s7 J7 => ⟨_, _, J7, q6⟩
          | brk => obtain ⟨σ6, H6, S6, q6⟩ := q; exact over S6 fun s7 J7 => ⟨_, _, J7, q6⟩
          | cont => obtain ⟨σ6, H6, S6, q6⟩ := q; exact over S6 fun s7 J7 => ⟨_, _, J7, q6⟩
          | ret u => obtain ⟨v6, σ6, H6, S6, r6, q6⟩ := q; exact over S6 fun s7 J7 => ⟨_, _, _, J7, r6, q6⟩
    exact go hh w
end VX

set_option linter.all false
/-! # Rows modulo a prime, as the program calculates with them (plain mathematics, no Python) -/
namespace RX
def at0 (r : List Int) (i : Nat) : Int := r.getD i 0
def lead (r : List Int) : Nat := r.findIdx (fun x => x != 0)
def addR (p : Int) (r : List Int) (f : Int) (o : List Int) : List Int := List.zipWith (fun a b => (a + f * b) % p) r o
def scale (p f : Int) (r : List Int) : List Int := r.map fun x => f * x % p
def restOf (p : Int) (b : List (List Int)) (r : List Int) : List Int := b.foldl (fun r o => if at0 r (lead o) = 0 then r else addR p r (-at0 r (lead o)) o) r
def joinL (p : Int) (b : List (List Int)) (at' : Nat) (new : List Int) : List (List Int) :=
  (b.filter fun o => decide (lead o < at')).map (fun o => addR p o (-at0 o at') new) ++ new :: b.filter fun o => decide (at' < lead o)
def joined (inv : Int → Int) (p : Int) (b : List (List Int)) (r : List Int) : List (List Int) :=
  if lead (restOf p b r) = (restOf p b r).length then b
  else joinL p b (lead (restOf p b r)) (scale p (inv (at0 (restOf p b r) (lead (restOf p b r)))) (restOf p b r))
def reduced (inv : Int → Int) (p : Int) (rows : List (List Int)) : List (List Int) := rows.foldl (joined inv p) []
def Row (p : Int) (n : Nat) (r : List Int) : Prop := r.length = n ∧ ∀ x ∈ r, 0 ≤ x ∧ x < p
/-- of an inverse: it is one, and that of 1 is 1 -/
structure Inv (p : Int) (inv : Int → Int) : Prop where
  two : 2 ≤ p
  mul : ∀ x, 0 < x → x < p → inv x * x % p = 1
structure Rref (p : Int) (n : Nat) (b : List (List Int)) : Prop where
  rows : ∀ r ∈ b, Row p n r
  lt : ∀ r ∈ b, lead r < n
  one : ∀ r ∈ b, at0 r (lead r) = 1
  inc : b.Pairwise fun r s => lead r < lead s
  col : b.Pairwise fun r s => at0 r (lead s) = 0
/-! ## items -/
theorem at0_of {r : List Int} {i : Nat} (h : i < r.length) : at0 r i = r[i] := by simp [at0, List.getD, h]
theorem at0_out {r : List Int} {i : Nat} (h : r.length ≤ i) : at0 r i = 0 := by simp [at0, List.getD, h]
theorem at0_mem {r : List Int} {i : Nat} (h : i < r.length) : at0 r i ∈ r := by rw [at0_of h]; exact List.getElem_mem h
theorem at0_rep {n i : Nat} : at0 (List.replicate n 0) i = 0 := by
  by_cases h : i < n
  · rw [at0_of (by simpa using h)]; simp
  · rw [at0_out (by simpa using Nat.le_of_not_lt h)]
theorem ext0 {r s : List Int} (h : r.length = s.length) (e : ∀ i, i < r.length → at0 r i = at0 s i) : r = s := by
  refine List.ext_getElem h fun i h1 h2 => ?_
  have := e i h1
  rwa [at0_of h1, at0_of h2] at this
theorem Row.bound {p : Int} {n : Nat} {r : List Int} (h : Row p n r) (h2 : 0 < p) (i : Nat) : 0 ≤ at0 r i ∧ at0 r i < p := by
  by_cases hi : i < r.length
  · exact h.2 _ (at0_mem hi)
  · rw [at0_out (Nat.le_of_not_lt hi)]; omega
theorem Row.emod {p : Int} {n : Nat} {r : List Int} (h : Row p n r) (h2 : 0 < p) (i : Nat) : at0 r i % p = at0 r i := by
  have := h.bound h2 i
  exact Int.emod_eq_of_lt this.1 this.2
theorem addR_len {p f : Int} {n : Nat} {r o : List Int} (h : r.length = n) (h' : o.length = n) : (addR p r f o).length = n := by simp [addR, h, h']
theorem at0_addR {p f : Int} {r o : List Int} (h : r.length = o.length) (i : Nat) : at0 (addR p r f o) i = (at0 r i + f * at0 o i) % p := by
  by_cases hi : i < r.length
  · rw [at0_of (by rw [addR_len rfl h.symm]; exact hi), at0_of hi, at0_of (by omega)]
    simp [addR]
  · rw [at0_out (by rw [addR_len rfl h.symm]; omega), at0_out (by omega), at0_out (by omega)]
    simp
theorem addR_row {p f : Int} {n : Nat} {r o : List Int} (h2 : 0 < p) (h : r.length = n) (h' : o.length = n) : Row p n (addR p r f o) := by
  refine ⟨addR_len h h', fun x hx => ?_⟩
  obtain ⟨i, hi, rfl⟩ := List.mem_iff_getElem.mp hx
  rw [← at0_of hi, at0_addR (by omega)]
  exact ⟨Int.emod_nonneg _ (by omega), Int.emod_lt_of_pos _ h2⟩
theorem scale_len {p f : Int} {r : List Int} : (scale p f r).length = r.length := by simp [scale]
theorem at0_scale {p f : Int} {r : List Int} (i : Nat) : at0 (scale p f r) i = f * at0 r i % p := by
  by_cases hi : i < r.length
  · rw [at0_of (by rw [scale_len]; exact hi), at0_of hi]; simp [scale]
  · rw [at0_out (by rw [scale_len]; omega), at0_out (by omega)]; simp
theorem scale_row {p f : Int} {n : Nat} {r : List Int} (h2 : 0 < p) (h : r.length = n) : Row p n (scale p f r) := by
  refine ⟨by rw [scale_len, h], fun x hx => ?_⟩
  obtain ⟨i, hi, rfl⟩ := List.mem_iff_getElem.mp hx
  rw [← at0_of hi, at0_scale]
  exact ⟨Int.emod_nonneg _ (by omega), Int.emod_lt_of_pos _ h2⟩
/-! ## the first item other than 0 -/
theorem lead_le {r : List Int} : lead r ≤ r.length := List.findIdx_le_length
theorem lead_ne {r : List Int} (h : lead r < r.length) : at0 r (lead r) ≠ 0 := by
  rw [at0_of h]
  have k : (r[lead r] != 0) = true := List.findIdx_getElem (p := fun x : Int => x != 0) (xs := r) (w := h)
  exact bne_iff_ne.mp k
theorem lead_zero {r : List Int} {i : Nat} (h : i < lead r) : at0 r i = 0 := by
  have hl : i < r.length := Nat.lt_of_lt_of_le h lead_le
  rw [at0_of hl]
  have := List.not_of_lt_findIdx (p := fun x : Int => x != 0) (xs := r) h
  simpa using this
theorem lead_eq {r : List Int} {i : Nat} (hi : at0 r i ≠ 0) (h : ∀ j, j < i → at0 r j = 0) : lead r = i := by
  have hl : i < r.length := by
    refine Nat.lt_of_not_le fun hh => hi (at0_out hh)
  rcases Nat.lt_trichotomy (lead r) i with h1 | h1 | h1
  · exact absurd (h _ h1) (lead_ne (by omega))
  · exact h1
  · exact absurd (lead_zero h1) hi
theorem lead_out {r : List Int} (h : lead r = r.length) (i : Nat) : at0 r i = 0 := by
  by_cases hi : i < r.length
  · exact lead_zero (by omega)
  · exact at0_out (by omega)
/-! ## what a basis leaves of a row -/
theorem restOf_ok {p : Int} {n : Nat} (h2 : 0 < p) : ∀ (l : List (List Int)) (C : List Nat) (r : List Int), Row p n r → (∀ o ∈ l, Row p n o) → (∀ o ∈ l, at0 o (lead o) = 1) → (l.Pairwise fun a b => at0 b (lead a) = 0) →
    (∀ o ∈ l, ∀ c ∈ C, at0 o c = 0) → (∀ c ∈ C, at0 r c = 0) → Row p n (restOf p l r) ∧ (∀ c ∈ C, at0 (restOf p l r) c = 0) ∧ ∀ o ∈ l, at0 (restOf p l r) (lead o) = 0
  | [], C, r, hr, _, _, _, _, hc => ⟨hr, hc, fun o h => nomatch h⟩
  | o :: l, C, r, hr, hl, h1, hw, hC, hc => by
    have ho := hl o (.head _)
    have hlen : r.length = o.length := by rw [hr.1, ho.1]
    obtain ⟨hw1, hw2⟩ := List.pairwise_cons.mp hw
    obtain ⟨r', er, hr', hz, hcz⟩ : ∃ r', (if at0 r (lead o) = 0 then r else addR p r (-at0 r (lead o)) o) = r' ∧ Row p n r' ∧ at0 r' (lead o) = 0 ∧ ∀ c ∈ C, at0 r' c = 0 := by
      by_cases e : at0 r (lead o) = 0
      · exact ⟨r, if_pos e, hr, e, hc⟩
      · refine ⟨_, if_neg e, addR_row h2 hr.1 ho.1, ?_, fun c h => ?_⟩
        · rw [at0_addR hlen, h1 o (.head _), Int.mul_one, Int.add_neg_eq_sub, Int.sub_self, Int.zero_emod]
        · rw [at0_addR hlen, hC o (.head _) c h, hc c h]; simp
    have := restOf_ok h2 l (lead o :: C) r' hr' (fun a h => hl a (.tail _ h)) (fun a h => h1 a (.tail _ h)) hw2 (fun a h c hcc => by
      rcases List.mem_cons.mp hcc with rfl | hcc
      · exact hw1 a h
      · exact hC a (.tail _ h) c hcc) (fun c hcc => by
      rcases List.mem_cons.mp hcc with rfl | hcc
      · exact hz
      · exact hcz c hcc)
    have e2 : restOf p (o :: l) r = restOf p l r' := by rw [← er]; rfl
    rw [e2]
    refine ⟨this.1, fun c h => this.2.1 c (.tail _ h), fun a h => ?_⟩
    rcases List.mem_cons.mp h with rfl | h
    · exact this.2.1 _ (.head _)
    · exact this.2.2 a h
theorem restOf_id {p : Int} : ∀ (l : List (List Int)) (r : List Int), (∀ o ∈ l, at0 r (lead o) = 0) → restOf p l r = r
  | [], r, _ => rfl
  | o :: l, r, h => by
    have e : restOf p (o :: l) r = restOf p l r := by
      show restOf p l (if at0 r (lead o) = 0 then r else addR p r (-at0 r (lead o)) o) = _
      rw [if_pos (h o (.head _))]
    rw [e]
    exact restOf_id l r fun a ha => h a (.tail _ ha)
theorem Rref.pw {p : Int} {n : Nat} {b : List (List Int)} (h : Rref p n b) : b.Pairwise fun a c => at0 c (lead a) = 0 :=
  h.inc.imp fun h => lead_zero h
theorem Rref.rest {p : Int} {n : Nat} {b : List (List Int)} (h : Rref p n b) (h2 : 0 < p) {r : List Int} (hr : Row p n r) : Row p n (restOf p b r) ∧ ∀ o ∈ b, at0 (restOf p b r) (lead o) = 0 := by
  have := restOf_ok h2 b [] r hr h.rows h.one h.pw (fun _ _ c hc => nomatch hc) (fun c hc => nomatch hc)
  exact ⟨this.1, this.2.2⟩
/-! ## one more row -/
theorem joinL_ok {p : Int} {n : Nat} {b : List (List Int)} (h2 : 2 ≤ p) (h : Rref p n b) {new : List Int} (hn : Row p n new) (hl : lead new < n) (h1 : at0 new (lead new) = 1) (hz : ∀ o ∈ b, at0 new (lead o) = 0) : Rref p n (joinL p b (lead new) new) := by
  have h0 : 0 < p := by omega
  have ne : ∀ o ∈ b, lead o ≠ lead new := fun o ho e => by
    have := hz o ho
    rw [e, h1] at this
    omega
  -- of a row ahead
  have bef : ∀ o ∈ b, lead o < lead new → Row p n (addR p o (-at0 o (lead new)) new) ∧ (∀ i, at0 new i = 0 → at0 (addR p o (-at0 o (lead new)) new) i = at0 o i) ∧ at0 (addR p o (-at0 o (lead new)) new) (lead new) = 0 ∧ lead (addR p o (-at0 o (lead new)) new) = lead o := fun o ho hlt => by
    have hlen : o.length = new.length := by rw [(h.rows o ho).1, hn.1]
    have k1 : ∀ i, at0 new i = 0 → at0 (addR p o (-at0 o (lead new)) new) i = at0 o i := fun i hi => by
      rw [at0_addR hlen, hi, Int.mul_zero, Int.add_zero, (h.rows o ho).emod h0]
    refine ⟨addR_row h0 (h.rows o ho).1 hn.1, k1, ?_, lead_eq ?_ fun j hj => ?_⟩
    · rw [at0_addR hlen, h1, Int.mul_one, Int.add_neg_eq_sub, Int.sub_self, Int.zero_emod]
    · rw [k1 _ (lead_zero hlt), h.one o ho]; decide
    · rw [k1 j (lead_zero (by omega)), lead_zero hj]
  have mem : ∀ r ∈ joinL p b (lead new) new, (∃ o ∈ b, lead o < lead new ∧ r = addR p o (-at0 o (lead new)) new) ∨ r = new ∨ (r ∈ b ∧ lead new < lead r) := fun r hr => by
    rcases List.mem_append.mp hr with hr | hr
    · obtain ⟨o, ho, rfl⟩ := List.mem_map.mp hr
      have := List.mem_filter.mp ho
      exact .inl ⟨o, this.1, of_decide_eq_true this.2, rfl⟩
    · rcases List.mem_cons.mp hr with rfl | hr
      · exact .inr (.inl rfl)
      · have := List.mem_filter.mp hr
        exact .inr (.inr ⟨this.1, of_decide_eq_true this.2⟩)
  have ic : b.Pairwise fun r s => lead r < lead s ∧ at0 r (lead s) = 0 := List.pairwise_and_iff.mpr ⟨h.inc, h.col⟩
  have all : (joinL p b (lead new) new).Pairwise fun r s => lead r < lead s ∧ at0 r (lead s) = 0 := by
    refine List.pairwise_append.mpr ⟨?_, ?_, ?_⟩
    · refine List.pairwise_map.mpr ?_
      refine List.Pairwise.imp_of_mem ?_ (ic.filter _)
      intro r s hr hs ⟨e1, e2⟩
      have hr' := List.mem_filter.mp hr
      have hs' := List.mem_filter.mp hs
      obtain ⟨_, k1, _, k3⟩ := bef r hr'.1 (of_decide_eq_true hr'.2)
      obtain ⟨_, _, _, k4⟩ := bef s hs'.1 (of_decide_eq_true hs'.2)
      rw [k3, k4, k1 _ (hz s hs'.1)]
      exact ⟨e1, e2⟩
    · refine List.pairwise_cons.mpr ⟨fun s hs => ?_, ic.filter _⟩
      have hs' := List.mem_filter.mp hs
      exact ⟨of_decide_eq_true hs'.2, hz s hs'.1⟩
    · intro r hr s hs
      obtain ⟨o, ho, rfl⟩ := List.mem_map.mp hr
      have ho' := List.mem_filter.mp ho
      have ol := of_decide_eq_true ho'.2
      obtain ⟨_, k1, k2, k3⟩ := bef o ho'.1 ol
      rw [k3]
      rcases List.mem_cons.mp hs with rfl | hs
      · exact ⟨ol, k2⟩
      · have hs' := List.mem_filter.mp hs
        have sl := of_decide_eq_true hs'.2
        rw [k1 _ (hz s hs'.1)]
        have lt : lead o < lead s := Nat.lt_trans ol sl
        refine ⟨lt, ?_⟩
        -- o stands ahead of s in b
        obtain ⟨i, hi, rfl⟩ := List.mem_iff_getElem.mp ho'.1
        obtain ⟨j, hj, rfl⟩ := List.mem_iff_getElem.mp hs'.1
        rcases Nat.lt_trichotomy i j with e | e | e
        · exact List.pairwise_iff_getElem.mp h.col i j hi hj e
        · subst e; omega
        · have := List.pairwise_iff_getElem.mp h.inc j i hj hi e; omega
  obtain ⟨a1, a2⟩ := List.pairwise_and_iff.mp all
  refine ⟨fun r hr => ?_, fun r hr => ?_, fun r hr => ?_, a1, a2⟩
  · rcases mem r hr with ⟨o, ho, hlt, rfl⟩ | rfl | ⟨ho, _⟩
    · exact (bef o ho hlt).1
    · exact hn
    · exact h.rows r ho
  · rcases mem r hr with ⟨o, ho, hlt, rfl⟩ | rfl | ⟨ho, _⟩
    · rw [(bef o ho hlt).2.2.2]; exact h.lt o ho
    · exact hl
    · exact h.lt r ho
  · rcases mem r hr with ⟨o, ho, hlt, rfl⟩ | rfl | ⟨ho, _⟩
    · obtain ⟨_, k1, _, k3⟩ := bef o ho hlt
      rw [k3, k1 _ (hz o ho)]; exact h.one o ho
    · exact h1
    · exact h.one r ho
theorem new_ok {p : Int} {inv : Int → Int} (I : Inv p inv) {n : Nat} {left : List Int} (hr : Row p n left) (hl : lead left < left.length) :
    Row p n (scale p (inv (at0 left (lead left))) left) ∧ lead (scale p (inv (at0 left (lead left))) left) = lead left ∧ at0 (scale p (inv (at0 left (lead left))) left) (lead left) = 1 := by
  have h2 := I.two
  have b := hr.bound (by omega) (lead left)
  have nz := lead_ne hl
  have e : at0 (scale p (inv (at0 left (lead left))) left) (lead left) = 1 := by rw [at0_scale]; exact I.mul _ (by omega) b.2
  refine ⟨scale_row (by omega) hr.1, lead_eq (by rw [e]; decide) fun j hj => ?_, e⟩
  rw [at0_scale, lead_zero hj]; simp
theorem joined_ok {p : Int} {inv : Int → Int} (I : Inv p inv) {n : Nat} {b : List (List Int)} (h : Rref p n b) {r : List Int} (hr : Row p n r) : Rref p n (joined inv p b r) := by
  have h2 := I.two
  obtain ⟨hl, hz⟩ := h.rest (by omega) hr
  unfold joined
  by_cases e : lead (restOf p b r) = (restOf p b r).length
  · rw [if_pos e]; exact h
  · rw [if_neg e]
    have lt : lead (restOf p b r) < (restOf p b r).length := Nat.lt_of_le_of_ne lead_le e
    obtain ⟨k1, k2, k3⟩ := new_ok I hl lt
    have := joinL_ok h2 h k1 (by rw [k2]; rw [hl.1] at lt; exact lt) (by rw [k2]; exact k3) (fun o ho => by rw [at0_scale, hz o ho]; simp)
    rwa [k2] at this
theorem Rref.nil {p : Int} {n : Nat} : Rref p n [] := ⟨(fun _ h => nomatch h), (fun _ h => nomatch h), (fun _ h => nomatch h), .nil, .nil⟩
theorem fold_ok {p : Int} {inv : Int → Int} (I : Inv p inv) {n : Nat} : ∀ (rows b : List (List Int)), Rref p n b → (∀ r ∈ rows, Row p n r) → Rref p n (rows.foldl (joined inv p) b)
  | [], b, h, _ => h
  | r :: rows, b, h, hr => fold_ok I rows _ (joined_ok I h (hr r (.head _))) fun s hs => hr s (.tail _ hs)
theorem reduced_ok {p : Int} {inv : Int → Int} (I : Inv p inv) {n : Nat} {rows : List (List Int)} (hr : ∀ r ∈ rows, Row p n r) : Rref p n (reduced inv p rows) := fold_ok I rows [] .nil hr
/-! ## the reduced basis of a reduced basis is itself -/
theorem addR_zero {p : Int} {n : Nat} {r o : List Int} (h2 : 0 < p) (h : Row p n r) (h' : o.length = n) : addR p r 0 o = r := by
  refine ext0 (by rw [addR_len h.1 h', h.1]) fun i hi => ?_
  rw [at0_addR (by rw [h.1, h']), Int.zero_mul, Int.add_zero, h.emod h2]
theorem inv_one {p : Int} {inv : Int → Int} (I : Inv p inv) : inv 1 % p = 1 := by
  have := I.mul 1 (by omega) (by have := I.two; omega)
  rwa [Int.mul_one] at this
theorem scale_one {p f : Int} {n : Nat} {r : List Int} (h2 : 0 < p) (h : Row p n r) (hf : f % p = 1) : scale p f r = r := by
  refine ext0 scale_len fun i hi => ?_
  rw [at0_scale, Int.mul_emod, hf, Int.one_mul, Int.emod_emod_of_dvd _ (Int.dvd_refl p), h.emod h2]
theorem joined_last {p : Int} {inv : Int → Int} (I : Inv p inv) {n : Nat} {b : List (List Int)} {r : List Int} (h : Rref p n (b ++ [r])) : joined inv p b r = b ++ [r] := by
  have h2 := I.two
  have hr := h.rows r (by simp)
  have hrl := h.lt r (by simp)
  have inc := List.pairwise_append.mp h.inc
  have col := List.pairwise_append.mp h.col
  have e : restOf p b r = r := restOf_id b r fun o ho => lead_zero (inc.2.2 o ho r (.head _))
  unfold joined
  rw [e, if_neg (by rw [hr.1]; omega), h.one r (by simp), scale_one (by omega) hr (inv_one I)]
  unfold joinL
  have f1 : b.filter (fun o => decide (lead o < lead r)) = b := List.filter_eq_self.mpr fun o ho => decide_eq_true (inc.2.2 o ho r (.head _))
  have f2 : b.filter (fun o => decide (lead r < lead o)) = [] := List.filter_eq_nil_iff.mpr fun o ho => by
    have := inc.2.2 o ho r (.head _)
    simp only [decide_eq_true_eq]; omega
  rw [f1, f2]
  have f3 : b.map (fun o => addR p o (-at0 o (lead r)) r) = b := by
    refine (List.map_congr_left fun o ho => ?_).trans (List.map_id b)
    rw [col.2.2 o ho r (.head _), Int.neg_zero, addR_zero (by omega) (h.rows o (by simp [ho])) hr.1]
    rfl
  rw [f3]
theorem Rref.init {p : Int} {n : Nat} {b c : List (List Int)} (h : Rref p n (b ++ c)) : Rref p n b :=
  ⟨fun r hr => h.rows r (List.mem_append_left _ hr), fun r hr => h.lt r (List.mem_append_left _ hr), fun r hr => h.one r (List.mem_append_left _ hr), (List.pairwise_append.mp h.inc).1, (List.pairwise_append.mp h.col).1⟩
theorem fold_last {p : Int} {inv : Int → Int} (I : Inv p inv) {n : Nat} : ∀ (c b : List (List Int)), Rref p n (b ++ c) → c.foldl (joined inv p) b = b ++ c
  | [], b, _ => (List.append_nil b).symm
  | r :: c, b, h => by
    have e : b ++ r :: c = (b ++ [r]) ++ c := by simp
    rw [e] at h
    show c.foldl (joined inv p) (joined inv p b r) = _
    rw [joined_last I h.init, fold_last I c _ h, e]
theorem reduced_id {p : Int} {inv : Int → Int} (I : Inv p inv) {n : Nat} {b : List (List Int)} (h : Rref p n b) : reduced inv p b = b := fold_last I b [] h
end RX

set_option linter.all false
/-! # Spans of rows, counted (plain mathematics, no Python) -/
namespace RX
/-- the sums of multiples of some rows -/
inductive InS (p : Int) (n : Nat) (B : List (List Int)) : List Int → Prop
  | zero : InS p n B (List.replicate n 0)
  | add {v r : List Int} (f : Int) : InS p n B v → r ∈ B → InS p n B (addR p v f r)
def Len (n : Nat) (B : List (List Int)) : Prop := ∀ r ∈ B, r.length = n
theorem zero_row {p : Int} {n : Nat} (h : 0 < p) : Row p n (List.replicate n 0) := ⟨by simp, fun x hx => by rw [List.eq_of_mem_replicate hx]; omega⟩
theorem InS.row {p : Int} {n : Nat} {B : List (List Int)} {v : List Int} (h : 0 < p) (hB : Len n B) (i : InS p n B v) : Row p n v := by
  induction i with
  | zero => exact zero_row h
  | add f i hr ih => exact addR_row h ih.1 (hB _ hr)
theorem emod_l {p a b : Int} : (a % p + b) % p = (a + b) % p := by simp
theorem emod_m {p a f b : Int} : (a + f * (b % p)) % p = (a + f * b) % p := by
  rw [Int.add_emod, Int.mul_emod, Int.emod_emod_of_dvd _ (Int.dvd_refl p), ← Int.mul_emod, ← Int.add_emod]
theorem addR_assoc {p f g : Int} {n : Nat} {v u r : List Int} (hv : v.length = n) (hu : u.length = n) (hr : r.length = n) : addR p v f (addR p u g r) = addR p (addR p v f u) (f * g) r := by
  have l1 : (addR p u g r).length = n := addR_len hu hr
  have l2 : (addR p v f u).length = n := addR_len hv hu
  refine ext0 (by rw [addR_len hv l1, addR_len l2 hr]) fun i hi => ?_
  rw [at0_addR (by omega), at0_addR (by omega), at0_addR (by omega), at0_addR (by omega), emod_m, emod_l]
  congr 1
  rw [Int.mul_add, Int.mul_assoc, Int.add_assoc]
theorem addR_comm {p f g : Int} {n : Nat} {v u r : List Int} (hv : v.length = n) (hu : u.length = n) (hr : r.length = n) : addR p (addR p v f u) g r = addR p (addR p v g r) f u := by
  have l1 : (addR p v f u).length = n := addR_len hv hu
  have l2 : (addR p v g r).length = n := addR_len hv hr
  refine ext0 (by rw [addR_len l1 hr, addR_len l2 hu]) fun i hi => ?_
  rw [at0_addR (by omega), at0_addR (by omega), at0_addR (by omega), at0_addR (by omega), emod_l, emod_l]
  congr 1
  omega
theorem addR_two {p f g : Int} {n : Nat} {v r : List Int} (hv : v.length = n) (hr : r.length = n) : addR p (addR p v f r) g r = addR p v ((f + g) % p) r := by
  have l1 : (addR p v f r).length = n := addR_len hv hr
  refine ext0 (by rw [addR_len l1 hr, addR_len hv hr]) fun i hi => ?_
  rw [at0_addR (by omega), at0_addR (by omega), at0_addR (by omega), emod_l, Int.add_assoc, ← Int.add_mul]
  rw [Int.mul_comm ((f + g) % p), Int.mul_comm (f + g), emod_m]
theorem addR_rep {p f : Int} {n : Nat} {v : List Int} (h : 0 < p) (hv : Row p n v) : addR p v f (List.replicate n 0) = v := by
  refine ext0 (by rw [addR_len hv.1 (by simp), hv.1]) fun i hi => ?_
  rw [at0_addR (by rw [hv.1]; simp), at0_rep, Int.mul_zero, Int.add_zero, hv.emod h]
theorem InS.comb {p f : Int} {n : Nat} {B : List (List Int)} {v u : List Int} (h : 0 < p) (hB : Len n B) (i : InS p n B v) (j : InS p n B u) : InS p n B (addR p v f u) := by
  induction j with
  | zero => rw [addR_rep h (i.row h hB)]; exact i
  | add g j hr ih =>
    rw [addR_assoc (i.row h hB).1 (j.row h hB).1 (hB _ hr)]
    exact ih.add _ hr
theorem zero_add {p : Int} {n : Nat} {f : Int} {r : List Int} (hr : r.length = n) : addR p (List.replicate n 0) f r = scale p f r := by
  refine ext0 (by rw [addR_len (by simp) hr, scale_len, hr]) fun i hi => ?_
  rw [at0_addR (by rw [hr]; simp), at0_rep, at0_scale, Int.zero_add]
theorem InS.self {p : Int} {n : Nat} {B : List (List Int)} {r : List Int} (h : 2 ≤ p) (hr : Row p n r) (m : r ∈ B) : InS p n B r := by
  have := InS.add (p := p) (n := n) 1 (.zero (B := B)) m
  rwa [zero_add hr.1, scale_one (by omega) hr (Int.emod_eq_of_lt (by omega) (by omega))] at this
theorem InS.imp {p : Int} {n : Nat} {B B' : List (List Int)} {v : List Int} (h : 0 < p) (hB : Len n B') (i : InS p n B v) (k : ∀ r ∈ B, InS p n B' r) : InS p n B' v := by
  induction i with
  | zero => exact .zero
  | add f i hr ih => exact ih.comb h hB (k _ hr)
theorem InS.scale {p f : Int} {n : Nat} {B : List (List Int)} {r : List Int} (h : 0 < p) (hB : Len n B) (i : InS p n B r) : InS p n B (RX.scale p f r) := by
  rw [← zero_add (i.row h hB).1]
  exact InS.comb h hB .zero i
/-! ## what a step of the reducing does to the span -/
theorem addR_back {p f : Int} {n : Nat} {r o : List Int} (h : 0 < p) (hr : Row p n r) (ho : o.length = n) : addR p (addR p r (-f) o) f o = r := by
  rw [addR_two hr.1 ho, Int.add_left_neg, Int.zero_emod, addR_zero h hr ho]
theorem rest_in {p : Int} {n : Nat} {B : List (List Int)} (h : 0 < p) (hB : Len n B) : ∀ (l : List (List Int)) (r : List Int), (∀ o ∈ l, InS p n B o) → Row p n r → (InS p n B (restOf p l r) ↔ InS p n B r)
  | [], r, _, _ => Iff.rfl
  | o :: l, r, hl, hr => by
    have ho := hl o (.head _)
    have hol := ho.row h hB
    have hl' : ∀ a ∈ l, InS p n B a := fun a ha => hl a (.tail _ ha)
    by_cases e : at0 r (lead o) = 0
    · have e2 : restOf p (o :: l) r = restOf p l r := by
        show restOf p l (if at0 r (lead o) = 0 then r else addR p r (-at0 r (lead o)) o) = _
        rw [if_pos e]
      rw [e2]
      exact rest_in h hB l r hl' hr
    · have e2 : restOf p (o :: l) r = restOf p l (addR p r (-at0 r (lead o)) o) := by
        show restOf p l (if at0 r (lead o) = 0 then r else addR p r (-at0 r (lead o)) o) = _
        rw [if_neg e]
      rw [e2, rest_in h hB l _ hl' (addR_row h hr.1 hol.1)]
      refine ⟨fun i => ?_, fun i => i.comb h hB ho⟩
      have := i.comb (f := at0 r (lead o)) h hB ho
      rwa [addR_back h hr hol.1] at this
theorem left_back {p : Int} {inv : Int → Int} (I : Inv p inv) {n : Nat} {left : List Int} (hr : Row p n left) (hl : lead left < left.length) :
    scale p (at0 left (lead left)) (scale p (inv (at0 left (lead left))) left) = left := by
  have h2 := I.two
  have b := hr.bound (by omega) (lead left)
  have nz := lead_ne hl
  have m := I.mul _ (by omega) b.2
  refine ext0 (by rw [scale_len, scale_len]) fun i hi => ?_
  rw [at0_scale, at0_scale]
  have e := @emod_m p 0 (at0 left (lead left)) (inv (at0 left (lead left)) * at0 left i)
  rw [Int.zero_add, Int.zero_add] at e
  rw [e, ← Int.mul_assoc, Int.mul_comm (at0 left (lead left)), Int.mul_emod, m, Int.one_mul, Int.emod_emod_of_dvd _ (Int.dvd_refl p), hr.emod (by omega)]
theorem joined_in {p : Int} {inv : Int → Int} (I : Inv p inv) {n : Nat} {B b : List (List Int)} (hB : Len n B) {r : List Int} (hr : Row p n r) (hb : ∀ o ∈ b, InS p n B o) (hi : InS p n B r) : ∀ s ∈ joined inv p b r, InS p n B s := by
  have h2 := I.two
  have h0 : 0 < p := by omega
  intro s hs
  unfold joined at hs
  by_cases e : lead (restOf p b r) = (restOf p b r).length
  · rw [if_pos e] at hs; exact hb s hs
  · rw [if_neg e] at hs
    have hn := ((rest_in h0 hB b r hb hr).mpr hi).scale (f := inv (at0 (restOf p b r) (lead (restOf p b r)))) h0 hB
    rcases List.mem_append.mp hs with hs | hs
    · obtain ⟨o, ho, rfl⟩ := List.mem_map.mp hs
      exact (hb o (List.mem_filter.mp ho).1).comb h0 hB hn
    · rcases List.mem_cons.mp hs with rfl | hs
      · exact hn
      · exact hb s (List.mem_filter.mp hs).1
theorem in_joined {p : Int} {inv : Int → Int} (I : Inv p inv) {n : Nat} {b : List (List Int)} (h : Rref p n b) {r : List Int} (hr : Row p n r) : (∀ o ∈ b, InS p n (joined inv p b r) o) ∧ InS p n (joined inv p b r) r := by
  have h2 := I.two
  have h0 : 0 < p := by omega
  have J := joined_ok I h hr
  have hB : Len n (joined inv p b r) := fun s hs => (J.rows s hs).1
  obtain ⟨hl, hz⟩ := h.rest h0 hr
  have key : ∀ o ∈ b, InS p n (joined inv p b r) o := by
    intro o ho
    by_cases e : lead (restOf p b r) = (restOf p b r).length
    · have ej : joined inv p b r = b := by unfold joined; rw [if_pos e]
      rw [ej]
      exact .self h2 (h.rows o ho) ho
    · have lt : lead (restOf p b r) < (restOf p b r).length := Nat.lt_of_le_of_ne lead_le e
      have ej : joined inv p b r = joinL p b (lead (restOf p b r)) (scale p (inv (at0 (restOf p b r) (lead (restOf p b r)))) (restOf p b r)) := by unfold joined; rw [if_neg e]
      have hnew : scale p (inv (at0 (restOf p b r) (lead (restOf p b r)))) (restOf p b r) ∈ joined inv p b r := by
        rw [ej]; exact List.mem_append_right _ (.head _)
      rcases Nat.lt_trichotomy (lead o) (lead (restOf p b r)) with c | c | c
      · have ht : addR p o (-at0 o (lead (restOf p b r))) (scale p (inv (at0 (restOf p b r) (lead (restOf p b r)))) (restOf p b r)) ∈ joined inv p b r := by
          rw [ej]
          exact List.mem_append_left _ (List.mem_map.mpr ⟨o, List.mem_filter.mpr ⟨ho, decide_eq_true c⟩, rfl⟩)
        have := (InS.self h2 (J.rows _ ht) ht).add (at0 o (lead (restOf p b r))) hnew
        rwa [addR_back h0 (h.rows o ho) (J.rows _ hnew).1] at this
      · exfalso
        have := hz o ho
        rw [c] at this
        exact lead_ne lt this
      · have ht : o ∈ joined inv p b r := by
          rw [ej]
          exact List.mem_append_right _ (.tail _ (List.mem_filter.mpr ⟨ho, decide_eq_true c⟩))
        exact .self h2 (J.rows _ ht) ht
  refine ⟨key, ?_⟩
  rw [← rest_in h0 hB b r key hr]
  by_cases e : lead (restOf p b r) = (restOf p b r).length
  · have e0 : restOf p b r = List.replicate n 0 := ext0 (by rw [hl.1]; simp) fun i hi => by rw [lead_out e, at0_rep]
    rw [e0]
    exact .zero
  · have lt : lead (restOf p b r) < (restOf p b r).length := Nat.lt_of_le_of_ne lead_le e
    have ej : joined inv p b r = joinL p b (lead (restOf p b r)) (scale p (inv (at0 (restOf p b r) (lead (restOf p b r)))) (restOf p b r)) := by unfold joined; rw [if_neg e]
    have hnew : scale p (inv (at0 (restOf p b r) (lead (restOf p b r)))) (restOf p b r) ∈ joined inv p b r := by
      rw [ej]; exact List.mem_append_right _ (.head _)
    have := InS.add (p := p) (n := n) (at0 (restOf p b r) (lead (restOf p b r))) (.zero (B := joined inv p b r)) hnew
    rwa [zero_add (J.rows _ hnew).1, left_back I hl lt] at this
theorem fold_in {p : Int} {inv : Int → Int} (I : Inv p inv) {n : Nat} {B : List (List Int)} (hB : Len n B) : ∀ (rows b : List (List Int)), (∀ r ∈ rows, Row p n r) → (∀ o ∈ b, InS p n B o) → (∀ r ∈ rows, InS p n B r) → ∀ s ∈ rows.foldl (joined inv p) b, InS p n B s
  | [], b, _, hb, _ => hb
  | r :: rows, b, hr, hb, hi => fold_in I hB rows _ (fun s hs => hr s (.tail _ hs)) (joined_in I hB (hr r (.head _)) hb (hi r (.head _))) fun s hs => hi s (.tail _ hs)
theorem in_fold {p : Int} {inv : Int → Int} (I : Inv p inv) {n : Nat} : ∀ (rows b : List (List Int)), Rref p n b → (∀ r ∈ rows, Row p n r) → (∀ o ∈ b, InS p n (rows.foldl (joined inv p) b) o) ∧ ∀ r ∈ rows, InS p n (rows.foldl (joined inv p) b) r
  | [], b, h, _ => ⟨fun o ho => .self I.two (h.rows o ho) ho, (fun _ h => nomatch h)⟩
  | r :: rows, b, h, hr => by
    have h0 : 0 < p := by have := I.two; omega
    obtain ⟨k1, k2⟩ := in_joined I h (hr r (.head _))
    have J := joined_ok I h (hr r (.head _))
    obtain ⟨m1, m2⟩ := in_fold I rows _ J fun s hs => hr s (.tail _ hs)
    have hB : Len n (rows.foldl (joined inv p) (joined inv p b r)) := fun s hs => ((fold_ok I rows _ J fun s hs => hr s (.tail _ hs)).rows s hs).1
    refine ⟨fun o ho => (k1 o ho).imp h0 hB m1, fun s hs => ?_⟩
    rcases List.mem_cons.mp hs with rfl | hs
    · exact k2.imp h0 hB m1
    · exact m2 s hs
/-- the reduced basis has the same span -/
theorem reduced_span {p : Int} {inv : Int → Int} (I : Inv p inv) {n : Nat} {rows : List (List Int)} (hr : ∀ r ∈ rows, Row p n r) (v : List Int) : InS p n (reduced inv p rows) v ↔ InS p n rows v := by
  have h0 : 0 < p := by have := I.two; omega
  have hB : Len n rows := fun r h => (hr r h).1
  have R := reduced_ok I hr
  refine ⟨fun i => i.imp h0 hB (fold_in I hB rows [] hr (fun _ h => nomatch h) fun r h => .self I.two (hr r h) h), fun i => i.imp h0 (fun r h => (R.rows r h).1) (in_fold I rows [] .nil hr).2⟩
end RX

set_option linter.all false
/-! # All vectors of a span, each once; the reduced basis is the only one (plain mathematics, no Python) -/
namespace RX
/-- the sums of multiples, gone through -/
def combos (p : Int) (n : Nat) : List (List Int) → List (List Int)
  | [] => [List.replicate n 0]
  | r :: b => (combos p n b).flatMap fun v => (List.range p.toNat).map fun f : Nat => addR p v (f : Int) r
theorem combos_cons {p : Int} {n : Nat} {b : List (List Int)} {r v : List Int} : v ∈ combos p n (r :: b) ↔ ∃ w ∈ combos p n b, ∃ f : Nat, f < p.toNat ∧ v = addR p w (f : Int) r := by
  simp only [combos, List.mem_flatMap, List.mem_map, List.mem_range]
  exact ⟨fun ⟨w, hw, f, hf, e⟩ => ⟨w, hw, f, hf, e.symm⟩, fun ⟨w, hw, f, hf, e⟩ => ⟨w, hw, f, hf, e.symm⟩⟩
theorem sum_map_const {α : Type} (k : Nat) : ∀ l : List α, (l.map fun _ => k).sum = l.length * k
  | [] => by simp
  | a :: l => by rw [List.map_cons, List.sum_cons, sum_map_const k l, List.length_cons, Nat.succ_mul, Nat.add_comm]
theorem combos_length {p : Int} {n : Nat} : ∀ b : List (List Int), (combos p n b).length = p.toNat ^ b.length
  | [] => by simp [combos]
  | r :: b => by
    have ih := combos_length (p := p) (n := n) b
    simp only [combos, List.length_flatMap, List.length_map, List.length_range, List.length_cons, Nat.pow_succ, ← ih]
    exact sum_map_const _ _
theorem combos_in {p : Int} {n : Nat} : ∀ (b : List (List Int)) {v : List Int}, v ∈ combos p n b → InS p n b v
  | [], v, h => by
    rw [List.mem_singleton.mp h]
    exact .zero
  | r :: b, v, h => by
    obtain ⟨w, hw, f, _, rfl⟩ := combos_cons.mp h
    have := combos_in b hw
    have up : ∀ {u}, InS p n b u → InS p n (r :: b) u := fun i => by
      induction i with
      | zero => exact .zero
      | add f i hr ih => exact ih.add f (.tail _ hr)
    exact (up this).add _ (.head _)
theorem combos_row {p : Int} {n : Nat} {b : List (List Int)} (h : 0 < p) (hb : Len n b) {v : List Int} (hv : v ∈ combos p n b) : Row p n v := (combos_in b hv).row h hb
theorem combos_add {p : Int} {n : Nat} (h : 0 < p) : ∀ (b : List (List Int)), Len n b → ∀ {v : List Int}, v ∈ combos p n b → ∀ {s : List Int}, s ∈ b → ∀ g : Int, addR p v g s ∈ combos p n b
  | [], _, v, _, s, hs, _ => nomatch hs
  | r :: b, hb, v, hv, s, hs, g => by
    have hb' : Len n b := fun a ha => hb a (.tail _ ha)
    obtain ⟨w, hw, f, hf, rfl⟩ := combos_cons.mp hv
    have wr := combos_row h hb' hw
    have rr := hb r (.head _)
    rcases List.mem_cons.mp hs with rfl | hs
    · rw [addR_two wr.1 rr]
      have m0 := Int.emod_nonneg ((f : Int) + g) (show p ≠ 0 by omega)
      have m1 := Int.emod_lt_of_pos ((f : Int) + g) h
      refine combos_cons.mpr ⟨w, hw, (((f : Int) + g) % p).toNat, by omega, ?_⟩
      rw [Int.toNat_of_nonneg m0]
    · rw [addR_comm wr.1 rr (hb' s hs)]
      exact combos_cons.mpr ⟨_, combos_add h b hb' hw hs g, f, hf, rfl⟩
theorem combos_zero {p : Int} {n : Nat} (h : 0 < p) : ∀ (b : List (List Int)), Len n b → List.replicate n 0 ∈ combos p n b
  | [], _ => .head _
  | r :: b, hb => combos_cons.mpr ⟨_, combos_zero h b (fun a ha => hb a (.tail _ ha)), 0, by omega, by
      have := addR_zero (p := p) (o := r) h (zero_row (n := n) h) (hb r (.head _))
      exact this.symm⟩
theorem combos_iff {p : Int} {n : Nat} {b : List (List Int)} (h : 0 < p) (hb : Len n b) (v : List Int) : v ∈ combos p n b ↔ InS p n b v := by
  refine ⟨combos_in b, fun i => ?_⟩
  induction i with
  | zero => exact combos_zero h b hb
  | add f i hr ih => exact combos_add h b hb ih hr f
/-! ## over a reduced basis -/
theorem Rref.tail {p : Int} {n : Nat} {r : List Int} {b : List (List Int)} (h : Rref p n (r :: b)) : Rref p n b :=
  ⟨fun s hs => h.rows s (.tail _ hs), fun s hs => h.lt s (.tail _ hs), fun s hs => h.one s (.tail _ hs), (List.pairwise_cons.mp h.inc).2, (List.pairwise_cons.mp h.col).2⟩
theorem Rref.len {p : Int} {n : Nat} {b : List (List Int)} (h : Rref p n b) : Len n b := fun r hr => (h.rows r hr).1
/-- the sums of the rows behind have 0 up to the first row's place -/
theorem tail_zero {p : Int} {n : Nat} {c : Nat} {b : List (List Int)} (hb : Len n b) (hc : ∀ s ∈ b, ∀ i, i ≤ c → at0 s i = 0) {v : List Int} (i : InS p n b v) (h : 0 < p) : ∀ j, j ≤ c → at0 v j = 0 := by
  intro j hj
  induction i with
  | zero => exact at0_rep
  | add f i hr ih =>
    rw [at0_addR (by rw [(i.row h hb).1, hb _ hr]), ih, hc _ hr j hj]
    simp
theorem Rref.behind {p : Int} {n : Nat} {r : List Int} {b : List (List Int)} (h : Rref p n (r :: b)) (h0 : 0 < p) {v : List Int} (i : InS p n b v) : ∀ j, j ≤ lead r → at0 v j = 0 :=
  tail_zero h.tail.len (fun s hs j hj => lead_zero (Nat.lt_of_le_of_lt hj ((List.pairwise_cons.mp h.inc).1 s hs))) i h0
theorem at_first {p : Int} {n : Nat} {r : List Int} {b : List (List Int)} (h : Rref p n (r :: b)) (h0 : 0 < p) {w : List Int} (hw : InS p n b w) {f : Int} (f0 : 0 ≤ f) (f1 : f < p) : at0 (addR p w f r) (lead r) = f := by
  have wr := hw.row h0 h.tail.len
  rw [at0_addR (by rw [wr.1, (h.rows r (.head _)).1]), h.behind h0 hw _ (Nat.le_refl _), h.one r (.head _), Int.zero_add, Int.mul_one]
  exact Int.emod_eq_of_lt f0 f1
theorem combos_nodup {p : Int} {n : Nat} (h0 : 0 < p) : ∀ (b : List (List Int)), Rref p n b → (combos p n b).Nodup
  | [], _ => by simp [combos]
  | r :: b, h => by
    have ih := combos_nodup h0 b h.tail
    have hb := h.tail.len
    have rl := (h.rows r (.head _)).1
    refine List.pairwise_flatMap.mpr ⟨fun w hw => ?_, ?_⟩
    · refine List.pairwise_map.mpr (List.Pairwise.imp_of_mem ?_ List.nodup_range)
      intro f g hf hg e e2
      have hf' := List.mem_range.mp hf
      have hg' := List.mem_range.mp hg
      have k1 := at_first h h0 (combos_in b hw) (f := (f : Int)) (by omega) (by omega)
      have k2 := at_first h h0 (combos_in b hw) (f := (g : Int)) (by omega) (by omega)
      rw [e2, k2] at k1
      omega
    · refine List.Pairwise.imp_of_mem ?_ ih
      intro w u hw hu e x hx y hy e2
      obtain ⟨f, hf, rfl⟩ := List.mem_map.mp hx
      obtain ⟨g, hg, rfl⟩ := List.mem_map.mp hy
      have hf' := List.mem_range.mp hf
      have hg' := List.mem_range.mp hg
      have k1 := at_first h h0 (combos_in b hw) (f := (f : Int)) (by omega) (by omega)
      have k2 := at_first h h0 (combos_in b hu) (f := (g : Int)) (by omega) (by omega)
      rw [e2, k2] at k1
      obtain rfl : g = f := by omega
      have wr := combos_row h0 hb hw
      have ur := combos_row h0 hb hu
      have b1 := addR_two (p := p) (f := (g : Int)) (g := -(g : Int)) wr.1 rl
      have b2 := addR_two (p := p) (f := (g : Int)) (g := -(g : Int)) ur.1 rl
      rw [e2, b2, Int.add_right_neg, Int.zero_emod, addR_zero h0 ur rl, addR_zero h0 wr rl] at b1
      exact e b1.symm
/-- one that is 0 at all first places is the row of zeros -/
theorem zero_of {p : Int} {n : Nat} (h0 : 0 < p) : ∀ (b : List (List Int)), Rref p n b → ∀ v, InS p n b v → (∀ r ∈ b, at0 v (lead r) = 0) → v = List.replicate n 0
  | [], h, v, i, _ => by
    have := (combos_iff h0 h.len v).mpr i
    exact List.mem_singleton.mp this
  | r :: b, h, v, i, hz => by
    obtain ⟨w, hw, f, hf, rfl⟩ := combos_cons.mp ((combos_iff h0 h.len v).mpr i)
    have wr := combos_row h0 h.tail.len hw
    have rl := (h.rows r (.head _)).1
    have k := at_first h h0 (combos_in b hw) (f := (f : Int)) (by omega) (by omega)
    rw [hz r (.head _)] at k
    have e : addR p w (f : Int) r = w := by rw [← k]; exact addR_zero h0 wr rl
    rw [e] at hz ⊢
    exact zero_of h0 b h.tail w (combos_in b hw) fun s hs => hz s (.tail _ hs)
/-- the first place of one that is not all zeros is that of a row -/
theorem lead_in {p : Int} {n : Nat} (h0 : 0 < p) : ∀ (b : List (List Int)), Rref p n b → ∀ v, InS p n b v → v ≠ List.replicate n 0 → ∃ r ∈ b, lead v = lead r
  | [], h, v, i, ne => by
    have := (combos_iff h0 h.len v).mpr i
    exact absurd (List.mem_singleton.mp this) ne
  | r :: b, h, v, i, ne => by
    obtain ⟨w, hw, f, hf, rfl⟩ := combos_cons.mp ((combos_iff h0 h.len v).mpr i)
    have wr := combos_row h0 h.tail.len hw
    have rl := (h.rows r (.head _)).1
    have k := at_first h h0 (combos_in b hw) (f := (f : Int)) (by omega) (by omega)
    by_cases e : f = 0
    · have e2 : addR p w (f : Int) r = w := by rw [e]; exact addR_zero h0 wr rl
      rw [e2] at ne ⊢
      obtain ⟨s, hs, hl⟩ := lead_in h0 b h.tail w (combos_in b hw) ne
      exact ⟨s, .tail _ hs, hl⟩
    · refine ⟨r, .head _, lead_eq (by rw [k]; omega) fun j hj => ?_⟩
      rw [at0_addR (by rw [wr.1, rl]), h.behind h0 (combos_in b hw) j (by omega), lead_zero hj]
      simp
theorem Rref.ne_zero {p : Int} {n : Nat} {b : List (List Int)} (h : Rref p n b) {r : List Int} (hr : r ∈ b) : r ≠ List.replicate n 0 := fun e => by
  have := h.one r hr
  rw [e, at0_rep] at this
  omega
/-- at the first places of the rows, each row has 1 or 0 -/
theorem Rref.cols {p : Int} {n : Nat} {b : List (List Int)} (h : Rref p n b) {r s : List Int} (hr : r ∈ b) (hs : s ∈ b) : at0 r (lead s) = if lead r = lead s then 1 else 0 := by
  obtain ⟨i, hi, rfl⟩ := List.mem_iff_getElem.mp hr
  obtain ⟨j, hj, rfl⟩ := List.mem_iff_getElem.mp hs
  rcases Nat.lt_trichotomy i j with e | e | e
  · have l := List.pairwise_iff_getElem.mp h.inc i j hi hj e
    rw [if_neg (by omega)]
    exact List.pairwise_iff_getElem.mp h.col i j hi hj e
  · subst e
    rw [if_pos rfl]
    exact h.one _ hr
  · have l := List.pairwise_iff_getElem.mp h.inc j i hj hi e
    rw [if_neg (by omega)]
    exact lead_zero l
theorem sorted_eq : ∀ (l m : List Nat), l.Pairwise (· < ·) → m.Pairwise (· < ·) → (∀ x, x ∈ l ↔ x ∈ m) → l = m
  | [], [], _, _, _ => rfl
  | [], y :: m, _, _, h => nomatch (h y).mpr (.head _)
  | x :: l, [], _, _, h => nomatch (h x).mp (.head _)
  | x :: l, y :: m, hl, hm, h => by
    obtain ⟨l1, l2⟩ := List.pairwise_cons.mp hl
    obtain ⟨m1, m2⟩ := List.pairwise_cons.mp hm
    have exy : x = y := by
      rcases List.mem_cons.mp ((h x).mp (.head _)) with e | e
      · exact e
      · rcases List.mem_cons.mp ((h y).mpr (.head _)) with e2 | e2
        · exact e2.symm
        · have := l1 y e2; have := m1 x e; omega
    subst exy
    rw [sorted_eq l m l2 m2 fun z => ⟨fun hz => ?_, fun hz => ?_⟩]
    · rcases List.mem_cons.mp ((h z).mp (.tail _ hz)) with e | e
      · have := l1 z hz; omega
      · exact e
    · rcases List.mem_cons.mp ((h z).mpr (.tail _ hz)) with e | e
      · have := m1 z hz; omega
      · exact e
theorem Rref.same_lead {p : Int} {n : Nat} (h2 : 2 ≤ p) {b c : List (List Int)} (hb : Rref p n b) (hc : Rref p n c) (e : ∀ v, InS p n b v ↔ InS p n c v) {r s : List Int} (hr : r ∈ b) (hs : s ∈ c) (el : lead r = lead s) (ls : ∀ t ∈ b, ∃ u ∈ c, lead t = lead u) : r = s := by
  have h0 : 0 < p := by omega
  have i1 : InS p n b r := .self h2 (hb.rows r hr) hr
  have i2 : InS p n b s := (e s).mpr (.self h2 (hc.rows s hs) hs)
  have z := zero_of h0 b hb (addR p r (-1) s) (i1.comb h0 hb.len i2) fun t ht => by
    obtain ⟨u, hu, eu⟩ := ls t ht
    rw [at0_addR (by rw [(hb.rows r hr).1, (hc.rows s hs).1]), hb.cols hr ht, eu, hc.cols hs hu, ← el]
    by_cases c : lead r = lead u
    · rw [if_pos c]; simp
    · rw [if_neg c]; simp
  have := addR_back (p := p) (f := 1) h0 (hb.rows r hr) (hc.rows s hs).1
  rw [z, zero_add (hc.rows s hs).1, scale_one h0 (hc.rows s hs) (Int.emod_eq_of_lt (by omega) (by omega))] at this
  exact this.symm
/-- one span, one reduced basis -/
theorem Rref.uniq {p : Int} {n : Nat} (h2 : 2 ≤ p) {b c : List (List Int)} (hb : Rref p n b) (hc : Rref p n c) (e : ∀ v, InS p n b v ↔ InS p n c v) : b = c := by
  have h0 : 0 < p := by omega
  have l1 : ∀ t ∈ b, ∃ u ∈ c, lead t = lead u := fun t ht => lead_in h0 c hc t ((e t).mp (.self h2 (hb.rows t ht) ht)) (hb.ne_zero ht)
  have l2 : ∀ t ∈ c, ∃ u ∈ b, lead t = lead u := fun t ht => lead_in h0 b hb t ((e t).mpr (.self h2 (hc.rows t ht) ht)) (hc.ne_zero ht)
  have em : b.map lead = c.map lead := sorted_eq _ _ (List.pairwise_map.mpr hb.inc) (List.pairwise_map.mpr hc.inc) fun x => by
    simp only [List.mem_map]
    exact ⟨fun ⟨t, ht, h⟩ => (l1 t ht).elim fun u hu => ⟨u, hu.1, hu.2 ▸ h⟩, fun ⟨t, ht, h⟩ => (l2 t ht).elim fun u hu => ⟨u, hu.1, hu.2 ▸ h⟩⟩
  have len : b.length = c.length := by have := congrArg List.length em; simpa using this
  refine List.ext_getElem len fun i h1 h3 => ?_
  have ei : lead b[i] = lead c[i] := by
    have := congrArg (fun l => l[i]?) em
    simp only [List.getElem?_map, List.getElem?_eq_getElem h1, List.getElem?_eq_getElem h3, Option.map_some, Option.some.injEq] at this
    exact this
  exact hb.same_lead h2 hc e (List.getElem_mem h1) (List.getElem_mem h3) ei l1
theorem reduced_eq {p : Int} {inv : Int → Int} (I : Inv p inv) {n : Nat} {rows rows' : List (List Int)} (hr : ∀ r ∈ rows, Row p n r) (hr' : ∀ r ∈ rows', Row p n r) (e : ∀ v, InS p n rows v ↔ InS p n rows' v) : reduced inv p rows = reduced inv p rows' :=
  (reduced_ok I hr).uniq I.two (reduced_ok I hr') fun v => by rw [reduced_span I hr, reduced_span I hr', e]
/-! ## how many there are -/
theorem nodup_le {α : Type} [DecidableEq α] : ∀ (l m : List α), l.Nodup → (∀ x ∈ l, x ∈ m) → l.length ≤ m.length
  | [], m, _, _ => Nat.zero_le _
  | x :: l, m, h, s => by
    obtain ⟨h1, h2⟩ := List.nodup_cons.mp h
    have hx := s x (.head _)
    have := nodup_le l (m.erase x) h2 fun y hy => (List.mem_erase_of_ne (fun e : y = x => h1 (e ▸ hy))).mpr (s y (.tail _ hy))
    rw [List.length_erase_of_mem hx] at this
    have := List.length_pos_of_mem hx
    rw [List.length_cons]; omega
theorem nodup_len {α : Type} [DecidableEq α] {l m : List α} (hl : l.Nodup) (hm : m.Nodup) (e : ∀ x, x ∈ l ↔ x ∈ m) : l.length = m.length :=
  Nat.le_antisymm (nodup_le l m hl fun x => (e x).mp) (nodup_le m l hm fun x => (e x).mpr)
/-- a list of all vectors of a span, each once, is as long as the power of the prime says -/
theorem span_count {p : Int} {n : Nat} {b l : List (List Int)} (h0 : 0 < p) (hb : Rref p n b) (hl : l.Nodup) (e : ∀ v, v ∈ l ↔ InS p n b v) : l.length = p.toNat ^ b.length := by
  rw [← combos_length (p := p) (n := n) b]
  exact nodup_len hl (combos_nodup h0 b hb) fun v => by rw [e, combos_iff h0 hb.len]
end RX

set_option linter.all false
/-! # The spans gone through by dicts, and rows sent by a matrix (plain mathematics, no Python) -/
namespace RX
/-! ## a dict's keys, in the order in which they came -/
def ins (l : List (List Int)) (k : List Int) : List (List Int) := if k ∈ l then l else l ++ [k]
theorem mem_ins {l : List (List Int)} {k x : List Int} : x ∈ ins l k ↔ x ∈ l ∨ x = k := by
  unfold ins
  by_cases h : k ∈ l
  · rw [if_pos h]
    exact ⟨.inl, fun e => e.elim id fun e => e ▸ h⟩
  · rw [if_neg h, List.mem_append, List.mem_singleton]
theorem ins_nodup {l : List (List Int)} {k : List Int} (h : l.Nodup) : (ins l k).Nodup := by
  unfold ins
  by_cases e : k ∈ l
  · rw [if_pos e]; exact h
  · rw [if_neg e]
    refine List.pairwise_append.mpr ⟨h, List.pairwise_singleton _ _, fun a ha b hb => ?_⟩
    rw [List.mem_singleton.mp hb]
    exact fun e2 => e (e2 ▸ ha)
theorem mem_insAll {x : List Int} : ∀ (ks l : List (List Int)), x ∈ ks.foldl ins l ↔ x ∈ l ∨ x ∈ ks
  | [], l => by simp
  | k :: ks, l => by
    rw [List.foldl_cons, mem_insAll ks, mem_ins, List.mem_cons]
    exact ⟨fun h => h.elim (fun h => h.elim .inl fun h => .inr (.inl h)) fun h => .inr (.inr h), fun h => h.elim (fun h => .inl (.inl h)) fun h => h.elim (fun h => .inl (.inr h)) .inr⟩
theorem insAll_nodup : ∀ (ks l : List (List Int)), l.Nodup → (ks.foldl ins l).Nodup
  | [], _, h => h
  | k :: ks, l, h => insAll_nodup ks _ (ins_nodup h)
def growKeys (p : Int) (found : List (List Int)) (v : List Int) : List (List Int) := found.flatMap fun old => (List.range p.toNat).map fun f : Nat => addR p old (f : Int) v
def grown (p : Int) (found : List (List Int)) (v : List Int) : List (List Int) := (growKeys p found v).foldl ins []
def modR (p : Int) (r : List Int) : List Int := r.map fun x => x % p
def spanStep (p : Int) (found : List (List Int)) (r : List Int) : List (List Int) := if modR p r ∈ found then found else grown p found (modR p r)
def spanL (p : Int) (n : Nat) (rows : List (List Int)) : List (List Int) := rows.foldl (spanStep p) [List.replicate n 0]
theorem modR_len {p : Int} {r : List Int} : (modR p r).length = r.length := by simp [modR]
theorem modR_row {p : Int} {n : Nat} {r : List Int} (h : 0 < p) (hr : r.length = n) : Row p n (modR p r) := by
  refine ⟨by rw [modR_len, hr], fun x hx => ?_⟩
  obtain ⟨y, _, rfl⟩ := List.mem_map.mp hx
  exact ⟨Int.emod_nonneg _ (by omega), Int.emod_lt_of_pos _ h⟩
theorem InS.mono {p : Int} {n : Nat} {B B' : List (List Int)} {v : List Int} (i : InS p n B v) (h : ∀ r ∈ B, r ∈ B') : InS p n B' v := by
  induction i with
  | zero => exact .zero
  | add f i hr ih => exact ih.add f (h _ hr)
theorem snoc_iff {p : Int} {n : Nat} {B : List (List Int)} {v u : List Int} (h : 0 < p) (hB : Len n B) (hv : v.length = n) : InS p n (B ++ [v]) u ↔ ∃ w, InS p n B w ∧ ∃ f : Nat, f < p.toNat ∧ u = addR p w (f : Int) v := by
  have hc : Len n (v :: B) := fun r hr => by
    rcases List.mem_cons.mp hr with rfl | hr
    · exact hv
    · exact hB r hr
  have e : InS p n (B ++ [v]) u ↔ InS p n (v :: B) u := ⟨fun i => i.mono fun r hr => by
      rcases List.mem_append.mp hr with hr | hr
      · exact .tail _ hr
      · rw [List.mem_singleton.mp hr]; exact .head _, fun i => i.mono fun r hr => by
      rcases List.mem_cons.mp hr with rfl | hr
      · simp
      · simp [hr]⟩
  rw [e, ← combos_iff h hc, combos_cons]
  exact ⟨fun ⟨w, hw, k⟩ => ⟨w, combos_in B hw, k⟩, fun ⟨w, hw, k⟩ => ⟨w, (combos_iff h hB w).mpr hw, k⟩⟩
theorem mem_growKeys {p : Int} {found : List (List Int)} {v x : List Int} : x ∈ growKeys p found v ↔ ∃ w ∈ found, ∃ f : Nat, f < p.toNat ∧ x = addR p w (f : Int) v := by
  simp only [growKeys, List.mem_flatMap, List.mem_map, List.mem_range]
  exact ⟨fun ⟨w, hw, f, hf, e⟩ => ⟨w, hw, f, hf, e.symm⟩, fun ⟨w, hw, f, hf, e⟩ => ⟨w, hw, f, hf, e.symm⟩⟩
theorem spanStep_ok {p : Int} {n : Nat} {B found : List (List Int)} {r : List Int} (h : 2 ≤ p) (hB : Len n B) (hr : r.length = n) (nd : found.Nodup) (e : ∀ v, v ∈ found ↔ InS p n B v) : (spanStep p found r).Nodup ∧ ∀ v, v ∈ spanStep p found r ↔ InS p n (B ++ [modR p r]) v := by
  have h0 : 0 < p := by omega
  have rr := modR_row (p := p) h0 hr
  unfold spanStep
  by_cases c : modR p r ∈ found
  · rw [if_pos c]
    refine ⟨nd, fun v => ?_⟩
    rw [e]
    refine ⟨fun i => i.mono fun s hs => List.mem_append_left _ hs, fun i => ?_⟩
    obtain ⟨w, hw, f, _, rfl⟩ := (snoc_iff h0 hB rr.1).mp i
    exact hw.comb h0 hB ((e _).mp c)
  · rw [if_neg c]
    refine ⟨insAll_nodup _ _ List.nodup_nil, fun v => ?_⟩
    rw [snoc_iff h0 hB rr.1]
    unfold grown
    rw [mem_insAll, mem_growKeys]
    refine ⟨fun k => k.elim (fun k => nomatch k) fun ⟨w, hw, k⟩ => ⟨w, (e w).mp hw, k⟩, fun ⟨w, hw, k⟩ => .inr ⟨w, (e w).mpr hw, k⟩⟩
theorem spanFold_ok {p : Int} {n : Nat} (h : 2 ≤ p) : ∀ (rows B found : List (List Int)), Len n B → Len n rows → found.Nodup → (∀ v, v ∈ found ↔ InS p n B v) → (rows.foldl (spanStep p) found).Nodup ∧ ∀ v, v ∈ rows.foldl (spanStep p) found ↔ InS p n (B ++ rows.map (modR p)) v
  | [], B, found, _, _, nd, e => ⟨nd, fun v => by simpa using e v⟩
  | r :: rows, B, found, hB, hr, nd, e => by
    have h0 : 0 < p := by omega
    obtain ⟨k1, k2⟩ := spanStep_ok h hB (hr r (.head _)) nd e
    have := spanFold_ok h rows (B ++ [modR p r]) _ (fun s hs => by
      rcases List.mem_append.mp hs with hs | hs
      · exact hB s hs
      · rw [List.mem_singleton.mp hs, modR_len]; exact hr r (.head _)) (fun s hs => hr s (.tail _ hs)) k1 k2
    rw [List.append_assoc] at this
    exact this
/-- the dict of all sums has each vector of the span once -/
theorem spanL_ok {p : Int} {n : Nat} {rows : List (List Int)} (h : 2 ≤ p) (hr : Len n rows) : (spanL p n rows).Nodup ∧ ∀ v, v ∈ spanL p n rows ↔ InS p n (rows.map (modR p)) v := by
  have := spanFold_ok h rows [] [List.replicate n 0] (fun _ h => nomatch h) hr (List.pairwise_singleton _ _) fun v => by
    rw [List.mem_singleton]
    refine ⟨fun e => e ▸ .zero, fun i => ?_⟩
    have := (combos_iff (p := p) (n := n) (b := []) (by omega) (fun _ h => nomatch h) v).mpr i
    exact List.mem_singleton.mp this
  exact this
theorem modR_rows {p : Int} {n : Nat} {rows : List (List Int)} (h : 0 < p) (hr : Len n rows) : ∀ r ∈ rows.map (modR p), Row p n r := fun r h2 => by
  obtain ⟨s, hs, rfl⟩ := List.mem_map.mp h2
  exact modR_row h (hr s hs)
theorem spanL_rows {p : Int} {n : Nat} {rows : List (List Int)} (h : 2 ≤ p) (hr : Len n rows) : ∀ v ∈ spanL p n rows, Row p n v := fun v hv =>
  (((spanL_ok h hr).2 v).mp hv).row (by omega) fun s hs => (modR_rows (by omega) hr s hs).1
/-- .. which the space's reduced basis tells: how many, and that its rows are among them -/
theorem span_told {p : Int} {inv : Int → Int} (I : Inv p inv) {n : Nat} {rows : List (List Int)} (hr : Len n rows) :
    (spanL p n rows).length = p.toNat ^ (reduced inv p (rows.map (modR p))).length ∧ (∀ v, v ∈ spanL p n rows ↔ InS p n (reduced inv p (rows.map (modR p))) v) ∧ ∀ r ∈ reduced inv p (rows.map (modR p)), r ∈ spanL p n rows := by
  have h2 := I.two
  have R := reduced_ok I (modR_rows (p := p) (by omega) hr)
  obtain ⟨k1, k2⟩ := spanL_ok h2 hr
  have k3 : ∀ v, v ∈ spanL p n rows ↔ InS p n (reduced inv p (rows.map (modR p))) v := fun v => by rw [k2, reduced_span I (modR_rows (by omega) hr)]
  exact ⟨span_count (by omega) R k1 k3, k3, fun r h => (k3 r).mpr (.self h2 (R.rows r h) h)⟩
/-! ## a row sent by a matrix -/
def dotc : List Int → List (List Int) → Nat → Int
  | x :: v, l :: M, i => x * at0 l i + dotc v M i
  | _, _, _ => 0
def sentP (p : Int) (v : List Int) (M : List (List Int)) : List Int := (List.range v.length).map fun i => dotc v M i % p
def sentF (p : Int) : List Int → List (List Int) → List Int → List Int
  | x :: v, l :: M, acc => sentF p v M (addR p acc x l)
  | _, _, acc => acc
theorem sentP_len {p : Int} {v : List Int} {M : List (List Int)} : (sentP p v M).length = v.length := by simp [sentP]
theorem at0_sentP {p : Int} {v : List Int} {M : List (List Int)} {i : Nat} (hi : i < v.length) : at0 (sentP p v M) i = dotc v M i % p := by
  rw [at0_of (by rw [sentP_len]; exact hi)]; simp [sentP]
theorem sentP_row {p : Int} {n : Nat} {v : List Int} {M : List (List Int)} (h : 0 < p) (hv : v.length = n) : Row p n (sentP p v M) := by
  refine ⟨by rw [sentP_len, hv], fun x hx => ?_⟩
  obtain ⟨i, _, rfl⟩ := List.mem_map.mp hx
  exact ⟨Int.emod_nonneg _ (by omega), Int.emod_lt_of_pos _ h⟩
theorem sentF_ok {p : Int} {n : Nat} (h : 0 < p) : ∀ (v : List Int) (M : List (List Int)) (acc : List Int), (∀ l ∈ M, l.length = n) → Row p n acc → Row p n (sentF p v M acc) ∧ ∀ i, at0 (sentF p v M acc) i = (at0 acc i + dotc v M i) % p
  | [], M, acc, _, ha => ⟨ha, fun i => by show at0 acc i = (at0 acc i + 0) % p; rw [Int.add_zero, ha.emod h]⟩
  | x :: v, [], acc, _, ha => ⟨ha, fun i => by show at0 acc i = (at0 acc i + 0) % p; rw [Int.add_zero, ha.emod h]⟩
  | x :: v, l :: M, acc, hM, ha => by
    have hl := hM l (.head _)
    obtain ⟨k1, k2⟩ := sentF_ok h v M (addR p acc x l) (fun a ha => hM a (.tail _ ha)) (addR_row h ha.1 hl)
    refine ⟨k1, fun i => ?_⟩
    show at0 (sentF p v M (addR p acc x l)) i = (at0 acc i + (x * at0 l i + dotc v M i)) % p
    rw [k2, at0_addR (by rw [ha.1, hl]), emod_l, Int.add_assoc]
/-- gone through item by item it is the same -/
theorem sentF_eq {p : Int} {n : Nat} (h : 0 < p) {v : List Int} {M : List (List Int)} (hv : v.length = n) (hM : ∀ l ∈ M, l.length = n) : sentF p v M (List.replicate n 0) = sentP p v M := by
  obtain ⟨k1, k2⟩ := sentF_ok h v M _ hM (zero_row (n := n) h)
  refine ext0 (by rw [k1.1, sentP_len, hv]) fun i hi => ?_
  rw [k2, at0_rep, Int.zero_add, at0_sentP (by rw [k1.1] at hi; omega)]
theorem dotc_add {p f : Int} : ∀ (v u : List Int) (M : List (List Int)) (i : Nat), v.length = u.length → dotc (addR p v f u) M i % p = (dotc v M i + f * dotc u M i) % p
  | [], [], M, i, _ => by simp [addR, dotc]
  | x :: v, y :: u, [], i, _ => by simp [dotc]
  | x :: v, y :: u, l :: M, i, h => by
    have ih := dotc_add (p := p) (f := f) v u M i (by simpa using h)
    show ((x + f * y) % p * at0 l i + dotc (addR p v f u) M i) % p = ((x * at0 l i + dotc v M i) + f * (y * at0 l i + dotc u M i)) % p
    rw [Int.add_emod, ih, Int.mul_emod, Int.emod_emod_of_dvd _ (Int.dvd_refl p), ← Int.mul_emod, ← Int.add_emod]
    congr 1
    rw [Int.add_mul, Int.mul_add, Int.mul_assoc]
    omega
  | [], y :: u, M, i, h => by simp at h
  | x :: v, [], M, i, h => by simp at h
theorem sentP_add {p f : Int} {n : Nat} {v u : List Int} {M : List (List Int)} (hv : v.length = n) (hu : u.length = n) : sentP p (addR p v f u) M = addR p (sentP p v M) f (sentP p u M) := by
  have l := addR_len (p := p) (f := f) hv hu
  have l1 : (sentP p v M).length = n := by rw [sentP_len, hv]
  have l2 : (sentP p u M).length = n := by rw [sentP_len, hu]
  refine ext0 (by rw [addR_len l1 l2, sentP_len, l]) fun i hi => ?_
  rw [sentP_len, l] at hi
  rw [at0_sentP (by omega), at0_addR (by rw [sentP_len, sentP_len, hv, hu]), at0_sentP (by omega), at0_sentP (by omega), dotc_add v u M i (by omega), emod_l, emod_m]
theorem dotc_rep : ∀ (n : Nat) (M : List (List Int)) (i : Nat), dotc (List.replicate n 0) M i = 0
  | 0, M, i => by simp [dotc]
  | n + 1, [], i => by simp [List.replicate_succ, dotc]
  | n + 1, l :: M, i => by
    show 0 * at0 l i + dotc (List.replicate n 0) M i = 0
    rw [dotc_rep n M i]; simp
theorem sentP_zero {p : Int} {n : Nat} {M : List (List Int)} : sentP p (List.replicate n 0) M = List.replicate n 0 := by
  refine ext0 (by rw [sentP_len]) fun i hi => ?_
  rw [sentP_len] at hi
  rw [at0_sentP hi, dotc_rep, at0_rep]; simp
theorem sent_in {p : Int} {n : Nat} {B M : List (List Int)} {v : List Int} (h : 0 < p) (hB : Len n B) (i : InS p n B v) : InS p n (B.map fun r => sentP p r M) (sentP p v M) := by
  induction i with
  | zero => rw [sentP_zero]; exact .zero
  | add f i hr ih =>
    rw [sentP_add (i.row h hB).1 (hB _ hr)]
    exact ih.add f (List.mem_map.mpr ⟨_, hr, rfl⟩)
theorem sent_iff {p : Int} {n : Nat} {B M : List (List Int)} (h : 0 < p) (hB : Len n B) (w : List Int) : InS p n (B.map fun r => sentP p r M) w ↔ ∃ v, InS p n B v ∧ w = sentP p v M := by
  refine ⟨fun i => ?_, fun ⟨v, i, e⟩ => e ▸ sent_in h hB i⟩
  · induction i with
    | zero => exact ⟨_, .zero, sentP_zero.symm⟩
    | add f i hr ih =>
      obtain ⟨v, iv, rfl⟩ := ih
      obtain ⟨r, hb, rfl⟩ := List.mem_map.mp hr
      exact ⟨_, iv.add f hb, (sentP_add (iv.row h hB).1 (hB r hb)).symm⟩
/-- the image of a space, told by the dict of all that is sent -/
theorem image_told {p : Int} {inv : Int → Int} (I : Inv p inv) {n : Nat} {rows M l : List (List Int)} (hr : Len n rows) (hl : l.Nodup) (e : ∀ w, w ∈ l ↔ ∃ v ∈ spanL p n rows, w = sentP p v M) :
    l.length = p.toNat ^ (reduced inv p ((reduced inv p (rows.map (modR p))).map fun r => sentP p r M)).length ∧ ∀ r ∈ reduced inv p ((reduced inv p (rows.map (modR p))).map fun r => sentP p r M), r ∈ l := by
  have h2 := I.two
  have R := reduced_ok I (modR_rows (p := p) (by omega) hr)
  have hs : ∀ r ∈ (reduced inv p (rows.map (modR p))).map fun r => sentP p r M, Row p n r := fun r h => by
    obtain ⟨s, hs, rfl⟩ := List.mem_map.mp h
    exact sentP_row (by omega) (R.rows s hs).1
  have S := reduced_ok I hs
  have k : ∀ w, w ∈ l ↔ InS p n (reduced inv p ((reduced inv p (rows.map (modR p))).map fun r => sentP p r M)) w := fun w => by
    rw [reduced_span I hs, sent_iff (by omega) R.len, e]
    exact ⟨fun ⟨v, hv, h⟩ => ⟨v, ((span_told I hr).2.1 v).mp hv, h⟩, fun ⟨v, hv, h⟩ => ⟨v, ((span_told I hr).2.1 v).mpr hv, h⟩⟩
  exact ⟨span_count (by omega) S hl k, fun r h => (k r).mpr (.self h2 (S.rows r h) h)⟩
end RX

set_option Elab.async false
set_option linter.all false
set_option maxRecDepth 100000
set_option maxHeartbeats 4000000
/-! # for i, x in enumerate(a tuple) -/
namespace VX
open PySem PySem.Spec PyProof.Rows L2
theorem mts_enumT {v : Value} {ob : Obj} {Hs : Heap → Prop} (B : Begins v ob Hs) :
    Meets (Builtin.«enumerate.__new__» ⟨[.type "enumerate", v], []⟩) (fun _ R s => Hs s.heap ∧
      R (.ok (.ret (.ref (s.heap.push ob).objs.size))) { s with heap := (s.heap.push ob).push { cls := .type "enumerate", data := .fields #[.none, .bool false, .ref s.heap.objs.size, rawInt 0, .none, .none] } }) :=
  .of_wp fun prog w A R s hs => by
    obtain ⟨hp, gg, dd, tt, oo⟩ := s
    obtain ⟨k1, k2⟩ := hs
    have sub := sub_enumerate
    have itr : ∀ {B' : Around} {E' : Value → Shared → Prop} {Q' : Value → Shared → Prop}, Q' (.ref hp.objs.size) ⟨hp.push ob, gg, dd, tt, oo⟩ → wpAny (model prog w) B' (pyIter v) Q' E' ⟨hp, gg, dd, tt, oo⟩ :=
      fun q => B.iter prog w _ _ ⟨hp, gg, dd, tt, oo⟩ _ k1 q
    wp_walk using itr
    refine wpAny_stack_any fun fr => wpAny_pure ?_
    split
    · rename_i cl _ _ _ _ _
      cases (cl == Value.type "enumerate") <;>
      · wp_walk using itr
        exact ⟨_, rfl, k2⟩
    · wp_walk using itr
      exact ⟨_, rfl, k2⟩
section
variable {prog : Program} {w : World} {A : Around} {E : Value → Shared → Prop} {s : Shared}
theorem enumT_new {v : Value} {ob : Obj} {Hs : Heap → Prop} {Q : Value → Shared → Prop} (B : Begins v ob Hs) (hs : Hs s.heap)
    (hQ : ∀ h', IsEnum h' (s.heap.objs.size + 1) s.heap.objs.size 0 .none → h'.get? s.heap.objs.size = some ob → (∀ b u, s.heap.get? b = some u → h'.get? b = some u) → Q (.ref (s.heap.objs.size + 1)) { s with heap := h' }) :
    wpAny (model prog w) A (call (.type "enumerate") [v]) Q E s := by
  refine callType_new F.called_enumerate (by decide) (F.typeCall_enumerate_1 _) (F.newCall_enumerate_1 _) (fun x => F.args_object_init_2 x _) F.entry_enumerate_new (mts_enumT B) ⟨hs, ?_⟩
  have sz : (s.heap.push ob).objs.size = s.heap.objs.size + 1 := Heap.size_push ..
  show _ ∧ _
  rw [sz]
  have ie : IsEnum ((s.heap.push ob).push { cls := .type "enumerate", data := .fields #[.none, .bool false, .ref s.heap.objs.size, rawInt 0, .none, .none] }) (s.heap.objs.size + 1) s.heap.objs.size 0 .none := by
    have k := Heap.get?_push_size (s.heap.push ob) (o := { cls := .type "enumerate", data := .fields #[.none, .bool false, .ref s.heap.objs.size, rawInt 0, .none, .none] }) rfl
    rwa [sz] at k
  exact ⟨⟨_, ie, rfl⟩, hQ _ ie (Heap.get?_push_of_some _ (Heap.get?_push_size _ B.free)) fun b u q => Heap.get?_push_of_some _ (Heap.get?_push_of_some _ q)⟩
end
/-- the tuple at a as it stands at each turn, each item in a new pair -/
def IteT (K : PySem.W.Frag) (a : Addr) : It :=
  ⟨fun i H => ∃ (xs : List V) (x : V), SqT K H a xs ∧ xs[i]? = some x, fun i H v H' => ∃ T x, v = .ref T ∧ H T = none ∧ H' = upd H T (.tup [.int (i : Nat), x]) ∧ ∀ xs, SqT K H a xs → xs[i]? = some x, fun i H => ∃ xs : List V, SqT K H a xs ∧ xs.length = i⟩
structure EnT (h : Heap) (e j a : Addr) (i : Nat) : Prop where
  en : ∃ old, IsEnum h e j ((i : Nat) : Int) old
  hj : h.IsTupleIter j a i
  ei : e ≠ j
  ea : e ≠ a
  ai : a ≠ j
theorem turn_enumT {P : Program} {w : World} {K : PySem.W.Frag} {elts : List Expr} {kk : Nat} {tpos : Pos} (a e it : Addr) :
    Turn P w K (.Tuple elts kk tpos) (IteT K a) [e, it] e (fun i h => EnT h e it a i) where
  mem := by simp
  obj := fun i h st b hb => by
    obtain ⟨⟨old, he⟩, ⟨o, ho, _, hd⟩, _⟩ := st
    rcases (by simpa using hb : b = e ∨ b = it) with rfl | rfl
    · exact ⟨_, he, fun v q => nomatch q⟩
    · exact ⟨o, ho, fun v q => by rw [hd] at q; cases q⟩
  keep := fun i h h' st k => by
    obtain ⟨⟨old, he⟩, hi, n1, n2, n3⟩ := st
    exact ⟨⟨old, k e (by simp) _ he⟩, hi.at fun o q => k it (by simp) o q, n1, n2, n3⟩
  item := by
    intro X hP hw hK hc i pins s σ H E I hf st hg
    subst hP hw hK
    obtain ⟨⟨old, he⟩, hit, n1, n2, n3⟩ := st
    obtain ⟨xs, x, hq, hx⟩ := hg
    obtain ⟨its, rv, tp, _⟩ := I.tuple hq
    obtain ⟨u, hu, ru⟩ := rv.get hx
    have el : e < s.heap.objs.size := Heap.lt_size he
    have il : it < s.heap.objs.size := by obtain ⟨_, q, _⟩ := hit; exact Heap.lt_size q
    have hlt : i < its.toArray.size := by
      have := (List.getElem?_eq_some_iff.mp hu).1
      simpa using this
    refine wpAny_pyNext_enum_itemD (Draws.tuple (prog := X.prog) (w := X.w) (A := X.A.in1) (I.ok.hd hc) it a n3 its.toArray) he ⟨hit, tp⟩ hlt n1 (by simp [n1, n2]) fun y h' tk hy ho hst hT _ hk => ?_
    have ey : y = u := by
      have h1 : its.toArray[i]? = some y := hy
      have h2 : its.toArray[i]? = some u := by simpa using hu
      rw [h1] at h2
      exact Option.some.inj h2
    subst ey
    refine ⟨_, rfl, wpAny_letOwnedTupleGo_enum (s := { s with heap := h', toks := tk + 1 }) ho fun h2 he2 sb => ?_⟩
    have hT2 : h2.get? s.heap.objs.size = some { cls := .type "tuple", data := .seq #[.int i tk, y] } := (sb.2 _ (Nat.ne_of_gt el)).trans hT
    have new : ObjOk X.prog X.w (upd H s.heap.objs.size (.tup [.int (i : Nat), x])) h2 s.heap.objs.size (.tup [.int (i : Nat), x]) :=
      ⟨by show 2 ≤ sizeLine; decide, [.int i tk, y], .cons ⟨_, rfl⟩ (.cons ru .nil), ⟨_, hT2, rfl, _, rfl⟩⟩
    have I1 : Inv X pins σ (upd H s.heap.objs.size (.tup [.int (i : Nat), x])) { s with heap := h2, toks := tk + 1 } :=
      I.turnedNew (ch := [e, it]) (fun b ob hb q => (sb.2 b fun z => hb (by simp [z])).trans (hk b ob (fun z => hb (by simp [z])) (fun z => hb (by simp [z])) q)) hf (Nat.le_refl _) new
    refine ⟨.ref s.heap.objs.size, _, I1, rfl, ⟨_, x, rfl, I.hok.fresh (Nat.le_refl _), rfl, fun ys hy => by rw [I.tuple_inj hy hq]; exact hx⟩, ⟨⟨y, ?_⟩, hst.1.at fun o q => (sb.2 it (Ne.symm n1)).trans q, n1, n2, n3⟩, fun b hb => ?_⟩
    · rw [show ((i + 1 : Nat) : Int) = (i : Int) + 1 by omega]
      exact he2
    · have lt : b < s.heap.objs.size := by
        rcases (by simpa using hb : b = e ∨ b = it) with rfl | rfl
        · exact el
        · exact il
      rw [upd_ne (Nat.ne_of_lt lt)]
      exact (hf b hb).1
  done := by
    intro X hP hw hK hc i pins s σ H E I hf st hg
    subst hP hw hK
    obtain ⟨⟨old, he⟩, hit, n1, n2, n3⟩ := st
    obtain ⟨xs, hq, hx⟩ := hg
    obtain ⟨its, rv, tp, _⟩ := I.tuple hq
    obtain ⟨f0, f1, f2, f3, f4, f5⟩ := hf it (by simp)
    have ln := rv.length
    have es : i = its.toArray.size := by simp; omega
    subst es
    exact wpAny_pyNext_enum_endD (Draws.tuple (prog := X.prog) (w := X.w) (A := X.A.in1) (I.ok.hd hc) it a n3 its.toArray) he ⟨hit, tp⟩ fun h' eb => ⟨rfl, I.turned (t' := s.toks) (fun b o hb q => eb b o hb q) f0 f1 f3 f4 f5⟩
  self := fun A i s Q E st h => let ⟨_, he⟩ := st.en; wpAny_pyIter_enum he h
def iEnumT (K : PySem.W.Frag) (ta : TA) : TI := fun σ H R => ta σ H fun vs H1 => ∃ a xs, vs = [.ref a] ∧ SqT K H1 a xs ∧ R (IteT K a) H1
theorem pi_enumT {X : Cx} {e : Expr} {ta : TA} {p pos tpos : Pos} {elts : List Expr} {kk : Nat} (hg : Gl X "enumerate") (hm : X.mg "enumerate" = none) (ha : PA X [e] ta) (st : starEach [e] X.env = [(false, eval e X.env)] := by rfl) :
    PI X (.Tuple elts kk tpos) (.Call (.Name "enumerate" p) [e] [] pos) (iEnumT X.K ta) := by
  refine ⟨fun pins s σ H R I h => ?_⟩
  refine Call_ (ld_blt I hg hm boot_enumerate (PyProof.Rows.callWith_type1 (thn (ha.run pos pins s σ H _ I h) fun us s1 ⟨vs, H1, I1, r1, q1⟩ => ?_) st rfl))
  obtain ⟨a, xs, ex, hq, q⟩ := q1
  subst ex
  cases r1 with
  | cons r rr =>
    cases rr
    cases r
    obtain ⟨its, rv, tp, _⟩ := I1.tuple hq
    have al : a < s1.heap.objs.size := by obtain ⟨_, z, _⟩ := id tp; exact Heap.lt_size z
    refine enumT_new (begins_tuple a its.toArray) tp fun h' he ht hk => wpAny_pyIter_enum he ?_
    have I2 : Inv X pins σ H1 { s1 with heap := h' } := I1.kept (t' := s1.toks) hk
    refine ⟨s1.heap.objs.size + 1, [s1.heap.objs.size + 1, s1.heap.objs.size], _, _, H1, rfl, I2, turn_enumT a (s1.heap.objs.size + 1) s1.heap.objs.size, ⟨⟨.none, he⟩, ⟨_, ht, rfl, rfl⟩, Nat.succ_ne_self _, Nat.ne_of_gt (Nat.lt_succ_of_lt al), Nat.ne_of_lt al⟩, fun b hb => ?_, q⟩
    have le : s1.heap.objs.size ≤ b := by
      rcases (by simpa using hb : b = s1.heap.objs.size + 1 ∨ b = s1.heap.objs.size) with z | z
      · rw [z]; exact Nat.le_add_right _ _
      · rw [z]; exact Nat.le_refl _
    exact I1.fpOk le (I1.hok.fresh le)
theorem walk_enumT {K : PySem.W.Frag} {a : Addr} {xs : List V} : Walk (IteT K a) xs.length (fun H => SqT K H a xs) (YPair (fun i => some (.int (i : Nat))) (fun i => xs[i]?)) := by
  refine ⟨fun i _ hi q => ⟨xs, xs[i], q, by simp [hi]⟩, fun _ q => ⟨xs, q, rfl⟩, fun i H v H' _ q y => ?_⟩
  obtain ⟨T, x, k1, k2, k3, k4⟩ := y
  exact ⟨T, .int (i : Nat), x, k1, k2, k3, rfl, k4 xs q⟩
end VX

set_option Elab.async false
set_option linter.all false
set_option maxRecDepth 100000
set_option maxHeartbeats 4000000
/-! # range(n) as a value, and walked later -/
namespace VX
open PySem PySem.Spec PyProof.Rows L2
theorem cr_range1 {X : Cx} : CallR X (.type "range") (fun vs H Q => ∃ j, vs = [V.int j] ∧ ∀ p, H p = none → Q (.ref p) (upd H p (.rng 0 j))) := by
  intro pins s σ H vs us Q I r h
  obtain ⟨j, rfl, q⟩ := h
  cases r with
  | cons ru rr =>
    cases rr
    obtain ⟨t, rfl⟩ := ru
    refine call_range_1 ⟨.ref s.heap.objs.size, upd H s.heap.objs.size (.rng 0 j), I.laid (t' := _) (fun b o e => Heap.get?_push_of_some _ e) (Nat.le_refl _) ?_, rfl, q _ (I.hok.fresh (Nat.le_refl _))⟩
    exact ⟨_, _, _, Heap.get?_push_size _ rfl⟩
def iRngV (tl : TE) : TI := fun σ H R => tl σ H fun x H1 => ∃ a lo hi, x = .ref a ∧ H1 a = some (.rng lo hi) ∧ -(2 ^ 62) ≤ lo ∧ lo < 2 ^ 62 ∧ -(2 ^ 62) ≤ hi ∧ hi < 2 ^ 62 ∧ R (Itr lo (hi - lo).toNat) H1
theorem pi_rng {X : Cx} {tg l : Expr} {tl : TE} (hl : PE X l tl) : PI X tg l (iRngV tl) := by
  refine ⟨fun pins s σ H R I h => ?_⟩
  refine thn (hl.run pins s σ H _ I h) fun v s1 ⟨x, H1, I1, r1, q1⟩ => ?_
  obtain ⟨a, lo, hi, rfl, ha, h1, h2, h3, h4, q⟩ := q1
  cases r1
  obtain ⟨t, u, z, ho⟩ := I1.hok a _ ha
  refine wpAny_pyIter_range (show IsRange s1.heap a lo hi 1 t u z from ho) (small_one h1 h2 h3 h4) ?_
  refine ⟨s1.heap.objs.size, [s1.heap.objs.size], _, _, H1, rfl, I1.kept (t' := s1.toks) fun b o e => Heap.get?_push_of_some _ e, turn_range _ lo (hi - lo).toNat, ?_, fun b hb => ?_, q⟩
  · have k1 : lo + ((0 : Nat) : Int) * 1 = lo := by simp
    have k2 : (((hi - lo).toNat : Nat) : Int) - ((0 : Nat) : Int) = Builtin.Range.rangeSize lo hi 1 := by rw [rangeSize_one]; split <;> omega
    show IsRangeIter _ _ (lo + ((0 : Nat) : Int) * 1) ((((hi - lo).toNat : Nat) : Int) - ((0 : Nat) : Int)) 1
    rw [k1, k2]
    exact Heap.get?_push_size _ rfl
  · obtain rfl : b = s1.heap.objs.size := by simpa using hb
    exact I1.fpOk (Nat.le_refl _) (I1.hok.fresh (Nat.le_refl _))
end VX

set_option Elab.async false
set_option linter.all false
set_option maxRecDepth 100000
set_option maxHeartbeats 4000000
/-! # for x, y in zip(a tuple, a list) -/
namespace VX
open PySem PySem.Spec PyProof.Rows L2
/-- the tuple at a and the list at b as they stand at each turn, the items in new pairs -/
def ItzTL (K : PySem.W.Frag) (a b : Addr) : It :=
  ⟨fun i H => ∃ (xs ys : List V) (x y : V), SqT K H a xs ∧ SqL K H b ys ∧ xs[i]? = some x ∧ ys[i]? = some y,
    fun i H v H' => ∃ T x y, v = .ref T ∧ H T = none ∧ H' = upd H T (.tup [x, y]) ∧ (∀ xs, SqT K H a xs → xs[i]? = some x) ∧ ∀ ys, SqL K H b ys → ys[i]? = some y,
    fun i H => ∃ xs ys : List V, SqT K H a xs ∧ SqL K H b ys ∧ xs.length = i ∧ ys.length = i⟩
structure ZTL (h : Heap) (z TI TO j k a b : Addr) (i : Nat) : Prop where
  zp : IsZip h z TI TO .none
  ti : IsTupOf2 h TI (.ref j) (.ref k)
  to : ∃ x y, IsTupOf2 h TO x y
  h1 : h.IsTupleIter j a i
  h2 : h.IsListIter k b i
theorem turn_zipTL {P : Program} {w : World} {K : PySem.W.Frag} {elts : List Expr} {kk : Nat} {tpos : Pos} {a b z TI TO j k : Addr} (S : ZipSep2 z TI TO j k [j, a] [k, b]) (na : a ≠ j) (nb : b ≠ k) :
    Turn P w K (.Tuple elts kk tpos) (ItzTL K a b) [z, TI, TO, j, k] z (fun i h => ZTL h z TI TO j k a b i) where
  mem := by simp
  obj := fun i h st c hc => by
    obtain ⟨hz, hTI, ⟨x, y, hTO⟩, ⟨o1, e1, _, d1⟩, ⟨o2, e2, _, d2⟩⟩ := st
    rcases (by simpa using hc : c = z ∨ c = TI ∨ c = TO ∨ c = j ∨ c = k) with rfl | rfl | rfl | rfl | rfl
    · exact ⟨_, hz, fun v q => nomatch q⟩
    · exact ⟨_, hTI, fun v q => nomatch q⟩
    · exact ⟨_, hTO, fun v q => nomatch q⟩
    · exact ⟨o1, e1, fun v q => by rw [d1] at q; cases q⟩
    · exact ⟨o2, e2, fun v q => by rw [d2] at q; cases q⟩
  keep := fun i h h' st q => by
    obtain ⟨hz, hTI, ⟨x, y, hTO⟩, h1, h2⟩ := st
    exact ⟨q z (by simp) _ hz, q TI (by simp) _ hTI, ⟨x, y, q TO (by simp) _ hTO⟩, h1.at fun o e => q j (by simp) o e, h2.at fun o e => q k (by simp) o e⟩
  item := by
    intro X hP hw hK hc i pins s σ H E I hf st hg
    subst hP hw hK
    obtain ⟨hz, hTI, ⟨x0, y0, hTO⟩, h1, h2⟩ := st
    obtain ⟨xs, ys, x, y, hqx, hqy, hx, hy⟩ := hg
    obtain ⟨its, rv, p1, _⟩ := I.tuple hqx
    obtain ⟨its2, rv2, p2, _⟩ := I.list hqy
    obtain ⟨u, hu, ru⟩ := rv.get hx
    obtain ⟨u2, hu2, ru2⟩ := rv2.get hy
    have zl : z < s.heap.objs.size := Heap.lt_size hz
    have l1 : i < its.toArray.size := by simpa using (List.getElem?_eq_some_iff.mp hu).1
    have l2 : i < its2.toArray.size := by simpa using (List.getElem?_eq_some_iff.mp hu2).1
    refine wpAny_pyNext_zipD2_item S (Draws.tuple (prog := X.prog) (w := X.w) (A := X.A.in1) (I.ok.hd hc) j a na its.toArray) (Draws.list (prog := X.prog) (w := X.w) (A := X.A.in1) (I.ok.hd hc) k b nb its2.toArray) hz hTI hTO ⟨h1, p1⟩ ⟨h2, p2.isList⟩ l1 l2 fun v1 v2 h' tk q1 q2 z' TO' st1 st2 hT _ hk => ?_
    have e1 : v1 = u := by
      have k1 : its.toArray[i]? = some v1 := q1
      have k2 : its.toArray[i]? = some u := by simpa using hu
      rw [k1] at k2
      exact Option.some.inj k2
    have e2 : v2 = u2 := by
      have k1 : its2.toArray[i]? = some v2 := q2
      have k2 : its2.toArray[i]? = some u2 := by simpa using hu2
      rw [k1] at k2
      exact Option.some.inj k2
    subst e1 e2
    refine ⟨_, rfl, wpAny_letOwnedTupleGo_zip (s := { s with heap := h', toks := tk }) z' fun h3 z3 sb => ?_⟩
    have hT2 : h3.get? s.heap.objs.size = some { cls := .type "tuple", data := .seq #[v1, v2] } := (sb.2 _ (Nat.ne_of_gt zl)).trans hT
    have new : ObjOk X.prog X.w (upd H s.heap.objs.size (.tup [x, y])) h3 s.heap.objs.size (.tup [x, y]) :=
      ⟨by show 2 ≤ sizeLine; decide, [v1, v2], .cons ru (.cons ru2 .nil), ⟨_, hT2, rfl, _, rfl⟩⟩
    have I1 : Inv X pins σ (upd H s.heap.objs.size (.tup [x, y])) { s with heap := h3, toks := tk } :=
      I.turnedNew (t' := tk) (ch := [z, TI, TO, j, k]) (fun c o hb q => (sb.2 c fun r => hb (by simp [r])).trans (hk c o (fun r => hb (by simp [r])) (fun r => hb (by simp [r])) (fun r => hb (by simp [r])) (fun r => hb (by simp [r])) q)) hf (Nat.le_refl _) new
    refine ⟨.ref s.heap.objs.size, _, I1, rfl, ⟨_, x, y, rfl, I.hok.fresh (Nat.le_refl _), rfl, fun l hl => by rw [I.tuple_inj hl hqx]; exact hx, fun l hl => by rw [I.list_inj hl hqy]; exact hy⟩, ⟨z3, ?_, ⟨v1, v2, ?_⟩, ?_, ?_⟩, fun c hcm => ?_⟩
    · exact (sb.2 _ S.TIz).trans (hk _ _ S.TIz S.TITO S.TIi1 S.TIi2 hTI)
    · exact (sb.2 _ S.TOz).trans TO'
    · exact st1.1.at fun o q => (sb.2 _ (Ne.symm S.zi1)).trans q
    · exact st2.1.at fun o q => (sb.2 _ (Ne.symm S.zi2)).trans q
    · have lt : c < s.heap.objs.size := by
        rcases (by simpa using hcm : c = z ∨ c = TI ∨ c = TO ∨ c = j ∨ c = k) with rfl | rfl | rfl | rfl | rfl
        · exact zl
        · exact Heap.lt_size hTI
        · exact Heap.lt_size hTO
        · obtain ⟨_, r, _⟩ := h1; exact Heap.lt_size r
        · obtain ⟨_, r, _⟩ := h2; exact Heap.lt_size r
      rw [upd_ne (Nat.ne_of_lt lt)]
      exact (hf c hcm).1
  done := by
    intro X hP hw hK hc i pins s σ H E I hf st hg
    subst hP hw hK
    obtain ⟨hz, hTI, ⟨x0, y0, hTO⟩, h1, h2⟩ := st
    obtain ⟨xs, ys, hqx, hqy, e1, e2⟩ := hg
    obtain ⟨its, rv, p1, _⟩ := I.tuple hqx
    obtain ⟨its2, rv2, p2, _⟩ := I.list hqy
    have l1 := rv.length
    have l2 := rv2.length
    have z1 : i = its.toArray.size := by simp; omega
    have z2 : i = its2.toArray.size := by simp; omega
    exact wpAny_pyNext_zipD2_end S (Draws.tuple (prog := X.prog) (w := X.w) (A := X.A.in1) (I.ok.hd hc) j a na its.toArray) (Draws.list (prog := X.prog) (w := X.w) (A := X.A.in1) (I.ok.hd hc) k b nb its2.toArray) hz hTI hTO ⟨h1, p1⟩ ⟨h2, p2.isList⟩ (by omega) (by omega) (.inl z1) fun h' tk hk => ⟨rfl, I.turnedL (t' := tk) (ch := [z, TI, TO, j, k]) (fun c o hb q =>
      hk c o (fun r => hb (by simp [r])) (fun r => hb (by simp [r])) (fun r => hb (by simp [r])) (fun r => hb (by simp [r])) q) hf⟩
  self := fun A i s Q E st h => wpAny_pyIter_zip st.zp h
theorem out2 {m x y : Nat} (h1 : m ≠ x) (h2 : m ≠ y) : m ∉ [x, y] := by simp [h1, h2]
theorem zip_sep {m a b : Nat} (ha : a < m) (hb : b < m) : ZipSep2 (m + 4) (m + 2) (m + 3) m (m + 1) [m, a] [m + 1, b] where
  TIz := by show m + 2 ≠ m + 4; omega
  TOz := by show m + 3 ≠ m + 4; omega
  TITO := by show m + 2 ≠ m + 3; omega
  TIi1 := by show m + 2 ≠ m; omega
  mem1 := List.mem_cons_self ..
  zf1 := out2 (by omega) (by omega)
  Tf1 := out2 (by omega) (by omega)
  TIi2 := by show m + 2 ≠ m + 1; omega
  mem2 := List.mem_cons_self ..
  zf2 := out2 (by omega) (by omega)
  Tf2 := out2 (by omega) (by omega)
  sep1_2 := out2 (by omega) (by omega)
  sep2_1 := out2 (by omega) (by omega)
def iZipTL (K : PySem.W.Frag) (ta : TA) : TI := fun σ H R => ta σ H fun vs H1 => ∃ a b xs ys, vs = [.ref a, .ref b] ∧ SqT K H1 a xs ∧ SqL K H1 b ys ∧ R (ItzTL K a b) H1
theorem pi_zipTL {X : Cx} {e e2 : Expr} {ta : TA} {p pos tpos : Pos} {elts : List Expr} {kk : Nat} (hg : Gl X "zip") (hm : X.mg "zip" = none) (ha : PA X [e, e2] ta)
    (s1 : starEach [e, e2] X.env = (false, eval e X.env) :: starEach [e2] X.env := by rfl) (s2 : (backTo pos (starEach [e2] X.env)).any (·.1) = false := by rfl) :
    PI X (.Tuple elts kk tpos) (.Call (.Name "zip" p) [e, e2] [] pos) (iZipTL X.K ta) := by
  refine ⟨fun pins s σ H R I h => ?_⟩
  refine Call_ (ld_blt I hg hm PyProof.Rows.boot_zip (PyProof.Rows.callWith_type1 (thn (ha.run pos pins s σ H _ I h) fun us t ⟨vs, H1, I1, r1, q1⟩ => ?_) s1 s2))
  obtain ⟨a, b, xs, ys, ex, hqx, hqy, q⟩ := q1
  subst ex
  cases r1 with
  | cons r rr =>
    cases rr with
    | cons r' rr =>
      cases rr
      cases r
      cases r'
      obtain ⟨its, rv, p1, _⟩ := I1.tuple hqx
      obtain ⟨its2, rv2, p2, _⟩ := I1.list hqy
      have la : a < t.heap.objs.size := by obtain ⟨_, ho, _⟩ := id p1; exact Heap.lt_size ho
      have lb : b < t.heap.objs.size := p2.lt
      refine zip_begins2 (begins_tuple a its.toArray) (begins_list b its2.toArray) p1 p2.isList fun h' hz hTI hTO g1 g2 _ hk => wpAny_pyIter_zip hz ?_
      have I2 : Inv X pins σ H1 { t with heap := h' } := I1.kept (t' := t.toks) hk
      have S := zip_sep la lb
      refine ⟨t.heap.objs.size + 4, [t.heap.objs.size + 4, t.heap.objs.size + 2, t.heap.objs.size + 3, t.heap.objs.size, t.heap.objs.size + 1], _, _, H1, rfl, I2, turn_zipTL S (Nat.ne_of_lt la) (Nat.ne_of_lt (Nat.lt_succ_of_lt lb)), ⟨hz, hTI, ⟨_, _, hTO⟩, ⟨_, g1, rfl, rfl⟩, ⟨_, g2, rfl, rfl⟩⟩, fun c hcm => ?_, q⟩
      have le : t.heap.objs.size ≤ c := by
        rcases (by simpa using hcm : c = t.heap.objs.size + 4 ∨ c = t.heap.objs.size + 2 ∨ c = t.heap.objs.size + 3 ∨ c = t.heap.objs.size ∨ c = t.heap.objs.size + 1) with z | z | z | z | z
        · rw [z]; exact Nat.le_add_right _ _
        · rw [z]; exact Nat.le_add_right _ _
        · rw [z]; exact Nat.le_add_right _ _
        · rw [z]; exact Nat.le_refl _
        · rw [z]; exact Nat.le_add_right _ _
      exact I1.fpOk le (I1.hok.fresh le)
theorem walk_zipTL {K : PySem.W.Frag} {a b : Addr} {xs ys : List V} {n : Nat} (h1 : xs.length = n) (h2 : ys.length = n) : Walk (ItzTL K a b) n (fun H => SqT K H a xs ∧ SqL K H b ys) (YPair (fun i => xs[i]?) (fun i => ys[i]?)) := by
  refine ⟨fun i _ hi q => ⟨xs, ys, xs[i], ys[i], q.1, q.2, by simp [h1, hi], by simp [h2, hi]⟩, fun _ q => ⟨xs, ys, q.1, q.2, h1, h2⟩, fun i H v H' _ q y => ?_⟩
  obtain ⟨T, x, z, k1, k2, k3, k4, k5⟩ := y
  exact ⟨T, x, z, k1, k2, k3, k4 xs q.1, k5 ys q.2⟩
end VX

set_option Elab.async false
set_option linter.all false
set_option maxRecDepth 100000
set_option maxHeartbeats 4000000
/-! # for i, c in enumerate(a text, start=k); x + y by an own __add__; replace in a def -/
namespace VX
open PySem PySem.Spec PyProof.Rows L2
/-! ### enumerate(text, start=k) -/
def IteS (x : Str) (k0 : Int) : It :=
  ⟨fun i _ => i < x.cps.size, fun i H v H' => ∃ T c, v = .ref T ∧ H T = none ∧ x.cps[i]? = some c ∧ H' = upd H T (.tup [.int (k0 + (i : Nat)), .str ⟨#[c]⟩]), fun i _ => x.cps.size = i⟩
structure EnS (x : Str) (t : Tok) (k0 : Int) (h : Heap) (e j : Addr) (i : Nat) : Prop where
  en : ∃ old, IsEnum h e j (k0 + (i : Int)) old
  hj : h.IsStrIter j (strIterType x) x t i
  ei : e ≠ j
theorem turn_enumS {P : Program} {w : World} {K : PySem.W.Frag} {elts : List Expr} {kk : Nat} {tpos : Pos} (x : Str) (t : Tok) (k0 : Int) (e it : Addr) :
    Turn P w K (.Tuple elts kk tpos) (IteS x k0) [e, it] e (fun i h => EnS x t k0 h e it i) where
  mem := by simp
  obj := fun i h st b hb => by
    obtain ⟨⟨old, he⟩, ⟨o, ho, _, hd⟩, _⟩ := st
    rcases (by simpa using hb : b = e ∨ b = it) with rfl | rfl
    · exact ⟨_, he, fun v q => nomatch q⟩
    · exact ⟨o, ho, fun v q => by rw [hd] at q; cases q⟩
  keep := fun i h h' st k => by
    obtain ⟨⟨old, he⟩, ⟨o, ho, r⟩, n1⟩ := st
    exact ⟨⟨old, k e (by simp) _ he⟩, ⟨o, k it (by simp) _ ho, r⟩, n1⟩
  item := by
    intro X hP hw hK hc i pins s σ H E I hf st hg
    subst hP hw hK
    obtain ⟨⟨old, he⟩, hit, n1⟩ := st
    have el : e < s.heap.objs.size := Heap.lt_size he
    have il : it < s.heap.objs.size := by obtain ⟨_, q, _⟩ := id hit; exact Heap.lt_size q
    refine wpAny_pyNext_enum_itemC (Draws.text (prog := X.prog) (w := X.w) (A := X.A.in1) (I.ok.hd hc) it x t) he hit hg n1 (by simp [n1]) fun y h' tk hy ho hst hT _ hk => ?_
    obtain ⟨c, u, hcx, rfl⟩ := hy
    refine ⟨_, rfl, wpAny_letOwnedTupleGo_enum (s := { s with heap := h', toks := tk + 1 }) ho fun h2 he2 sb => ?_⟩
    have hT2 : h2.get? s.heap.objs.size = some { cls := .type "tuple", data := .seq #[.int (k0 + (i : Int)) tk, .str ⟨#[c]⟩ u] } := (sb.2 _ (Nat.ne_of_gt el)).trans hT
    have new : ObjOk X.prog X.w (upd H s.heap.objs.size (.tup [.int (k0 + (i : Nat)), .str ⟨#[c]⟩])) h2 s.heap.objs.size (.tup [.int (k0 + (i : Nat)), .str ⟨#[c]⟩]) :=
      ⟨by show 2 ≤ sizeLine; decide, [.int (k0 + (i : Int)) tk, .str ⟨#[c]⟩ u], .cons ⟨_, rfl⟩ (.cons ⟨_, rfl⟩ .nil), ⟨_, hT2, rfl, _, rfl⟩⟩
    have I1 : Inv X pins σ (upd H s.heap.objs.size (.tup [.int (k0 + (i : Nat)), .str ⟨#[c]⟩])) { s with heap := h2, toks := tk + 1 } :=
      I.turnedNew (ch := [e, it]) (fun b ob hb q => (sb.2 b fun z => hb (by simp [z])).trans (hk b ob (fun z => hb (by simp [z])) (fun z => hb (by simp [z])) q)) hf (Nat.le_refl _) new
    refine ⟨.ref s.heap.objs.size, _, I1, rfl, ⟨_, c, rfl, I.hok.fresh (Nat.le_refl _), hcx, rfl⟩, ⟨⟨.str ⟨#[c]⟩ u, ?_⟩, ?_, n1⟩, fun b hb => ?_⟩
    · rw [show k0 + ((i + 1 : Nat) : Int) = k0 + (i : Int) + 1 by omega]
      exact he2
    · obtain ⟨o, ho', r⟩ := hst
      exact ⟨o, (sb.2 it (Ne.symm n1)).trans ho', r⟩
    · have lt : b < s.heap.objs.size := by
        rcases (by simpa using hb : b = e ∨ b = it) with rfl | rfl
        · exact el
        · exact il
      rw [upd_ne (Nat.ne_of_lt lt)]
      exact (hf b hb).1
  done := by
    intro X hP hw hK hc i pins s σ H E I hf st hg
    subst hP hw hK
    obtain ⟨⟨old, he⟩, hit, n1⟩ := st
    obtain ⟨f0, f1, f2, f3, f4, f5⟩ := hf it (by simp)
    have hg : x.cps.size = i := hg
    subst hg
    exact wpAny_pyNext_enum_endD (Draws.text (prog := X.prog) (w := X.w) (A := X.A.in1) (I.ok.hd hc) it x t) he hit fun h' eb => ⟨rfl, I.turned (t' := s.toks) (fun b o hb q => eb b o hb q) f0 f1 f3 f4 f5⟩
  self := fun A i s Q E st h => let ⟨_, he⟩ := st.en; wpAny_pyIter_enum he h
def iEnumS (ta : TA) (k0 : Int) : TI := fun σ H R => ta σ H fun vs H1 => ∃ x, vs = [.str x] ∧ R (IteS x k0) H1
theorem walk_enumS {x : Str} {k0 : Int} : Walk (IteS x k0) x.cps.size (fun _ => True) (YPair (fun i => some (.int (k0 + (i : Nat)))) (fun i => x.cps[i]?.map fun c => .str ⟨#[c]⟩)) := by
  refine ⟨fun i _ hi _ => hi, fun _ _ => rfl, fun i H v H' _ _ y => ?_⟩
  obtain ⟨T, c, k1, k2, k3, k4⟩ := y
  exact ⟨T, .int (k0 + (i : Nat)), .str ⟨#[c]⟩, k1, k2, k4, rfl, by show x.cps[i]?.map _ = _; rw [k3]; rfl⟩
theorem callWith_type_kw {M : Model} {A : Around} {E : Value → Shared → Prop} {s : Shared} {pos : Pos} {T : String} {args : List (Bool × Sem Value)} {kws : List (Option Str × Sem Value)} {Q : Value → Shared → Prop} (hplain : args.any (·.1) = false) (hkw : kws.any (·.1.isNone) = false)
    (h : wpAny M A (evalArgs (.type T) true args kws) (fun a s₁ => wpAny M A (call (.type T) a.pos a.kw) Q E s₁) E s) :
    wpAny M A (callWith pos (.type T) [] args kws) Q E s := by
  unfold callWith
  refine wpAny_bind (wpAny_holding (wpAny_mono h (fun a s₁ h₁ => wpAny_bind (wpAny_standAt ?_)) fun _ _ x => x))
  simp only [hplain, hkw, Bool.or_false]
  refine wpAny_bind (wpAny_pure ?_)
  exact wpAny_bind (wpAny_mono h₁ (fun r s₂ hr => wpAny_bind (wpAny_holding (wpAny_point (wpAny_pure hr)))) fun _ _ x => x)
theorem pi_enumS {X : Cx} {e : Expr} {ta : TA} {p pos tpos kp kp2 : Pos} {elts : List Expr} {kk jz : Nat} {k0 : Int} (hg : Gl X "enumerate") (hm : X.mg "enumerate" = none) (ha : PA X [e] ta) (h0 : -(2 ^ 63) ≤ k0 := by decide) (h1 : k0 < 2 ^ 63 := by decide)
    (st : starEach [e] X.env = (false, eval e X.env) :: starEach [] X.env := by rfl)
    (hall : (backToKw pos (keywordEach [⟨some "start", .Constant (.int k0) jz kp, kp2⟩] X.env)).all (·.1.isSome) = true := by rfl)
    (hkw : (backToKw pos (keywordEach [⟨some "start", .Constant (.int k0) jz kp, kp2⟩] X.env)).any (·.1.isNone) = false := by rfl)
    (hks : (backToKw pos (keywordEach [⟨some "start", .Constant (.int k0) jz kp, kp2⟩] X.env)).filterMap (·.1) = [("start" : Str)] := by rfl)
    (hpl : (backTo pos (starEach [e] X.env)).any (·.1) = false := by rfl)
    (hbt : backTo pos (starEach [e] X.env) = (false, eval e X.env) :: backTo pos (starEach [] X.env) := by rfl) :
    PI X (.Tuple elts kk tpos) (.Call (.Name "enumerate" p) [e] [⟨some "start", .Constant (.int k0) jz kp, kp2⟩] pos) (iEnumS ta k0) := by
  have hk : PK X [⟨some "start", .Constant (.int k0) jz kp, kp2⟩] (tCons (tC (.int k0)) tNil) := pk_cons pe_int pk_nil
  refine ⟨fun pins s σ H R I h => ?_⟩
  refine wpAny_Call_Name_kw (ld_blt I hg hm boot_enumerate ?_)
  refine callWith_type_kw hpl hkw ?_
  have run := ha.run pos pins s σ H _ I h
  rw [hbt] at run ⊢
  refine evalArgs_kwB hall (thn run fun us s1 ⟨vs, H1, I1, r1, x, ex, q1⟩ => ?_)
  subst ex
  obtain ⟨u, rfl, ru⟩ := vals1 r1
  obtain ⟨t, rfl⟩ := ru
  refine thn (hk.run pos pins s1 σ H1 (fun zs H2 => H2 = H1 ∧ zs = [.int k0]) I1 ⟨rfl, rfl⟩) fun ws s2 ⟨zs, H2, I2, rz, e1, e2⟩ => ?_
  subst e1 e2
  obtain ⟨u2, rfl, ru2⟩ := vals1 rz
  obtain ⟨t2, rfl⟩ := ru2
  rw [hks]
  show wpAny _ _ (call (.type "enumerate") [.str x t] [(Str.ofString "start", .int k0 t2)]) _ _ _
  refine enum_begins_start (begins_text x t) trivial h0 h1 fun h' he' ht _ hkk => wpAny_pyIter_enum he' ?_
  have I3 : Inv X pins σ H2 { s2 with heap := h' } := I2.kept (t' := s2.toks) hkk
  refine ⟨s2.heap.objs.size + 1, [s2.heap.objs.size + 1, s2.heap.objs.size], _, _, H2, rfl, I3, turn_enumS x t k0 (s2.heap.objs.size + 1) s2.heap.objs.size, ⟨⟨.none, ?_⟩, ⟨_, ht, rfl, rfl⟩, Nat.succ_ne_self _⟩, fun b hb => ?_, q1⟩
  · simpa using he'
  · have le : s2.heap.objs.size ≤ b := by
      rcases (by simpa using hb : b = s2.heap.objs.size + 1 ∨ b = s2.heap.objs.size) with z | z
      · rw [z]; exact Nat.le_add_right _ _
      · rw [z]; exact Nat.le_refl _
    exact I2.fpOk le (I2.hok.fresh le)
/-! ### x + y by an own __add__ -/
def rOwnB (C : Addr) (sp : Sp) (E : XK) : R2 := fun x y H Q => ∃ a b dx dy fs gs, x = .ref a ∧ y = .ref b ∧ H a = some (.ins C dx fs) ∧ H b = some (.ins C dy gs) ∧ sp [.ref a, .ref b] H Q E
theorem op_ownB {X : Cx} {CX : CXT} {C f : Addr} {n : Nat} {sp : Sp} {E : XK} {op : Operator} (F : FnR X.prog X.w X.K X.mg X.base CX n f sp) (hc : PySem.W.selfFirst X.K C = true)
    (hs : PySem.W.findIn X.K (.ref C) (PySem.dunder op.info.2) = some (some (.ref f))) (hf : PySem.W.isFn X.K (.ref f) = true) (hx : Passes CX X E) (hr : Room n X.A) : OpR X (binaryOp op) (rOwnB C sp E) := by
  intro pins s σ H x y v u Q I rx ry hq
  obtain ⟨a, b, dx, dy, fs, gs, rfl, rfl, ha, hb, h⟩ := hq
  cases rx
  cases ry
  obtain ⟨mA, J, _⟩ := ins_get I.hok ha
  obtain ⟨mB, J', _⟩ := ins_get I.hok hb
  obtain ⟨od, J, _⟩ := J.look
  obtain ⟨od', J', _⟩ := J'.look
  obtain ⟨m, hF⟩ := I.fr
  refine PySem.W.binop_K (op := op) hF I.ok.mod.kin J J'.type hc hs hf ?_
  have r2 : Vals [V.ref a, V.ref b] [Value.ref a, Value.ref b] := .cons rfl (.cons rfl .nil)
  refine wpAny_call (codeAny_mono (run_fnR F hr hx I r2 h) fun r s' z => ?_)
  cases r with
  | error e => exact z
  | ok fl =>
    cases fl with
    | ret w =>
      obtain ⟨v, H1, I1, rv, q⟩ := z
      show PySem.W.CmpBack _ w s'
      cases w with
      | notImplemented => cases v <;> first | (cases rv; done) | (obtain ⟨_, z⟩ := rv; cases z)
      | _ => exact ⟨v, H1, I1, rv, q⟩
    | next => exact z.elim
    | brk => exact z.elim
    | cont => exact z.elim
end VX

set_option Elab.async false
set_option linter.all false
set_option maxRecDepth 100000
set_option maxHeartbeats 4000000
/-! # a def whose body gives out a token; a Hook with one more Bool, classmethods -/
namespace VX
open PySem PySem.Spec PyProof.Rows L2 CwR
section
variable {P : Program} {w : World} {K : PySem.W.Frag} {mg : Str → Option Value} {base : Heap} {x qual : Str} {params : Arguments} {body : List Stmt} {scope : Scope} {dvs : List V} {kws : List (Str × V)} {f : Addr} {fd : FuncData}
theorem okT {CX : CXT} {N ps : List Str} {k : Nat} {sp : Sp} (F : FunD K x qual params body scope dvs kws f fd) (S : FnScope N ps scope) (hnc : ∀ y ∈ scope.names, y.2 ≠ .cell) (hps : 1 ≤ ps.length) (len : ∀ vs H Q E, sp vs H Q E → vs.length = ps.length)
    (hbody : ∀ (cdv : Value) (A : Around) (outer : List Env) (s : Shared) (H : Hp) (vs : List V) (Q : VK) (E : XK), Room k (A.deeper (envOfC qual scope s.heap.objs.size f cdv)) → sp vs H Q E →
      ∃ t, PSsT (cxOf CX P w K mg base N qual scope f cdv A outer s H E) body t ∧ t { nx := fun _ H' => Q .non H', rt := Q } (start N vs) H) : FnOk P w K mg base CX (k + 1) f fd ps sp := by
  obtain ⟨oc, od, dV, kV, doc, pm, an, cdv, ct, osl, rfl, lk, hcd, _, _⟩ := F.ex
  exact fn_ofT lk hcd S hnc hps len fun A outer s H vs Q E hr hsp => hbody cdv A outer s H vs Q E hr hsp
end
section
variable {X : Cx} {CX : CXT} {k : Nat} {f C : Addr} {fd : FuncData} {ps : List Str} {sp : Sp} {dvs : List V} {ds : List Value} {E : XK} {x m : Str} {p pos apos : Pos} {e o : Expr} {es : List Expr} {ta : TE} {t : TA} {te : TE}
theorem pet_call (F : FnOk X.prog X.w X.K X.mg X.base CX k f fd ps sp) (hr : Room k X.A) (hg : Gl X x) (hm : X.mg x = some (.ref f)) (hk : PySem.W.keepIn X.K (.ref f) = true) (hb : Binds X.K fd ps ds) (hd : Vals dvs ds) (hx : Passes CX X E)
    (ha : PAT X (e :: es) t) (hdb : (x == ("__debug__" : Str)) = false := by decide) (he : starEach (e :: es) X.env = (false, eval e X.env) :: starEach es X.env := by rfl) (hpl : (backTo pos (starEach es X.env)).any (·.1) = false := by rfl) :
    PET X (.Call (.Name x p) (e :: es) [] pos) (tCall sp dvs E t) := by
  intro pins s σ H Q h0 I h
  refine wpAny_Call_Name_kw (ld_glob I hg hm ?_ hdb)
  refine PySem.W.callWith_K (h₀ := X.base) I.ok.mod.kin hk (thn (ha pos pins s σ H _ h0 I h) fun us s1 ⟨vs, H1, I1, r, q⟩ => ⟨I1.kIn, ?_⟩) he hpl
  exact run_fn F hr hb hd hx I1 r q
theorem pst_asg {tg : Expr} {g : TG} (he : PET X e te) (hg : PG X tg g) (hs : swapsWithSole [tg] e pos.line X.env = pure false := by rfl) (hw : swappedStores [tg] e X.env = pure none := by rfl)
    (h1 : (assignEach [tg] X.env).map (·.2) = [assign tg X.env] := by rfl) : PST X (.Assign [tg] e pos) (tAsg te g) := by
  intro pins s σ H D h0 I h
  refine wpAny_Assign_stores (thn (he pins s σ H _ h0 I h) fun v s1 ⟨x, H1, I1, r1, q1⟩ => ?_) hs hw
  rw [h1]
  exact thn (hg.run pins s1 σ H1 x v _ I1 r1 q1) fun _ s2 q => q
end
/-! ### a Hook -/
open He5 in
def hookMA (n : Nat) (fa : List He.Fa) (fn : List DefA) (ex : PySem.W.Frag → Bool) : PySem.W.Hook where
  α := He.AlD × Bool
  obs := fun s => (obsA fa fn (He.frG s.heap.get? (asA s.heap.get? n)), ex (He.frG s.heap.get? (asA s.heap.get? n)))
  val := fun _ => (valA fn, true)
  says := fun _ h => ∃ K : PySem.W.Frag, K.In h ∧ SaysA fa fn K ∧ ex K = true
  of := fun _ _ e => ⟨_, He.frG_in, congrArg (fun z : He.AlD × Bool => z.1) e, congrArg (fun z : He.AlD × Bool => z.2) e⟩
  keeps := fun _ _ _ ⟨K, hK, c⟩ k => ⟨K, PySem.W.Frag.In.keeps hK k, c⟩
open He5 in
def obsMA (n : Nat) (fa : List He.Fa) (fn : List DefA) (ex : PySem.W.Frag → Bool) (g : Addr → Option Obj) : He.AlD × Bool := (fun K => (obsA fa fn K, ex K)) (He.frG g (asA g n))
theorem obsMA_eq {n : Nat} {fa : List He.Fa} {fn : List He5.DefA} {ex : PySem.W.Frag → Bool} {g : Addr → Option Obj} {s : Shared} (h : ∀ a, g a = s.heap.get? a) : obsMA n fa fn ex g = (hookMA n fa fn ex).obs s := by
  have e : g = s.heap.get? := funext h
  rw [e] <;> rfl
/-! ### an error's class, as Bools of the written part -/
def clsB (K : PySem.W.Frag) (C : Addr) : Bool := match K.lookup C with
  | some ⟨.type "type", _, .cls cd, sl⟩ => (match cd.mro, sl.toList with
    | .ref D :: bm, [_, _, _, _, some (.builtin n), _] => D == C && (n == "ValueError.__new__" && (!cd.hasDel && (cd.hasDict && PySem.HandSPX.refsVE bm)))
    | _, _ => false)
  | _ => false
theorem clsB_ok {K : PySem.W.Frag} {C : Addr} (h : clsB K C = true) : ∃ nm q N bs bm sn sub ab col dd k0 k1 k2 k3 k5, K.lookup C = some (excClassObj nm q C N bs bm true sn sub ab col dd k0 k1 k2 k3 k5 "ValueError.__new__") ∧ PySem.HandSPX.refsVE bm = true := by
  unfold clsB at h
  split at h
  · rename_i dd cd sl ho
    split at h
    · rename_i D bm k0 k1 k2 k3 n k5 hm hs
      simp only [Bool.and_eq_true, beq_iff_eq, Bool.not_eq_true'] at h
      obtain ⟨rfl, rfl, hdel, hdc, hv⟩ := h
      obtain ⟨nm, bs, mro, ns, qn, hd, sn, sub, ab, col, del⟩ := cd
      dsimp only at hm hdel hdc
      subst hm hdel hdc
      have hsl : sl = #[k0, k1, k2, k3, some (.builtin "ValueError.__new__"), k5] := by
        obtain ⟨l⟩ := sl
        simp only at hs
        rw [hs]
      subst hsl
      exact ⟨nm, qn, ns, bs, bm, sn, sub, ab, col, dd, k0, k1, k2, k3, k5, ho, hv⟩
    · cases h
  · cases h
/-- of every error's class -/
def exB (K : PySem.W.Frag) (C : Addr) : Bool := He.eqO (PySem.W.findIn K (.ref C) "__getattribute__") (some (some (.builtin "BaseException.__getattribute__"))) && (He.eqO (PySem.W.findIn K (.ref C) "__getattr__") (some none) && (decide (PySem.W.subIn K (.ref C) (.type "BaseException") = some true) && (PySem.W.hasDictIn K C &&
  (He.eqO (PySem.W.findIn K (.ref C) "__class__") (some (some (.builtin "object.__class__"))) && (He.eqO (PySem.W.specialIn K (.builtin "object.__class__") "__get__") (some (some (.builtin "getset_descriptor.__get__"))) && (decide (PySem.W.takesIn K (.builtin "object.__class__") = some true) && (decide (PySem.W.mroIn K C (.type "object") = some true) &&
  (decide (PySem.W.typeIn K (.ref C) = some (.type "type")) && PySem.W.keepIn K (.ref C)))))))))
structure ExF (K : PySem.W.Frag) (C : Addr) : Prop where
  xf : XfC K C
  xc : ExcC K C
  ty : PySem.W.typeIn K (.ref C) = some (.type "type")
  kp : PySem.W.keepIn K (.ref C) = true
theorem exB_ok {K : PySem.W.Frag} {C : Addr} (h : exB K C = true) : ExF K C := by
  obtain ⟨h1, h⟩ := He.ba h
  obtain ⟨h2, h⟩ := He.ba h
  obtain ⟨h3, h⟩ := He.ba h
  obtain ⟨h4, h⟩ := He.ba h
  obtain ⟨h5, h⟩ := He.ba h
  obtain ⟨h6, h⟩ := He.ba h
  obtain ⟨h7, h⟩ := He.ba h
  obtain ⟨h8, h⟩ := He.ba h
  obtain ⟨h9, h10⟩ := He.ba h
  have e3 := of_decide_eq_true h3
  exact ⟨⟨He.eqO_ok h1, He.eqO_ok h2, e3, h4⟩, ⟨He.eqO_ok h1, He.eqO_ok h2, e3, h4, He.eqO_ok h5, He.eqO_ok h6, of_decide_eq_true h7, of_decide_eq_true h8⟩, of_decide_eq_true h9, h10⟩
/-- of one with an __init__ of its own that stores the field f -/
def inB (K : PySem.W.Frag) (C : Addr) (f : Str) : Bool := clsB K C && (He.eqO (PySem.W.findIn K (.ref C) "__setattr__") (some (some (.builtin "object.__setattr__"))) && (He.eqO (PySem.W.findIn K (.ref C) f) (some none) &&
  (He.eqO (PySem.W.findIn K (.ref C) "__init__") (some (some (.ref (He.ma K C "__init__")))) && decide (PySem.W.typeIn K (.ref (He.ma K C "__init__")) = some (.type "function")))))
structure InF (K : PySem.W.Frag) (C : Addr) (f : Str) : Prop where
  oe : OexC K C
  no : PySem.W.findIn K (.ref C) f = some none
  ini : PySem.W.findIn K (.ref C) "__init__" = some (some (.ref (He.ma K C "__init__")))
  fn : PySem.W.typeIn K (.ref (He.ma K C "__init__")) = some (.type "function")
theorem inB_ok {K : PySem.W.Frag} {C : Addr} {f : Str} (x : ExF K C) (h : inB K C f = true) : InF K C f := by
  obtain ⟨h1, h⟩ := He.ba h
  obtain ⟨h2, h⟩ := He.ba h
  obtain ⟨h3, h⟩ := He.ba h
  obtain ⟨h4, h5⟩ := He.ba h
  exact ⟨⟨clsB_ok h1, He.eqO_ok h2, x.xf.exC, x.ty, x.kp⟩, He.eqO_ok h3, He.eqO_ok h4, of_decide_eq_true h5⟩
/-! ### short facts -/
theorem same_new {H : Hp} {a : Addr} {o : HO} (h : H a = none) : Same H (upd H a o) := fun c u e => by
  rw [upd_ne (ne_of_none e h)]
  exact e
theorem same_two {H : Hp} {a b : Addr} {o u : HO} (ha : H a = none) (hb : upd H a o b = none) : Same H (upd (upd H a o) b u) := fun c z e => by
  have k : upd H a o c = some z := by rw [upd_ne (ne_of_none e ha)]; exact e
  rw [upd_ne (ne_of_none k hb)]
  exact k
theorem none_of {H : Hp} {a b : Addr} {o : HO} (hb : upd H a o b = none) : H b = none := by
  by_cases e : b = a
  · rw [e, upd_same] at hb; cases hb
  · rwa [upd_ne e] at hb
def Kept (b : Addr) (H H' : Hp) : Prop := ∀ c o, H c = some o → c ≠ b → H' c = some o
theorem kept_box {H : Hp} {b : Addr} {o : HO} : Kept b H (upd H b o) := fun c u e n => by
  rw [upd_ne n]
  exact e
theorem Kept.of {H H' : Hp} {b : Addr} (k : Same H H') : Kept b H H' := fun c o e _ => k c o e
theorem Kept.trans {H H' H'' : Hp} {b : Addr} (k : Kept b H H') (q : Kept b H' H'') : Kept b H H'' := fun c o e n => q c o (k c o e n) n
theorem lt_line {n : Nat} (h : n ≤ 100000) : n < sizeLine := Nat.lt_of_le_of_lt h (by decide)
/-! ### an error's __init__ -/
def spIni (K : PySem.W.Frag) (C : Addr) (g : Str) : Sp := fun vs H Q _ => ∃ (a : Addr) (v : V), vs = [.ref a, v] ∧ H a = some (exo a C none) ∧ ∀ dx, H dx = none → dx ≠ a → Q .non (upd (upd H dx (exd dx [(g, v)])) a (exo a C (some dx)))
section
variable {P : Program} {w : World} {K : PySem.W.Frag} {mg : Str → Option Value} {base : Heap} {f : Addr} {fd : FuncData}
theorem ok_ini {x g qual : Str} {pa : Arguments} {bd : List Stmt} {sc : Scope} {C : Addr} {q1 q2 q3 q4 : Pos} (F : FunD K x qual pa bd sc [] [] f fd) (S : FnScope ["self", g] ["self", g] sc) (hb : bd = [.Assign [.Attribute (.Name "self" q1) g q2] (.Name g q3) q4]) (I : InF K C g)
    (hd : (g == ("__debug__" : Str)) = false) (hc : (g == ("__classdict__" : Str)) = false) : FnOk P w K mg base CX0 1 f fd ["self", g] (spIni K C g) := by
  subst hb
  refine F.ok S (fun vs H Q E h => ?_) (fun cdv A outer s H vs Q E hr h => ?_)
  · obtain ⟨a, v, rfl, _⟩ := h
    rfl
  · obtain ⟨a, v, rfl, ha, k⟩ := h
    refine ⟨_, PSs.nox (pss_one (ps_ost (pe_var (i := 0) rfl (vis_par S (x := "self") (.head _))) (pe_var (i := 1) rfl (vis_par S (.tail _ (.head _))) hd hc))), ?_⟩
    exact ⟨_, rfl, _, rfl, a, C, rfl, I.oe, I.no, .inl ⟨ha, k⟩⟩
/-- an error's __init__: its promise, its arguments by place -/
def IniOk (P : Program) (w : World) (K : PySem.W.Frag) (mg : Str → Option Value) (base : Heap) (x g : Str) : Prop := ∃ fd, FnOk P w K mg base CX0 1 (He.ma K (He.ga K x) "__init__") fd ["self", g] (spIni K (He.ga K x) g) ∧ Binds K fd ["self", g] []
end
/-! ### the draws' box -/
/-- the box, of which at most N numbers were mixed -/
def BoxK (H : Hp) (b : Addr) (N : Nat) : Prop := ∃ x y z : Int, H b = some (.lst [.int x, .int y, .int z]) ∧ 0 ≤ x ∧ 0 ≤ y ∧ y ≤ N ∧ 0 ≤ z ∧ z ≤ 100000000
theorem Kept.refl {b : Addr} {H : Hp} : Kept b H H := fun _ _ h _ => h
theorem BoxK.same {H H' : Hp} {b : Addr} {N : Nat} (s : Same H H') (h : BoxK H b N) : BoxK H' b N := by
  obtain ⟨x, y, z, hb, r⟩ := h
  exact ⟨x, y, z, s _ _ hb, r⟩
theorem BoxK.at {H : Hp} {b : Addr} {N : Nat} (h : BoxK H b N) : ∃ xs, H b = some (.lst xs) := let ⟨_, _, _, hb, _⟩ := h; ⟨_, hb⟩
theorem BoxK.mono {H : Hp} {b : Addr} {N M : Nat} (h : BoxK H b N) (l : N ≤ M) : BoxK H b M := by
  obtain ⟨x, y, z, hb, x0, y0, yN, r⟩ := h
  exact ⟨x, y, z, hb, x0, y0, by omega, r⟩
def spTake : Sp := fun vs H Q _ => ∃ (b : Addr) (m x y z : Int), vs = [.ref b, .int m] ∧ H b = some (.lst [.int x, .int y, .int z]) ∧ 0 ≤ x ∧ 0 ≤ y ∧ y ≤ 1000000 ∧ 0 ≤ z ∧ z ≤ 100000000 ∧ 0 < m ∧ m ≤ 1000000000 ∧
  ∀ d x' y', 0 ≤ d → d < m → 0 ≤ x' → x' ≤ x → y ≤ y' → y' ≤ y + 1 → Q (.int d) (upd H b (.lst [.int x', .int y', .int z]))
theorem take_use {H : Hp} {b : Addr} {N : Nat} {m : Int} {Q : VK} {E : XK} (h : BoxK H b N) (hN : N ≤ 900000) (m0 : 0 < m) (m1 : m ≤ 1000000000)
    (k : ∀ d H', 0 ≤ d → d < m → Kept b H H' → BoxK H' b (N + 1) → (∀ c, H c = none → H' c = none) → Q (.int d) H') : spTake [.ref b, .int m] H Q E := by
  obtain ⟨x, y, z, hb, x0, y0, yN, z0, z1⟩ := h
  refine ⟨b, m, x, y, z, rfl, hb, x0, y0, by omega, z0, z1, m0, m1, fun d x' y' d0 d1 x0' x1' y1 y2 => k d _ d0 d1 (fun c o q ne => by rw [upd_ne ne]; exact q) ⟨x', y', z, upd_same, x0', by omega, by omega, z0, z1⟩ fun c hc => ?_⟩
  rw [upd_ne (fun e => by rw [e, hb] at hc; cases hc)]
  exact hc
theorem pw_ok {i : Int} (h0 : 0 ≤ i) (h1 : i < 2 ^ 90) : CPw i 3 := by
  refine ⟨by decide, ?_⟩
  have h : Builtin.Int.intBits i ≤ 90 := intBits_le (by omega)
  have h2 : (Builtin.Int.intBits i : Int) ≤ 90 := by exact_mod_cast h
  omega
def spBox (K : PySem.W.Frag) : Sp := fun vs H Q _ => ∃ (l : Addr) (ns : List Int) (j : Nat), vs = [.ref l, .int j] ∧ SqL K H l (ns.map V.int) ∧ j ≤ 100 ∧ ∀ p H', H p = none → Same H H' → BoxK H' p 0 → Q (.ref p) H'
theorem atI_ex {xs : List V} {d : Int} (h0 : 0 ≤ d) (h1 : d < xs.length) : ∃ v, atI xs d = some v ∧ v ∈ xs := by
  have hl : d.toNat < xs.length := by omega
  refine ⟨xs[d.toNat], ?_, List.getElem_mem hl⟩
  have e : ((d.toNat : Nat) : Int) = d := Int.toNat_of_nonneg h0
  have q := atI_nat (xs := xs) (j := d.toNat) (List.getElem?_eq_getElem hl)
  rwa [e] at q
/-- the heap behind an error's making -/
theorem raise_heap {H : Hp} {a d C : Addr} {g : Str} {v : V} (ha : H a = none) (hd : d ≠ a) : upd (del (upd (upd (upd H a (exo a C none)) d (exd d [(g, v)])) a (exo a C (some d))) a) d (.xd [(g, v)]) = upd H d (.xd [(g, v)]) := by
  funext b
  by_cases hb : b = d
  · rw [hb, upd_same, upd_same]
  · rw [upd_ne hb, upd_ne hb]
    by_cases hba : b = a
    · rw [hba, del_same, ha]
    · rw [del_ne hba, upd_ne hba, upd_ne hb, upd_ne hba]
/-- what C(v) asks, C of one field -/
theorem make_read {K : PySem.W.Frag} {C : Addr} {g : Str} {v : V} {H : Hp} {X : XK} (k : ∀ d, H d = none → X (.ref C) (some d) (upd H d (.xd [(g, v)]))) (a : Addr) (ha : H a = none) :
    spIni K C g [.ref a, v] (upd H a (exo a C none)) (fun u H2 => u = .non ∧ ∃ (d : Addr) (fs : List (Str × V)), H2 a = some (exo a C (some d)) ∧ H2 d = some (exd d fs) ∧ H d = none ∧ X (.ref C) (some d) (upd (del H2 a) d (.xd fs))) (fun _ _ _ => False) := by
  refine ⟨a, v, rfl, upd_same, fun d hd ne => ⟨rfl, d, [(g, v)], upd_same, ?_, ?_, ?_⟩⟩
  · rw [upd_ne ne, upd_same]
  · rwa [upd_ne ne] at hd
  · rw [raise_heap ha ne]
    rw [upd_ne ne] at hd
    exact k d hd
end VX

set_option Elab.async false
set_option linter.all false
set_option maxRecDepth 100000
set_option maxHeartbeats 4000000
/-! # C.m(..) of a classmethod within a try -/
namespace VX
open PySem PySem.Spec PyProof.Rows L2 ClX
section
variable {X : Cx} {pins : List (Addr × Obj)} {σ : L2.St} {H : Hp} {s : Shared}
theorem run_fnRS {CX : CXT} {k : Nat} {f : Addr} {sp : Sp} {E : XK} {Q : VK} {us : List Value} {vs : List V} (F : FnR X.prog X.w X.K X.mg X.base CX k f sp) (hr : Room k X.A) (hx : PassesAt CX X σ E) (I : L2.Inv X pins σ H s) (r : Vals vs us) (h : sp vs H Q E) :
    codeAny (model X.prog X.w) X.A (.call (.ref f) ⟨us, []⟩) (fun r s' => match r with | .ok (.ret v) => EP X pins σ Q v s' | .ok _ => False | .error e => X.xe e s') s := by
  refine codeAny_mono (F X.A X.stack s H us vs Q E hr I.env0 r h) fun r s' hq => ?_
  cases r with
  | error e => exact hx pins H s e s' I hq
  | ok fl =>
    cases fl with
    | ret u => exact I.after hq
    | next => exact False.elim hq
    | brk => exact False.elim hq
    | cont => exact False.elim hq
theorem run_cmS {CX : CXT} {k : Nat} {C g q : Addr} {sp : Sp} {E : XK} {Q : VK} {us : List Value} {vs : List V} (F : FnR X.prog X.w X.K X.mg X.base CX k g sp) (hr : Room k X.A) (hx : PassesAt CX X σ E) (I : L2.Inv X ((q, PySem.W.methodObj (.ref g) (.ref C)) :: pins) σ H s)
    (r : Vals vs us) (h : sp (.ref C :: vs) H Q E) : wpAny (model X.prog X.w) X.A (call (.ref q) us) (EP X pins σ Q) X.xe s := by
  have z : wpAny (model X.prog X.w) X.A (call (.ref q) us) (EP X ((q, PySem.W.methodObj (.ref g) (.ref C)) :: pins) σ Q) X.xe s :=
    wpAny_call (PySem.W.method_call (pin_at I) (run_fnRS (us := .ref C :: us) (vs := .ref C :: vs) F hr hx I (.cons rfl r) h))
  exact thn z fun _ _ y => unpinE y
end
def tCMethS (C : Addr) (sp : Sp) (E : L2.St → XK) (ta : TE) (t : TA) : TE := fun σ H Q => ta σ H fun x H1 => x = .ref C ∧ t σ H1 fun vs H2 => sp (.ref C :: vs) H2 Q (E σ)
theorem pe_cmethS {X : Cx} {CX : CXT} {k : Nat} {C p g : Addr} {mc : Value} {sp : Sp} {E : L2.St → XK} {o e : Expr} {es : List Expr} {m : Str} {pos apos : Pos} {ta : TE} {t : TA} {pl : Sem Bool} (he : PE X o ta) (r : CRead X.K C mc) (c : CMet X.K C mc m p g) (F : FnR X.prog X.w X.K X.mg X.base CX k g sp) (hr : Room k X.A) (hx : ∀ σ, PassesAt CX X σ (E σ)) (ha : PA X (e :: es) t)
    (hst : starEach (e :: es) X.env = (false, eval e X.env) :: starEach es X.env := by rfl) (hpl : (backTo pos (starEach es X.env)).any (·.1) = false := by rfl)
    (ht : eval (.Call (.Attribute o m apos) (e :: es) [] pos) X.env = (do
      let ov ← eval o X.env
      standAt apos.atName
      let (f, first) ← holding [ov] (getMethod ov m pl)
      callWith pos f first (backTo pos (starEach (e :: es) X.env)) (backToKw pos (keywordEach [] X.env))) := by rfl) :
    PE X (.Call (.Attribute o m apos) (e :: es) [] pos) (tCMethS C sp E ta t) := by
  refine ⟨fun pins s σ H Q I h => ?_⟩
  refine PySem.W.methodCall_KW (pl := pl) (thn (he.run pins s σ H _ I h) fun u s1 ⟨x, H1, I1, rx, ex, q⟩ => ?_) ht
  subst ex
  obtain rfl : u = Value.ref C := rx
  refine getmethcm_ok I1 r c fun s2 I2 => ?_
  refine callwith_cm I2 (base_none I1 (Nat.le_refl _)) c.fi (thn (ha.run pos _ s2 σ H1 _ I2 q) fun us s3 ⟨vs, H2, I3, rv, q2⟩ => ⟨⟨pin_at I3, I3.kIn⟩, ?_⟩) hst hpl
  exact run_cmS F hr (hx σ) I3 rv q2
theorem yes_if {σ : L2.St} {H : Hp} {A B : Hp → Prop} (h : A H) : tYes σ H fun b H3 => if b = true then A H3 else B H3 := by
  show if true = true then A H else B H
  rw [if_pos rfl]
  exact h
theorem no_if {σ : L2.St} {H : Hp} {A : Hp → Prop} (h : A H) : tYes σ H fun b H3 => b = true → A H3 := fun _ => h
/-- a list that grows outside of what stood -/
theorem Same.grow {H H3 : Hp} {D : Addr} {o : HO} (s : Same H H3) (hD : H D = none) : Same H (upd H3 D o) := fun b u q => by
  rw [upd_ne (ne_of_none q hD)]
  exact s b u q
theorem take_more {α β : Type} {g : α → β} {xs : List α} {i : Nat} {x : α} (h : xs[i]? = some x) : (xs.take (i + 1)).map g = (xs.take i).map g ++ [g x] := by
  rw [List.take_succ, h, List.map_append]
  rfl
theorem take_one {α : Type} {xs : List α} {i : Nat} {x : α} (h : xs[i]? = some x) : xs.take (i + 1) = xs.take i ++ [x] := by
  rw [List.take_succ, h]
  rfl
/-! ### a text times an int; an item of a displayed list, drawn -/
theorem op_mulS {X : Cx} : OpR X (binaryOp .Mult) (fun x y H Q => ∃ a n, x = .str a ∧ y = .int n ∧ a.length ≤ 1000 ∧ 0 ≤ n ∧ n ≤ 1000 ∧ Q (.str (Txt.mul a n)) H) := by
  intro pins s σ H x y v u Q I rx ry h
  obtain ⟨a, n, rfl, rfl, ha, h0, h1, q⟩ := h
  obtain ⟨t, rfl⟩ := rx
  obtain ⟨t', rfl⟩ := ry
  have hp : (a.length : Int) * n ≤ 1000000 := by
    have := Int.mul_le_mul (show (a.length : Int) ≤ 1000 by omega) h1 h0 (by decide)
    omega
  refine SB.mul ⟨?_, fun h2 _ h3 => ?_, fun h2 _ => ?_⟩ fun t' k => ⟨.str (Txt.mul a n), H, I.tok _, ⟨t', rfl⟩, q⟩
  · rw [decide_eq_false (by omega), decide_eq_false (by omega)]; rfl
  · have h5 : (1000 : Int) ≤ (2 ^ 63 - 1) / n := by
      rw [Int.le_ediv_iff_mul_le (by omega)]
      omega
    omega
  · have h6 : a.length * n.toNat ≤ 1000000 := by
      have e : ((a.length * n.toNat : Nat) : Int) = (a.length : Int) * n := by rw [Int.natCast_mul, Int.toNat_of_nonneg h0]
      omega
    have h7 : (1000000 : Nat) ≤ sizeLine := by decide
    exact decide_eq_false (by show ¬ a.length * n.toNat > sizeLine; omega)
theorem pick_use {K : PySem.W.Frag} {H : Hp} {b l0 : Addr} {N : Nat} {m : Int} {vs : List V} {Q : VK} {E : XK} (h : BoxK H b N) (hl : H l0 = none) (hN : N ≤ 900000) (hm : (vs.length : Int) = m) (m0 : 0 < m) (m1 : m ≤ 1000)
    (k : ∀ v H', v ∈ vs → Kept b H H' → BoxK H' b (N + 1) → Q v H') : spTake [.ref b, .int m] (upd H l0 (.lst vs)) (fun y H2 => rIxL K (.ref l0) y H2 Q) E := by
  have n0 : l0 ≠ b := fun e => by obtain ⟨xs, hx⟩ := h.at; rw [e, hx] at hl; cases hl
  refine take_use (h.same (same_new hl)) hN m0 (by omega) fun d H1 d0 d1 kp bx _ => ?_
  obtain ⟨v, hv, hm⟩ := atI_ex (xs := vs) d0 (by omega)
  exact ⟨l0, vs, d, v, rfl, rfl, SqL.of (kp _ _ upd_same n0), hv, k v H1 hm ((Kept.of (same_new hl)).trans kp) bx⟩
end VX

set_option Elab.async false
set_option linter.all false
set_option maxRecDepth 100000
set_option maxHeartbeats 4000000
/-! # f(g = u), f(g = u, h = v), f(h = v, g = u) -/
namespace VX
open PySem PySem.Spec PyProof.Rows L2
theorem pe_kcall1 {X : Cx} {CX : CXT} {x g : Str} {f : Addr} {k : Nat} {fd : FuncData} {sp : Sp} {E : XK} {p k1 pos : Pos} {e1 : Expr} {tk : TA} (F : FnOk X.prog X.w X.K X.mg X.base CX k f fd [g] sp) (hr : Room k X.A) (hg : Gl X x) (hm : X.mg x = some (.ref f)) (hk : PySem.W.keepIn X.K (.ref f) = true)
    (hb : ∀ (s : Shared) (u : Value), BindsTo s fd ⟨[], [(g, u)]⟩ [(g, u)]) (hx : Passes CX X E) (ha : PK X [⟨some g, e1, k1⟩] tk) (hdb : (x == ("__debug__" : Str)) = false := by decide)
    (hpl : ((backTo pos (starEach [] X.env)).any (·.1) || (backToKw pos (keywordEach [⟨some g, e1, k1⟩] X.env)).any (·.1.isNone)) = false := by rfl)
    (hall : (backToKw pos (keywordEach [⟨some g, e1, k1⟩] X.env)).all (·.1.isSome) = true := by rfl) (hks : (backToKw pos (keywordEach [⟨some g, e1, k1⟩] X.env)).filterMap (·.1) = [g] := by rfl) :
    PE X (.Call (.Name x p) [] [⟨some g, e1, k1⟩] pos) (fun σ H Q => tk σ H fun zs H1 => zs.length = 1 ∧ sp zs H1 Q E) := by
  refine ⟨fun pins s σ H Q I q0 => wpAny_Call_Name_kw (ld_glob I hg hm ?_ hdb)⟩
  refine PySem.W.callWith_KW0 (h₀ := X.base) I.ok.mod.kin hk hall ?_ hpl
  refine thn (ha.run pos pins s σ H _ I q0) fun ws s1 ⟨zs, H1, I1, rz, l1, q⟩ => ⟨I1.kIn, ?_⟩
  rw [hks]
  obtain ⟨z1, rfl⟩ : ∃ z1, zs = [z1] := by
    match zs, l1 with
    | [a], _ => exact ⟨a, rfl⟩
  obtain ⟨u1, rfl, r1⟩ := vals1 rz
  show wpAny _ _ (call (.ref f) [] [(g, u1)]) _ _ _
  refine wpAny_call (codeAny_mono (F.run X.A X.stack s1 H1 ⟨[], [(g, u1)]⟩ [u1] [z1] Q E hr I1.env0 (hb s1 u1) (.cons r1 .nil) q) fun r s' hq => ?_)
  match r, hq with
  | .ok (.ret u), hq => exact I1.after hq
  | .error er, hq => exact hx pins σ H1 s1 er s' I1 hq
/-- the keywords' order, the parameters' order: o says whether they are the same -/
theorem pe_kcall2 {X : Cx} {CX : CXT} {x g h a b : Str} {f : Addr} {k : Nat} {fd : FuncData} {sp : Sp} {E : XK} {p k1 k2 pos : Pos} {e1 e2 : Expr} {tk : TA} (o : Bool) (F : FnOk X.prog X.w X.K X.mg X.base CX k f fd [g, h] sp) (hr : Room k X.A) (hg : Gl X x) (hm : X.mg x = some (.ref f)) (hk : PySem.W.keepIn X.K (.ref f) = true)
    (hb : ∀ (s : Shared) (u v : Value), BindsTo s fd ⟨[], [(a, u), (b, v)]⟩ (if o = true then [(g, u), (h, v)] else [(g, v), (h, u)])) (hx : Passes CX X E) (ha : PK X [⟨some a, e1, k1⟩, ⟨some b, e2, k2⟩] tk) (hdb : (x == ("__debug__" : Str)) = false := by decide)
    (hpl : ((backTo pos (starEach [] X.env)).any (·.1) || (backToKw pos (keywordEach [⟨some a, e1, k1⟩, ⟨some b, e2, k2⟩] X.env)).any (·.1.isNone)) = false := by rfl)
    (hall : (backToKw pos (keywordEach [⟨some a, e1, k1⟩, ⟨some b, e2, k2⟩] X.env)).all (·.1.isSome) = true := by rfl) (hks : (backToKw pos (keywordEach [⟨some a, e1, k1⟩, ⟨some b, e2, k2⟩] X.env)).filterMap (·.1) = [a, b] := by rfl) :
    PE X (.Call (.Name x p) [] [⟨some a, e1, k1⟩, ⟨some b, e2, k2⟩] pos) (fun σ H Q => tk σ H fun zs H1 => ∃ z1 z2, zs = [z1, z2] ∧ sp (if o = true then [z1, z2] else [z2, z1]) H1 Q E) := by
  refine ⟨fun pins s σ H Q I q0 => wpAny_Call_Name_kw (ld_glob I hg hm ?_ hdb)⟩
  refine PySem.W.callWith_KW0 (h₀ := X.base) I.ok.mod.kin hk hall ?_ hpl
  refine thn (ha.run pos pins s σ H _ I q0) fun ws s1 ⟨zs, H1, I1, rz, z1, z2, ez, q⟩ => ⟨I1.kIn, ?_⟩
  subst ez
  rw [hks]
  obtain ⟨u1, u2, rfl, r1, r2⟩ := vals2 rz
  show wpAny _ _ (call (.ref f) [] [(a, u1), (b, u2)]) _ _ _
  cases o with
  | true =>
    refine wpAny_call (codeAny_mono (F.run X.A X.stack s1 H1 ⟨[], [(a, u1), (b, u2)]⟩ [u1, u2] [z1, z2] Q E hr I1.env0 (hb s1 u1 u2) (.cons r1 (.cons r2 .nil)) q) fun r s' hq => ?_)
    match r, hq with
    | .ok (.ret u), hq => exact I1.after hq
    | .error er, hq => exact hx pins σ H1 s1 er s' I1 hq
  | false =>
    refine wpAny_call (codeAny_mono (F.run X.A X.stack s1 H1 ⟨[], [(a, u1), (b, u2)]⟩ [u2, u1] [z2, z1] Q E hr I1.env0 (hb s1 u1 u2) (.cons r2 (.cons r1 .nil)) q) fun r s' hq => ?_)
    match r, hq with
    | .ok (.ret u), hq => exact I1.after hq
    | .error er, hq => exact hx pins σ H1 s1 er s' I1 hq
end VX

set_option Elab.async false
set_option linter.all false
set_option maxRecDepth 100000
set_option maxHeartbeats 4000000
/-! # {k: v}, k a tuple; len(o) by an own __len__ -/
namespace VX
open PySem PySem.Spec PyProof.Rows L2
def tDispT (tk tv : TE) : TE := fun σ H Q => ∀ p, H p = none → tk σ (upd H p (.dT [])) fun x H1 => tv σ H1 fun z H2 => H2 p = some (.dT []) ∧ ∃ (b : Addr) (ks : List Key), x = .ref b ∧ H2 b = some (.tup (ks.map kV)) ∧ Q (.ref p) (upd H2 p (.dT [(ks, z)]))
theorem pe_dispT {X : Cx} {pos : Pos} {k v : Expr} {tk tv : TE} (hu : X.A.units < cLine) (hk : PE X k tk) (hv : PE X v tv) : PE X (.Dict [some k] [v] pos) (tDispT tk tv) := by
  refine ⟨fun pins s σ H Q I q => ?_⟩
  have hn := I.hok.fresh (Nat.le_refl s.heap.objs.size)
  have I1 := I.laid (a := s.heap.objs.size) (o := .dT []) (h' := s.heap.push { cls := .type "dict", data := .dict #[] }) (t' := s.toks) (fun _ _ q => Heap.get?_push_of_some _ q) (Nat.le_refl _) (dt_empty s.heap I.big)
  rw [arm_eval_Dict, zip_pairTrees [some k] [v] X.env pos rfl rfl, dictDisplay_pairs (pairTrees [some k] [v] X.env pos) (by simp [pairTrees]) (by simp [pairTrees])]
  refine wpAny_bind (wpAny_standAt (wpAny_bind (wpAny_subDictH (knd := tupleKind (mixKind X.prog X.w)) (Q := fun d s' => wpAny (model X.prog X.w) X.A (pure (Value.ref d)) (EP X pins σ Q) X.xe s') ?hr (by simp [pairTrees]) ?_)))
  case hr => exact hu
  refine pairTrees_cons_walk (thn (hk.run pins _ σ _ _ I1 (q _ hn)) fun u s1 ⟨x, H1, I2, r1, q1⟩ => thn (hv.run pins s1 σ H1 _ I2 q1) fun w s2 ⟨z, H2, I3, r2, e, b, ks, ex, eb, q2⟩ => pairTrees_nil_walk ?_)
  subst ex
  cases (show u = Value.ref b from r1)
  obtain ⟨z0, hd, xs, rel, dd⟩ := dt_of I3.hok e
  cases rel
  refine ⟨[(ks, b, w)], ⟨rfl, rfl, key_of I3.hok eb, True.intro⟩, dd, fun h' tk' dd' hs => wpAny_pure ⟨.ref s.heap.objs.size, _, ?_, rfl, q2⟩⟩
  obtain ⟨qo, es, ep, hq, h2, h3, h4, _, h5⟩ := dd'
  refine d_write I3 (by rw [e]; exact True.intro) hs ⟨qo, hq⟩ ⟨by show 1 ≤ sizeLine; decide, hd, _, .cons ⟨rfl, ?_, r2⟩ .nil, qo, es, ep, hq, h2, h3, h4, h5⟩
  rw [upd_ne (ne_of eb e (fun z => nomatch z))]
  exact eb
/-- len(o) by an own __len__ -/
def rLenO (C : Addr) (sp : Sp) (E : XK) : List V → Hp → VK → Prop := fun xs H Q => ∃ a dx fs, xs = [.ref a] ∧ H a = some (.ins C dx fs) ∧ sp [.ref a] H (fun v H' => ∃ i : Int, v = .int i ∧ 0 ≤ i ∧ i < 2 ^ 62 ∧ Q v H') E
theorem call_lenO {X : Cx} {CX : CXT} {C f : Addr} {n : Nat} {sp : Sp} {E : XK} (F : FnR X.prog X.w X.K X.mg X.base CX n f sp) (hs : PySem.W.findIn X.K (.ref C) "__len__" = some (some (.ref f))) (hf : PySem.W.isFn X.K (.ref f) = true) (hx : Passes CX X E) (hr : Room (n + 1) X.A) :
    CallR X (.builtin "len") (rLenO C sp E) := by
  intro pins s σ H xs us Q I r h
  obtain ⟨a, dx, fs, rfl, ha, h⟩ := h
  obtain ⟨u, rfl, ru⟩ := vals1 r
  cases (show u = Value.ref a from ru)
  obtain ⟨mA, J, _⟩ := ins_get I.hok ha
  obtain ⟨od, J, _⟩ := J.look
  obtain ⟨m, hF⟩ := I.fr
  refine PySem.W.len_K hF I.ok.mod.kin J hs hf ?_
  have e0 : Env0 X.prog X.w X.K X.mg X.base X.A.in1 X.stack s H := by
    have e := I.env0
    exact ⟨e.frames, e.mod, e.bs, e.bsz, e.funs, e.frf, e.hok, e.bare⟩
  refine wpAny_call (codeAny_mono (F X.A.in1 X.stack s H [.ref a] [.ref a] _ E hr.in1 e0 (.cons rfl .nil) h) fun r s' hq => ?_)
  cases r with
  | error e => exact hx pins σ H s e s' I hq
  | ok fl =>
    cases fl with
    | ret w =>
      obtain ⟨z, H', I', rz, i, rfl, h0, h1, q⟩ := I.after hq
      obtain ⟨t, rfl⟩ := rz
      exact ⟨⟨h0, by omega⟩, .int i, H', I'.tok _, ⟨_, rfl⟩, q⟩
    | next => exact False.elim hq
    | brk => exact False.elim hq
    | cont => exact False.elim hq
end VX

set_option Elab.async false
set_option linter.all false
set_option maxRecDepth 100000
set_option maxHeartbeats 4000000
/-! # law_k07: the text's defs, what a walk knows of the module -/
namespace K7
open PySem PySem.Spec PyProof.Rows L2 VX
def top (i : Nat) : Stmt := PySem.Challenge.pw_handspaces_k07_images.main.body.getD i (.Pass ⟨0, 0, 0, 0⟩)
abbrev iInt : Nat := 12
abbrev iPrime : Nat := 13
abbrev iChkP : Nat := 14
abbrev iChkL : Nat := 32
abbrev iInv : Nat := 15
abbrev iRow : Nat := 17
abbrev iRowOf : Nat := 18
abbrev iLead : Nat := 20
abbrev iTimes : Nat := 21
abbrev iAdded : Nat := 22
abbrev iRest : Nat := 23
abbrev iJoined : Nat := 24
abbrev iReduced : Nat := 25
abbrev iSent : Nat := 27
abbrev iSize : Nat := 33
abbrev iChecked : Nat := 35
abbrev iSpace : Nat := 38
abbrev iSquare : Nat := 39
abbrev iImage : Nat := 40
def defs : List (Str × Nat) := [("is_integer", iInt), ("is_prime", iPrime), ("check_prime", iChkP), ("inverse", iInv), ("is_row", iRow), ("row_of", iRowOf), ("lead", iLead), ("times", iTimes), ("added", iAdded), ("rest_of", iRest), ("joined", iJoined), ("reduced", iReduced), ("sent", iSent), ("check_length", iChkL), ("check_size", iSize), ("checked_row", iChecked), ("is_square", iSquare), ("image", iImage),
  ("_law_cell", 42), ("_law_box", 43), ("_law_take", 44), ("_law_frame", 45), ("_law_vector", 46), ("_law_rows", 47), ("_law_plus", 48), ("_law_grown", 49), ("_law_power", 50), ("_law_span", 51), ("_law_is", 52), ("_law_sent", 53), ("_law_refused", 54), ("law", 55)]
def free : List Str := ["len", "int", "bool", "abs", "repr", "range", "list", "tuple", "isinstance", "all", "sum", "enumerate", "zip", "max", "min"]
abbrev FnP (K : PySem.W.Frag) (x : Str) (i : Nat) (f : Addr) (fd : FuncData) : Prop := FunD K x x (defArgs (top i)) (defBody (top i)) (defScope (top i)) [] [] f fd
structure Txt (K : PySem.W.Frag) (mg : Str → Option Value) : Prop where
  dfs : ∀ p ∈ defs, mg p.1 = some (.ref (He.ga K p.1))
  prim : mg "PRIMES" = some (.ref (He.ga K "PRIMES"))
  free : ∀ x ∈ free, mg x = none
  tup : ∀ H, SqT K H (He.ga K "PRIMES") [.int 2, .int 3, .int 5, .int 7, .int 11, .int 13]
  chk : ∃ fd, FnP K "check_prime" iChkP (He.ga K "check_prime") fd
  chl : ∃ fd, FnP K "check_length" iChkL (He.ga K "check_length") fd
  longest : ∃ t, mg "LONGEST" = some (.int 12 t)
  space : mg "Space" = some (.ref (He.ga K "Space"))
  cls : Cls K (He.ga K "Space")
  fp : NoAttr K (He.ga K "Space") "_prime"
  fl : NoAttr K (He.ga K "Space") "_length"
  fw : NoAttr K (He.ga K "Space") "_rows"
  mks : Mk K (He.ga K "Space") (He.ma K (He.ga K "Space") "__init__")
theorem Txt.fr {K : PySem.W.Frag} {mg : Str → Option Value} (T : Txt K mg) (x : Str) (h : x ∈ K7.free := by decide +kernel) : mg x = none := T.free x h
theorem Txt.df {K : PySem.W.Frag} {mg : Str → Option Value} (T : Txt K mg) (x : Str) (i : Nat) (h : (x, i) ∈ defs := by decide +kernel) : mg x = some (.ref (He.ga K x)) := T.dfs (x, i) h
end K7

set_option Elab.async false
set_option linter.all false
set_option maxRecDepth 100000
set_option maxHeartbeats 4000000
/-! # rows.py: rows -/
namespace K7
open PySem PySem.Spec PyProof.Rows L2 VX RX
section
variable {P : Program} {w : World} {K : PySem.W.Frag} {mg : Str → Option Value} {base : Heap} {f : Addr} {fd : FuncData}
/-- a row as it stands in memory -/
def IsRow (H : Hp) (a : Addr) (r : List Int) : Prop := H a = some (.tup (r.map V.int))
/-! ### lead -/
def spLead : Sp := fun vs H Q _ => ∃ (a : Addr) (r : List Int), vs = [.ref a] ∧ IsRow H a r ∧ ∀ H', Same H H' → Q (.int (lead r)) H'
theorem sc_lead : FnScope ["row", "at", "item"] ["row"] (defScope (top iLead)) := ⟨rfl, rfl, rfl, by decide +kernel, rfl, by decide +kernel, by decide +kernel⟩
theorem ok_lead (F : FnP K "lead" iLead f fd) (T : Txt K mg) : FnOk P w K mg base CX0 1 f fd ["row"] spLead := by
  refine F.ok sc_lead (fun vs H Q E h => ?_) (fun cdv A outer s H vs Q E hr h => ?_)
  · obtain ⟨a, r, rfl, _⟩ := h
    rfl
  · obtain ⟨a, r, rfl, ha, k⟩ := h
    have ie := T.fr "enumerate"
    have il := T.fr "len"
    refine ⟨_, PSs.nox (pss_cons (ps_for PassesOwn.never rfl (pi_enumT (by rfl) ie (pa_cons (pv 0) pa_nil)) (pg_tup rfl (pgs_cons (pg_name (i := 1) sc_lead.nd rfl (.inl rfl)) (pgs_cons (pg_name (i := 2) sc_lead.nd rfl (.inl rfl)) pgs_nil)))
        (pss_one (ps_if (pt_cmpR op_ne (pv 2) pe_int (nomark _)) (pss_one (ps_ret (pv 1))) pss_nil)))
      (pss_one (ps_ret (pe_callB call_len_seq (by rfl) il boot_len (pa_cons (pv 0) pa_nil))))), ?_⟩
    refine ⟨_, rfl, a, _, rfl, SqT.of ha, for_it walk_enumT (fun i σ H' => (∃ y z, σ = [some (V.ref a), y, z]) ∧ Same H H' ∧ ∀ j, j < i → at0 r j = 0) ⟨⟨none, none, rfl⟩, Same.refl _, fun j hj => absurd hj (Nat.not_lt_zero j)⟩ (fun i σ H' _ p => SqT.of (p.2.1 _ _ ha)) ?_ ?_⟩
    · rintro i x σ H1 H2 hi ⟨⟨y, z, rfl⟩, sm, hz⟩ ⟨T', x', y', rfl, hT, rfl, e1, e2⟩
      obtain rfl : V.int (i : Nat) = x' := Option.some.inj e1
      have hi' : i < r.length := by simpa using hi
      have e3 : y' = V.int (at0 r i) := by
        have e2 : (r.map V.int)[i]? = some y' := e2
        rw [List.getElem?_map, List.getElem?_eq_getElem hi'] at e2
        rw [at0_of hi']
        exact (Option.some.inj e2).symm
      subst e3
      have sm2 : Same H (upd H1 T' (.tup [.int (i : Nat), .int (at0 r i)])) := fun c u q => by rw [upd_ne (ne_of_none (sm c u q) hT)]; exact sm c u q
      refine ⟨T', _, rfl, SqT.of upd_same, rfl, _, _, rfl, _, _, rfl, rfl, _, rfl, rfl, _, rfl, ?_⟩
      refine ite2 (fun c => ?_) (fun c => ?_)
      · have c' : at0 r i ≠ 0 := by simpa using c
        refine ⟨_, rfl, ?_⟩
        rw [lead_eq c' hz] at k
        exact k _ sm2
      · have c' : at0 r i = 0 := by simpa using c
        refine ⟨⟨_, _, rfl⟩, sm2, fun j hj => ?_⟩
        by_cases e : j = i
        · rw [e]; exact c'
        · exact hz j (by omega)
    · rintro σ H1 ⟨⟨y, z, rfl⟩, sm, hz⟩
      refine ⟨_, rfl, a, _, rfl, .inr (SqT.of (sm _ _ ha)), ?_⟩
      have e : lead r = r.length := by
        rcases Nat.lt_or_eq_of_le (lead_le (r := r)) with h | h
        · exact absurd (hz _ (by simpa using h)) (lead_ne h)
        · exact h
      have e2 : (((r.map V.int).length : Nat) : Int) = (lead r : Int) := by rw [e]; simp
      show Q (V.int (((r.map V.int).length : Nat) : Int)) H1
      rw [e2]
      exact k _ sm
/-! ### row_of, times, added -/
theorem lt_line {n : Nat} (h : n ≤ 100000) : n < sizeLine := Nat.lt_of_le_of_lt h (by decide)
theorem take_more {α β : Type} {g : α → β} {xs : List α} {i : Nat} {x : α} (h : xs[i]? = some x) : (xs.take (i + 1)).map g = (xs.take i).map g ++ [g x] := by
  rw [List.take_succ, h, List.map_append]
  rfl
theorem ints_at {xs : List Int} {i : Nat} {v : V} (h : (xs.map V.int)[i]? = some v) : ∃ x, xs[i]? = some x ∧ v = .int x := by
  rw [List.getElem?_map] at h
  cases e : xs[i]? with
  | none => rw [e] at h; cases h
  | some x =>
    rw [e] at h
    exact ⟨x, rfl, (Option.some.inj h).symm⟩
theorem fmod_pos {a p : Int} (h : 0 < p) : a.fmod p = a % p := by
  rw [Int.fmod_eq_emod_of_nonneg a (by omega)]
theorem same_two {H : Hp} {a b : Addr} {o u : HO} (ha : H a = none) (hb : upd H a o b = none) : Same H (upd (upd H a o) b u) := fun c z e => by
  have k : upd H a o c = some z := by rw [upd_ne (ne_of_none e ha)]; exact e
  rw [upd_ne (ne_of_none k hb)]
  exact k
theorem yes_if {σ : L2.St} {H : Hp} {A B : Hp → Prop} (h : A H) : tYes σ H fun b H3 => if b = true then A H3 else B H3 := by
  show if true = true then A H else B H
  rw [if_pos rfl]
  exact h
theorem none_of {H : Hp} {a b : Addr} {o : HO} (hb : upd H a o b = none) : H b = none := by
  by_cases e : b = a
  · rw [e, upd_same] at hb; cases hb
  · rwa [upd_ne e] at hb
def spRowOf (K : PySem.W.Frag) : Sp := fun vs H Q _ => ∃ (a : Addr) (xs : List Int) (p : Int), vs = [.ref a, .int p] ∧ (H a = some (.lst (xs.map V.int)) ∨ IsRow H a xs) ∧ 0 < p ∧ xs.length ≤ 1000 ∧ ∀ H' b, Same H H' → H b = none → IsRow H' b (modR p xs) → Q (.ref b) H'
theorem sc_rowof : FnScope ["vector", "prime", "item"] ["vector", "prime"] (defScope (top iRowOf)) := ⟨rfl, rfl, rfl, by decide +kernel, rfl, by decide +kernel, by decide +kernel⟩
theorem ok_rowof (F : FnP K "row_of" iRowOf f fd) (T : Txt K mg) : FnOk P w K mg base CX0 1 f fd ["vector", "prime"] (spRowOf K) := by
  refine F.ok sc_rowof (fun vs H Q E h => ?_) (fun cdv A outer s H vs Q E hr h => ?_)
  · obtain ⟨a, xs, p, rfl, _⟩ := h
    rfl
  · obtain ⟨a, xs, p, rfl, ha, hp, hl, k⟩ := h
    have it := T.fr "tuple"
    rcases ha with ha | ha
    · refine ⟨_, PSs.nox (pss_one (ps_ret (pe_callTy call_tuple_of (by rfl) it (by decide +kernel) (pa_cons (pe_lc (own := [("item", 2)]) (g := gName 2) (by rfl) sc_rowof.nd (pi_list (pv 0)) (blkOk_by (own := [("item", 2)]) (N := ["vector", "prime", "item"]) (sc := defScope (top iRowOf)) (by decide +kernel)) (fun _ _ _ _ _ => pg_name (i := 2) sc_rowof.nd rfl (Or.inl rfl)) (fun _ _ _ _ _ => pts_nil) (fun _ _ _ _ _ => pe_op op_modN (pv 2) (pv 1))) pa_nil)))), ?_⟩
      refine ⟨_, rfl, a, rfl, ⟨_, SqL.of ha⟩, fun D hD => lc_it (walk_list (K := K) (a := a) (xs := xs.map V.int)) (fun i H' => H' = upd H D (.lst ((xs.take i).map fun x => V.int (x % p)))) rfl (fun i H' _ z => SqL.of (by rw [z, upd_ne (ne_of_none ha hD)]; exact ha)) ?_ ?_⟩
      · rintro i x H1 H2 hi rfl ⟨rfl, hx⟩
        obtain ⟨y, hy, rfl⟩ := ints_at hx
        refine ⟨rfl, yes_if ?_⟩
        refine ⟨_, rfl, _, rfl, _, _, rfl, rfl, (by omega), _, upd_same, lt_line (by simp; omega), ?_⟩
        show upd (upd H D _) D (.lst (_ ++ [V.int (y.fmod p)])) = _
        rw [upd_upd, take_more hy, fmod_pos hp]
      · rintro H1 rfl
        refine ⟨D, _, rfl, .inl ⟨SqL.of upd_same, fun b hb => k _ b (same_two hD hb) (none_of hb) ?_⟩⟩
        show upd _ b _ b = _
        rw [upd_same, List.length_map, List.take_length, modR, List.map_map]
        rfl
    · refine ⟨_, PSs.nox (pss_one (ps_ret (pe_callTy call_tuple_of (by rfl) it (by decide +kernel) (pa_cons (pe_lc (own := [("item", 2)]) (g := gName 2) (by rfl) sc_rowof.nd (pi_tup (pv 0)) (blkOk_by (own := [("item", 2)]) (N := ["vector", "prime", "item"]) (sc := defScope (top iRowOf)) (by decide +kernel)) (fun _ _ _ _ _ => pg_name (i := 2) sc_rowof.nd rfl (Or.inl rfl)) (fun _ _ _ _ _ => pts_nil) (fun _ _ _ _ _ => pe_op op_modN (pv 2) (pv 1))) pa_nil)))), ?_⟩
      refine ⟨_, rfl, a, rfl, ⟨_, SqT.of ha⟩, fun D hD => lc_it (walk_tup (K := K) (a := a) (xs := xs.map V.int)) (fun i H' => H' = upd H D (.lst ((xs.take i).map fun x => V.int (x % p)))) rfl (fun i H' _ z => SqT.of (by rw [z, upd_ne (ne_of_none ha hD)]; exact ha)) ?_ ?_⟩
      · rintro i x H1 H2 hi rfl ⟨rfl, hx⟩
        obtain ⟨y, hy, rfl⟩ := ints_at hx
        refine ⟨rfl, yes_if ?_⟩
        refine ⟨_, rfl, _, rfl, _, _, rfl, rfl, (by omega), _, upd_same, lt_line (by simp; omega), ?_⟩
        show upd (upd H D _) D (.lst (_ ++ [V.int (y.fmod p)])) = _
        rw [upd_upd, take_more hy, fmod_pos hp]
      · rintro H1 rfl
        refine ⟨D, _, rfl, .inl ⟨SqL.of upd_same, fun b hb => k _ b (same_two hD hb) (none_of hb) ?_⟩⟩
        show upd _ b _ b = _
        rw [upd_same, List.length_map, List.take_length, modR, List.map_map]
        rfl
end
end K7

set_option Elab.async false
set_option linter.all false
set_option maxRecDepth 100000
set_option maxHeartbeats 4000000
/-! # rows.py: times, added -/
namespace K7
open PySem PySem.Spec PyProof.Rows L2 VX RX
section
variable {P : Program} {w : World} {K : PySem.W.Frag} {mg : Str → Option Value} {base : Heap} {f : Addr} {fd : FuncData}
theorem same_new {H : Hp} {a : Addr} {o : HO} (h : H a = none) : Same H (upd H a o) := fun c u e => by
  rw [upd_ne (ne_of_none e h)]
  exact e
theorem none_back {H H' : Hp} {b : Addr} (s : Same H H') (h : H' b = none) : H b = none := by
  cases e : H b with
  | none => rfl
  | some o => rw [s b o e] at h; cases h
theorem walk_zipT {a b : Addr} {xs ys : List V} {n : Nat} (h1 : xs.length = n) (h2 : ys.length = n) : Walk (RZ.ItzT K a b) n (fun H => SqT K H a xs ∧ SqT K H b ys) (YPair (fun i => xs[i]?) (fun i => ys[i]?)) := by
  refine ⟨fun i _ hi q => ⟨xs, ys, xs[i], ys[i], q.1, q.2, by simp [h1, hi], by simp [h2, hi]⟩, fun _ q => ⟨xs, ys, q.1, q.2, .inl (by omega)⟩, fun i H v H' _ q y => ?_⟩
  obtain ⟨T, x, z, k1, k2, k3, k4, k5⟩ := y
  exact ⟨T, x, z, k1, k2, k3, k4 xs q.1, k5 ys q.2⟩
def spTimes : Sp := fun vs H Q _ => ∃ (g : Int) (a : Addr) (r : List Int) (p : Int), vs = [.int g, .ref a, .int p] ∧ IsRow H a r ∧ 0 < p ∧ (-(2 ^ 64) < g ∧ g < 2 ^ 64) ∧ r.length ≤ 1000 ∧ ∀ H' b, Same H H' → H b = none → IsRow H' b (scale p g r) → Q (.ref b) H'
theorem sc_times : FnScope ["factor", "row", "prime", "item"] ["factor", "row", "prime"] (defScope (top iTimes)) := ⟨rfl, rfl, rfl, by decide +kernel, rfl, by decide +kernel, by decide +kernel⟩
theorem ok_times (F : FnP K "times" iTimes f fd) (T : Txt K mg) : FnOk P w K mg base CX0 1 f fd ["factor", "row", "prime"] spTimes := by
  refine F.ok sc_times (fun vs H Q E h => ?_) (fun cdv A outer s H vs Q E hr h => ?_)
  · obtain ⟨g, a, r, p, rfl, _⟩ := h
    rfl
  · obtain ⟨g, a, r, p, rfl, ha, hp, hg, hl, k⟩ := h
    have it := T.fr "tuple"
    refine ⟨_, PSs.nox (pss_one (ps_ret (pe_callTy call_tuple_of (by rfl) it (by decide +kernel) (pa_cons (pe_lc (own := [("item", 3)]) (g := gName 3) (by rfl) sc_times.nd (pi_tup (pv 1)) (blkOk_by (own := [("item", 3)]) (N := ["factor", "row", "prime", "item"]) (sc := defScope (top iTimes)) (by decide +kernel)) (fun _ _ _ _ _ => pg_name (i := 3) sc_times.nd rfl (Or.inl rfl)) (fun _ _ _ _ _ => pts_nil) (fun _ _ _ _ _ => pe_op op_modN (pe_op op_mul (pv 0) (pv 3)) (pv 2))) pa_nil)))), ?_⟩
    refine ⟨_, rfl, a, rfl, ⟨_, SqT.of ha⟩, fun D hD => lc_it (walk_tup (K := K) (a := a) (xs := r.map V.int)) (fun i H' => H' = upd H D (.lst ((r.take i).map fun x => V.int (g * x % p)))) rfl (fun i H' _ z => SqT.of (by rw [z, upd_ne (ne_of_none ha hD)]; exact ha)) ?_ ?_⟩
    · rintro i x H1 H2 hi rfl ⟨rfl, hx⟩
      obtain ⟨y, hy, rfl⟩ := ints_at hx
      refine ⟨rfl, yes_if ?_⟩
      refine ⟨_, rfl, _, rfl, _, _, rfl, rfl, .inl hg, _, rfl, _, _, rfl, rfl, (by omega), _, upd_same, lt_line (by simp; omega), ?_⟩
      show upd (upd H D _) D (.lst (_ ++ [V.int ((g * y).fmod p)])) = _
      rw [upd_upd, take_more hy, fmod_pos hp]
    · rintro H1 rfl
      refine ⟨D, _, rfl, .inl ⟨SqL.of upd_same, fun b hb => k _ b (same_two hD hb) (none_of hb) ?_⟩⟩
      show upd _ b _ b = _
      rw [upd_same, List.length_map, List.take_length, scale, List.map_map]
      rfl
def spAdded : Sp := fun vs H Q _ => ∃ (a : Addr) (r : List Int) (g : Int) (b : Addr) (o : List Int) (p : Int), vs = [.ref a, .int g, .ref b, .int p] ∧ IsRow H a r ∧ IsRow H b o ∧ r.length = o.length ∧ 0 < p ∧ (-(2 ^ 64) < g ∧ g < 2 ^ 64) ∧ r.length ≤ 1000 ∧ ∀ H' c, Same H H' → H c = none → IsRow H' c (addR p r g o) → Q (.ref c) H'
theorem sc_added : FnScope ["row", "factor", "other", "prime", "item", "more"] ["row", "factor", "other", "prime"] (defScope (top iAdded)) := ⟨rfl, rfl, rfl, by decide +kernel, rfl, by decide +kernel, by decide +kernel⟩
theorem ok_added (F : FnP K "added" iAdded f fd) (T : Txt K mg) : FnOk P w K mg base CX0 1 f fd ["row", "factor", "other", "prime"] spAdded := by
  refine F.ok sc_added (fun vs H Q E h => ?_) (fun cdv A outer s H vs Q E hr h => ?_)
  · obtain ⟨a, r, g, b, o, p, rfl, _⟩ := h
    rfl
  · obtain ⟨a, r, g, b, o, p, rfl, ha, hb, hlen, hp, hg, hl, k⟩ := h
    have it := T.fr "tuple"
    have iz := T.fr "zip"
    refine ⟨_, PSs.nox (pss_one (ps_ret (pe_callTy call_tuple_of (by rfl) it (by decide +kernel) (pa_cons (pe_lc (own := [("item", 4), ("more", 5)]) (g := gTup K 2 (gCons (gName 4) (gCons (gName 5) gNil))) (by rfl) sc_added.nd (RZ.pi_zipA (by rfl) iz (pa_cons (pv 0) (pa_cons (pv 2) pa_nil))) (blkOk_by (own := [("item", 4), ("more", 5)]) (N := ["row", "factor", "other", "prime", "item", "more"]) (sc := defScope (top iAdded)) (by decide +kernel))
      (fun _ _ _ _ _ => pg_tup rfl (pgs_cons (pg_name (i := 4) sc_added.nd rfl (Or.inl rfl)) (pgs_cons (pg_name (i := 5) sc_added.nd rfl (Or.inl rfl)) pgs_nil))) (fun _ _ _ _ _ => pts_nil) (fun _ _ _ _ _ => pe_op op_modN (pe_op op_add (pv 4) (pe_op op_mul (pv 1) (pv 5))) (pv 3))) pa_nil)))), ?_⟩
    have hlo : (addR p r g o).length = r.length := addR_len rfl hlen.symm
    refine ⟨_, rfl, _, rfl, a, b, _, _, rfl, .inr ⟨SqT.of ha, SqT.of hb, fun D hD => lc_it (walk_zipT (K := K) (a := a) (b := b) (xs := r.map V.int) (ys := o.map V.int) (n := r.length) (by simp) (by simp [hlen])) (fun i H' => Same H H' ∧ H' D = some (.lst (((addR p r g o).take i).map V.int))) ⟨same_new hD, upd_same⟩
      (fun i H' _ z => ⟨SqT.of (z.1 _ _ ha), SqT.of (z.1 _ _ hb)⟩) ?_ ?_⟩⟩
    · rintro i x H1 H2 hi ⟨sm, hd⟩ ⟨T', x', y', rfl, hT, rfl, e1, e2⟩
      obtain ⟨u, hu, rfl⟩ := ints_at (xs := r) e1
      obtain ⟨v, hv, rfl⟩ := ints_at (xs := o) e2
      refine ⟨T', _, rfl, SqT.of upd_same, rfl, _, _, rfl, _, _, rfl, rfl, rfl, yes_if ?_⟩
      refine ⟨_, rfl, _, rfl, _, rfl, _, _, rfl, rfl, .inl hg, _, _, rfl, rfl, _, rfl, _, _, rfl, rfl, (by omega), ((addR p r g o).take i).map V.int, ?_, lt_line (by simp; omega), ?_, ?_⟩
      · rw [upd_ne (ne_of_none hd hT)]; exact hd
      · intro c z q
        rw [upd_ne (ne_of_none q hD), upd_ne (ne_of_none (sm c z q) hT)]
        exact sm c z q
      · have e : (addR p r g o)[i]? = some ((u + g * v) % p) := by
          simp only [addR, List.getElem?_zipWith, hu, hv]
        rw [upd_same, take_more e]
        show some (HO.lst (_ ++ [V.int ((u + g * v).fmod p)])) = _
        rw [fmod_pos hp]
    · rintro H1 ⟨sm, hd⟩
      refine ⟨D, _, rfl, .inl ⟨SqL.of hd, fun c hc => k _ c (fun d z q => ?_) (none_back sm hc) ?_⟩⟩
      · rw [upd_ne (ne_of_none (sm d z q) hc)]
        exact sm d z q
      · show upd _ c _ c = _
        rw [upd_same, ← hlo, List.take_length]
end
end K7

set_option Elab.async false
set_option linter.all false
set_option maxRecDepth 100000
set_option maxHeartbeats 4000000
/-! # rows.py: rest_of, joined, reduced -/
namespace K7
open PySem PySem.Spec PyProof.Rows L2 VX RX
section
variable {P : Program} {w : World} {K : PySem.W.Frag} {mg : Str → Option Value} {base : Heap} {f : Addr} {fd : FuncData}
/-- rows as they stand in memory -/
inductive AreRows (H : Hp) : List Addr → List (List Int) → Prop
  | nil : AreRows H [] []
  | cons {a : Addr} {r : List Int} {as : List Addr} {rs : List (List Int)} : IsRow H a r → AreRows H as rs → AreRows H (a :: as) (r :: rs)
theorem AreRows.same {H H' : Hp} (s : Same H H') : ∀ {as : List Addr} {rs : List (List Int)}, AreRows H as rs → AreRows H' as rs
  | _, _, .nil => .nil
  | _, _, .cons h t => .cons (s _ _ h) (t.same s)
theorem AreRows.length {H : Hp} : ∀ {as : List Addr} {rs : List (List Int)}, AreRows H as rs → as.length = rs.length
  | _, _, .nil => rfl
  | _, _, .cons _ t => congrArg (· + 1) t.length
theorem AreRows.get {H : Hp} : ∀ {as : List Addr} {rs : List (List Int)} {i : Nat} {a : Addr}, AreRows H as rs → as[i]? = some a → ∃ r, rs[i]? = some r ∧ IsRow H a r
  | _, _, 0, _, .cons h _, e => ⟨_, rfl, Option.some.inj e ▸ h⟩
  | _, _, i + 1, _, .cons _ t, e => t.get (i := i) e
theorem AreRows.append {H : Hp} : ∀ {as : List Addr} {rs : List (List Int)} {bs : List Addr} {ss : List (List Int)}, AreRows H as rs → AreRows H bs ss → AreRows H (as ++ bs) (rs ++ ss)
  | _, _, _, _, .nil, h => h
  | _, _, _, _, .cons h t, g => .cons h (t.append g)
theorem refs_at {as : List Addr} {i : Nat} {v : V} (h : (as.map V.ref)[i]? = some v) : ∃ a, as[i]? = some a ∧ v = .ref a := by
  rw [List.getElem?_map] at h
  cases e : as[i]? with
  | none => rw [e] at h; cases h
  | some x =>
    rw [e] at h
    exact ⟨x, rfl, (Option.some.inj h).symm⟩
/-- bounds under which a row is calculated with -/
structure Ok (p : Int) (n : Nat) (r : List Int) : Prop where
  row : Row p n r
  two : 2 ≤ p
  small : p ≤ 1000
  len : n ≤ 100
theorem small_item {p : Int} {n : Nat} {r : List Int} (h : Ok p n r) (i : Nat) : -(2 ^ 64) < -at0 r i ∧ -at0 r i < 2 ^ 64 := by
  have b := h.row.bound (by have := h.two; omega) i
  have := h.small
  omega
def spRest : Sp := fun vs H Q _ => ∃ (a : Addr) (r : List Int) (l : Addr) (as : List Addr) (b : List (List Int)) (p : Int) (n : Nat), vs = [.ref a, .ref l, .int p] ∧ IsRow H a r ∧ H l = some (.lst (as.map V.ref)) ∧ AreRows H as b ∧ Ok p n r ∧ Rref p n b ∧
  ∀ H' c, Same H H' → IsRow H' c (restOf p b r) → Q (.ref c) H'
theorem sc_rest : FnScope ["row", "basis", "prime", "other", "factor"] ["row", "basis", "prime"] (defScope (top iRest)) := ⟨rfl, rfl, rfl, by decide +kernel, rfl, by decide +kernel, by decide +kernel⟩
theorem _root_.RX.Rref.take {p : Int} {n : Nat} {b : List (List Int)} (h : Rref p n b) (i : Nat) : Rref p n (b.take i) := by
  have e : b = b.take i ++ b.drop i := (List.take_append_drop i b).symm
  rw [e] at h
  exact h.init
theorem rest_step {p : Int} {b : List (List Int)} {r : List Int} {i : Nat} {o : List Int} (h : b[i]? = some o) : restOf p (b.take (i + 1)) r = if at0 (restOf p (b.take i) r) (lead o) = 0 then restOf p (b.take i) r else addR p (restOf p (b.take i) r) (-at0 (restOf p (b.take i) r) (lead o)) o := by
  rw [List.take_succ, h, Option.toList_some]
  unfold restOf
  rw [List.foldl_append]
  rfl
theorem atI_row {r : List Int} {i : Nat} (h : i < r.length) : atI (r.map V.int) (i : Int) = some (.int (at0 r i)) := by
  refine atI_nat ?_
  rw [List.getElem?_map, List.getElem?_eq_getElem h, at0_of h]
  rfl
theorem ok_rest {fdL fdA : FuncData} (F : FnP K "rest_of" iRest f fd) (T : Txt K mg) (FL : FnP K "lead" iLead (He.ga K "lead") fdL) (FA : FnP K "added" iAdded (He.ga K "added") fdA) : FnOk P w K mg base CX0 2 f fd ["row", "basis", "prime"] spRest := by
  have GL : FnOk P w K mg base CX0 1 _ fdL ["row"] spLead := ok_lead FL T
  have GA : FnOk P w K mg base CX0 1 _ fdA ["row", "factor", "other", "prime"] spAdded := ok_added FA T
  have BL : Binds K fdL ["row"] [] := FL.bindsN fun _ _ _ _ _ _ us hl => match us, hl with | [_], _ => rfl
  have BA : Binds K fdA ["row", "factor", "other", "prime"] [] := FA.bindsN fun _ _ _ _ _ _ us hl => match us, hl with | [_, _, _, _], _ => rfl
  refine F.ok sc_rest (fun vs H Q E h => ?_) (fun cdv A outer s H vs Q E hr h => ?_)
  · obtain ⟨a, r, l, as, b, p, n, rfl, _⟩ := h
    rfl
  · obtain ⟨a, r, l, as, b, p, n, rfl, ha, hl, hb, ho, hR, k⟩ := h
    refine ⟨_, PSs.nox (pss_cons (ps_for PassesOwn.never rfl (pi_list (pv 1)) (pg_name (i := 3) sc_rest.nd rfl (.inl rfl))
        (pss_cons (ps_set (i := 4) sc_rest.nd rfl (.inl rfl) (pe_ix ix_tup (pv 0) (pe_call GL hr (by rfl) (T.df "lead" iLead) FL.kp BL .nil pass0 (pa_cons (pv 3) pa_nil)) (fun _ _ => rfl)))
        (pss_one (ps_if (pt_cmpR op_ne (pv 4) pe_int (nomark _)) (pss_one (ps_set (i := 0) sc_rest.nd rfl (.inl rfl) (pe_call GA hr (by rfl) (T.df "added" iAdded) FA.kp BA .nil pass0 (pa_cons (pv 0) (pa_cons (pe_un un_neg (pv 4)) (pa_cons (pv 3) (pa_cons (pv 2) pa_nil))))))) pss_nil))))
      (pss_one (ps_ret (pv 0)))), ?_⟩
    refine ⟨_, rfl, l, rfl, ⟨_, SqL.of hl⟩, for_list (xs := as.map V.ref) (fun i σ H' => ∃ c y z, σ = [some (.ref c), some (.ref l), some (.int p), y, z] ∧ Same H H' ∧ IsRow H' c (restOf p (b.take i) r)) ⟨a, none, none, rfl, Same.refl _, ha⟩ (fun i σ H' _ q => SqL.of (q.elim fun _ q => q.elim fun _ q => q.elim fun _ q => q.2.1 _ _ hl)) ?_ ?_⟩
    · rintro i x σ H1 hx ⟨c, y, z, rfl, sm, hc⟩
      obtain ⟨ao, hao, rfl⟩ := refs_at hx
      obtain ⟨o, hob, har⟩ := hb.get hao
      have hmem : o ∈ b := List.mem_of_getElem? hob
      have h0 : 0 < p := by have := ho.two; omega
      obtain ⟨hrow, _⟩ := (hR.take i).rest h0 ho.row
      have hro := hR.rows o hmem
      have hlt := hR.lt o hmem
      have hok : Ok p n (restOf p (b.take i) r) := ⟨hrow, ho.two, ho.small, ho.len⟩
      have st := rest_step (p := p) (r := r) hob
      refine ⟨_, rfl, _, rfl, ao, o, rfl, sm _ _ har, fun H2 s2 => ⟨c, _, _, _, rfl, rfl, SqT.of (s2 _ _ hc), atI_row (by rw [hrow.1]; exact hlt), ?_⟩⟩
      refine ⟨_, rfl, rfl, _, rfl, ?_⟩
      refine ite2 (fun e => ?_) (fun e => ?_)
      · have e' : at0 (restOf p (b.take i) r) (lead o) ≠ 0 := by simpa using e
        refine ⟨_, rfl, _, rfl, _, rfl, _, rfl, _, rfl, c, _, _, ao, o, p, rfl, s2 _ _ hc, s2 _ _ (sm _ _ har), (by rw [hrow.1, hro.1]), h0, small_item hok _, (by have := ho.len; have := hrow.1; omega), fun H3 d s3 _ h3 => ?_⟩
        refine ⟨d, _, _, rfl, fun u v q => s3 _ _ (s2 _ _ (sm _ _ q)), ?_⟩
        rw [st, if_neg e']
        exact h3
      · have e' : at0 (restOf p (b.take i) r) (lead o) = 0 := by simpa using e
        refine ⟨c, _, _, rfl, fun u v q => s2 _ _ (sm _ _ q), ?_⟩
        rw [st, if_pos e']
        exact s2 _ _ hc
    · rintro σ H1 ⟨c, y, z, rfl, sm, hc⟩
      refine ⟨_, rfl, k _ _ sm ?_⟩
      rwa [List.length_map, hb.length, List.take_length] at hc
end
end K7

set_option Elab.async false
set_option linter.all false
set_option maxRecDepth 100000
set_option maxHeartbeats 4000000
/-! # rests.py -/
namespace K7
open PySem PySem.Spec PyProof.Rows L2 VX RX
section
variable {P : Program} {w : World} {K : PySem.W.Frag} {mg : Str → Option Value} {base : Heap} {f : Addr} {fd : FuncData}
/-! ### is_integer -/
def spInt (K : PySem.W.Frag) : Sp := fun vs H Q _ => ∃ (v : V) (t : Value) (a b : Bool), vs = [v] ∧ TyX K H v t ∧ PySem.W.kitOne K t (.type "int") = some a ∧ PySem.W.kitOne K t (.type "bool") = some b ∧ Q (.bl (a && !b)) H
theorem sc_int : FnScope ["value"] ["value"] (defScope (top iInt)) := ⟨rfl, rfl, rfl, by decide +kernel, rfl, by decide +kernel, by decide +kernel⟩
theorem ok_int (F : FnP K "is_integer" iInt f fd) (T : Txt K mg) : FnOk P w K mg base CX0 1 f fd ["value"] (spInt K) := by
  refine F.ok sc_int (fun vs H Q E h => ?_) (fun cdv A outer s H vs Q E hr h => ?_)
  · obtain ⟨v, t, a, b, rfl, _⟩ := h
    rfl
  · obtain ⟨v, t, a, b, rfl, ht, ha, hb, k⟩ := h
    have i0 := T.fr "isinstance"
    have i1 := T.fr "int"
    have i2 := T.fr "bool"
    refine ⟨_, PSs.nox (pss_one (ps_ret (pe_and (pe_callB call_isi (by rfl) i0 (by decide +kernel) (pa_cons (pv 0) (pa_cons (pe_bltn (v := .ty "int") (by rfl) i1 boot_int rfl) pa_nil)))
      (pe_one (pe_not (pe_callB call_isi (by rfl) i0 (by decide +kernel) (pa_cons (pv 0) (pa_cons (pe_bltn (v := .ty "bool") (by rfl) i2 (by decide +kernel) rfl) pa_nil)))))))), ?_⟩
    refine ⟨_, rfl, v, .ty "int", t, _, a, rfl, .ty _, ht, ha, a, rfl, ?_⟩

    cases a with
    | false => exact iteF k
    | true =>
      refine iteT ?_
      refine ⟨_, rfl, v, .ty "bool", t, _, b, rfl, .ty _, ht, hb, b, rfl, k⟩
/-! ### is_prime -/
def isP (n : Int) : Bool := decide (n ∈ [(2 : Int), 3, 5, 7, 11, 13])
def spPrime (K : PySem.W.Frag) : Sp := fun vs H Q _ => ∃ (v : V) (t : Value) (a b : Bool), vs = [v] ∧ TyX K H v t ∧ PySem.W.kitOne K t (.type "int") = some a ∧ PySem.W.kitOne K t (.type "bool") = some b ∧
  ((a && !b) = true → ∃ n, v = .int n ∧ Q (.bl (isP n)) H) ∧ ((a && !b) = false → Q (.bl false) H)
theorem sc_prime : FnScope ["value"] ["value"] (defScope (top iPrime)) := ⟨rfl, rfl, rfl, by decide +kernel, rfl, by decide +kernel, by decide +kernel⟩
theorem ok_prime {fd1 : FuncData} (F : FnP K "is_prime" iPrime f fd) (T : Txt K mg) (F1 : FnP K "is_integer" iInt (He.ga K "is_integer") fd1) : FnOk P w K mg base CX0 2 f fd ["value"] (spPrime K) := by
  have G1 : FnOk P w K mg base CX0 1 _ fd1 ["value"] (spInt K) := ok_int F1 T
  have B1 : Binds K fd1 ["value"] [] := F1.bindsN fun _ _ _ _ _ _ us hl => match us, hl with | [_], _ => rfl
  refine F.ok sc_prime (fun vs H Q E h => ?_) (fun cdv A outer s H vs Q E hr h => ?_)
  · obtain ⟨v, t, a, b, rfl, _⟩ := h
    rfl
  · obtain ⟨v, t, a, b, rfl, ht, ha, hb, k1, k2⟩ := h
    refine ⟨_, PSs.nox (pss_one (ps_ret (pe_and (pe_call G1 hr (by rfl) (T.df "is_integer" iInt) F1.kp B1 .nil pass0 (pa_cons (pv 0) pa_nil)) (pe_one (pe_cmpR op_in_seq (pv 0) (pe_glob (v := .ref (He.ga K "PRIMES")) (by rfl) T.prim rfl) (by rfl)))))), ?_⟩
    refine ⟨_, rfl, v, t, a, b, rfl, ht, ha, hb, _, rfl, ?_⟩
    cases e : (a && !b) with
    | false => exact iteF (k2 e)
    | true =>
      obtain ⟨n, rfl, k⟩ := k1 e
      refine iteT ?_
      refine ⟨_, rfl, _, _, rfl, .inr (T.tup _), rfl, rfl, ?_⟩
      have e2 : inV (V.int n) [V.int 2, V.int 3, V.int 5, V.int 7, V.int 11, V.int 13] = isP n := by
        rw [Bool.eq_iff_iff]
        simp only [inV, eqV, isP, List.any_cons, List.any_nil, Bool.or_false, Bool.or_eq_true, beq_iff_eq, decide_eq_true_eq, List.mem_cons, List.not_mem_nil, or_false]
        omega
      show Q (.bl (inV (V.int n) [V.int 2, V.int 3, V.int 5, V.int 7, V.int 11, V.int 13])) H
      rw [e2]
      exact k
theorem inv_nat : ∀ p ∈ [2, 3, 5, 7, 11, 13], ∀ r < p, r ≠ 0 → ∃ j < p - 1, r * (1 + j) % p = 1 := by decide
theorem isP_cases {p : Int} (h : isP p = true) : p = 2 ∨ p = 3 ∨ p = 5 ∨ p = 7 ∨ p = 11 ∨ p = 13 := by simpa [isP] using h
theorem isP_nat {p : Int} (h : isP p = true) : ∃ q : Nat, q ∈ [2, 3, 5, 7, 11, 13] ∧ p = (q : Int) := by
  rcases isP_cases h with h | h | h | h | h | h
  · exact ⟨2, by decide, h⟩
  · exact ⟨3, by decide, h⟩
  · exact ⟨5, by decide, h⟩
  · exact ⟨7, by decide, h⟩
  · exact ⟨11, by decide, h⟩
  · exact ⟨13, by decide, h⟩
theorem isP_pos {p : Int} (h : isP p = true) : 2 ≤ p ∧ p ≤ 13 := by
  rcases isP_cases h with h | h | h | h | h | h <;> omega
theorem inv_ex {n p : Int} (hp : isP p = true) (h : n % p ≠ 0) : ∃ j : Nat, (j : Int) < p - 1 ∧ n * (1 + (j : Int)) % p = 1 := by
  have hb := isP_pos hp
  obtain ⟨q, hq, rfl⟩ := isP_nat hp
  have h0 : 0 ≤ n % (q : Int) := Int.emod_nonneg n (by omega)
  have h1 : n % (q : Int) < (q : Int) := Int.emod_lt_of_pos n (by omega)
  obtain ⟨r, hr⟩ : ∃ r : Nat, n % (q : Int) = (r : Int) := ⟨(n % (q : Int)).toNat, by omega⟩
  obtain ⟨j, hj, e⟩ := inv_nat q hq r (by omega) (by omega)
  refine ⟨j, by omega, ?_⟩
  have e1 : n * (1 + (j : Int)) % (q : Int) = n % (q : Int) * (1 + (j : Int)) % (q : Int) := by
    rw [Int.mul_emod, Int.mul_emod (n % (q : Int)) (1 + (j : Int)), Int.emod_emod]
  have e2 : ((r * (1 + j) % q : Nat) : Int) = (1 : Nat) := congrArg _ e
  rw [e1, hr]
  simpa using e2
open Classical in
/-- the inverse, where there is one -/
noncomputable def invF (p n : Int) : Int := if h : ∃ i, 1 ≤ i ∧ i < p ∧ n * i % p = 1 then h.choose else 0
theorem inv_uniq {p n i j : Int} (hi : 1 ≤ i ∧ i < p ∧ n * i % p = 1) (hj : 1 ≤ j ∧ j < p ∧ n * j % p = 1) : i = j := by
  have e : i % p = j % p := by
    have e1 : i * (n * j) % p = i % p := by rw [Int.mul_emod, hj.2.2, Int.mul_one, Int.emod_emod_of_dvd _ (Int.dvd_refl p)]
    have e2 : j * (n * i) % p = j % p := by rw [Int.mul_emod, hi.2.2, Int.mul_one, Int.emod_emod_of_dvd _ (Int.dvd_refl p)]
    rw [← e1, ← e2, Int.mul_left_comm i n j, Int.mul_left_comm j n i, Int.mul_comm i j]
  rwa [Int.emod_eq_of_lt (by omega) hi.2.1, Int.emod_eq_of_lt (by omega) hj.2.1] at e
theorem invF_eq {p n i : Int} (h : 1 ≤ i ∧ i < p ∧ n * i % p = 1) : invF p n = i := by
  have hx : ∃ i, 1 ≤ i ∧ i < p ∧ n * i % p = 1 := ⟨i, h⟩
  unfold invF
  rw [dif_pos hx]
  exact inv_uniq hx.choose_spec h
theorem invF_ok {p : Int} (h : isP p = true) : RX.Inv p (invF p) := by
  have b := isP_pos h
  refine ⟨b.1, fun x x0 x1 => ?_⟩
  obtain ⟨j, hj, e⟩ := inv_ex h (n := x) (by rw [Int.emod_eq_of_lt (by omega) x1]; omega)
  rw [invF_eq (p := p) (n := x) (i := 1 + (j : Int)) ⟨by omega, by omega, e⟩, Int.mul_comm]
  exact e
theorem invF_small {p : Int} (h : isP p = true) (n : Int) : 0 ≤ invF p n ∧ invF p n < p := by
  have b := isP_pos h
  by_cases hx : ∃ i, 1 ≤ i ∧ i < p ∧ n * i % p = 1
  · obtain ⟨i, hi⟩ := hx
    rw [invF_eq hi]
    omega
  · unfold invF
    rw [dif_neg hx]
    omega
def spInv : Sp := fun vs H Q _ => ∃ (n p : Int), vs = [.int n, .int p] ∧ isP p = true ∧ n % p ≠ 0 ∧ (-(2 ^ 64) < n ∧ n < 2 ^ 64) ∧ Q (.int (invF p n)) H
theorem sc_inv : FnScope ["number", "prime", "factor"] ["number", "prime"] (defScope (top iInv)) := ⟨rfl, rfl, rfl, by decide +kernel, rfl, by decide +kernel, by decide +kernel⟩
theorem int_ty (K : PySem.W.Frag) : PySem.W.kitOne K (.type "int") (.type "int") = some true := kit_ty (by decide +kernel)
theorem int_nb (K : PySem.W.Frag) : PySem.W.kitOne K (.type "int") (.type "bool") = some false := kit_ty (by decide +kernel)
def spChkP : Sp := fun vs H Q _ => ∃ (p : Int), vs = [.int p] ∧ isP p = true ∧ Q .non H
theorem sc_chkp : FnScope ["prime"] ["prime"] (defScope (top iChkP)) := ⟨rfl, rfl, rfl, by decide +kernel, rfl, by decide +kernel, by decide +kernel⟩
theorem ok_chkp {fd1 fd2 : FuncData} (F : FnP K "check_prime" iChkP f fd) (T : Txt K mg) (F1 : FnP K "is_integer" iInt (He.ga K "is_integer") fd1) (F2 : FnP K "is_prime" iPrime (He.ga K "is_prime") fd2) : FnOk P w K mg base CX0 3 f fd ["prime"] spChkP := by
  have G2 : FnOk P w K mg base CX0 2 _ fd2 ["value"] (spPrime K) := ok_prime F2 T F1
  have B2 : Binds K fd2 ["value"] [] := F2.bindsN fun _ _ _ _ _ _ us hl => match us, hl with | [_], _ => rfl
  refine F.ok sc_chkp (fun vs H Q E h => ?_) (fun cdv A outer s H vs Q E hr h => ?_)
  · obtain ⟨p, rfl, _⟩ := h
    rfl
  · obtain ⟨p, rfl, hp, k⟩ := h
    refine ⟨_, PSs.nox (pss_one (ps_if (pt_not (pt_val (pe_call G2 hr (by rfl) (T.df "is_prime" iPrime) F2.kp B2 .nil pass0 (pa_cons (pv 0) pa_nil)))) (pss_one ps_never) pss_nil)), ?_⟩
    refine ⟨_, rfl, _, _, true, false, rfl, .base (.int _), int_ty K, int_nb K, fun _ => ⟨p, rfl, ?_⟩, fun e => nomatch e⟩
    rw [hp]
    exact ⟨_, rfl, iteF k⟩
theorem ok_inv {fd1 fd2 : FuncData} (F : FnP K "inverse" iInv f fd) (T : Txt K mg) (F1 : FnP K "is_integer" iInt (He.ga K "is_integer") fd1) (F2 : FnP K "is_prime" iPrime (He.ga K "is_prime") fd2) : FnOk P w K mg base CX0 4 f fd ["number", "prime"] spInv := by
  obtain ⟨fdC, FC⟩ := T.chk
  have GC : FnOk P w K mg base CX0 3 _ fdC ["prime"] spChkP := ok_chkp FC T F1 F2
  have BC : Binds K fdC ["prime"] [] := FC.bindsN fun _ _ _ _ _ _ us hl => match us, hl with | [_], _ => rfl
  have rg := T.fr "range"
  refine F.ok sc_inv (fun vs H Q E h => ?_) (fun cdv A outer s H vs Q E hr h => ?_)
  · obtain ⟨n, p, rfl, _⟩ := h
    rfl
  · obtain ⟨n, p, rfl, hp, hn, hb, k⟩ := h
    refine ⟨_, PSs.nox (pss_cons (ps_expr (pe_call GC hr (by rfl) (T.df "check_prime" iChkP) FC.kp BC .nil pass0 (pa_cons (pv 1) pa_nil)))
      (pss_cons (ps_for PassesOwn.never rfl (pi_range2 (by rfl) rg (pa_cons pe_int (pa_cons (pv 1) pa_nil))) (pg_name (i := 2) sc_inv.nd rfl (.inl rfl))
          (pss_one (ps_if (pt_cmpR op_eq (pe_op op_modN (pe_op op_mul (pv 0) (pv 2)) (pv 1)) pe_int (nomark _)) (pss_one (ps_ret (pv 2))) pss_nil)))
      (pss_one ps_never))), ?_⟩
    have hq := isP_pos hp
    refine ⟨_, rfl, p, rfl, hp, ?_⟩
    refine ⟨_, rfl, 1, p, rfl, ⟨by omega, by omega, by omega, by omega⟩, for_range (lo := 1) (n := (p - 1).toNat) (fun i σ H' => ∃ z, σ = [some (.int n), some (.int p), z] ∧ H' = H ∧ ∀ j : Nat, j < i → n * (1 + (j : Int)) % p ≠ 1) ⟨none, rfl, rfl, fun j hj => absurd hj (Nat.not_lt_zero j)⟩ ?_ ?_⟩
    · rintro i σ H' hi ⟨z, rfl, rfl, hz⟩
      refine ⟨_, rfl, _, rfl, _, _, rfl, rfl, .inl hb, _, rfl, _, _, rfl, rfl, (by omega), rfl, _, rfl, ?_⟩
      have ef : (n * (1 + (i : Int))).fmod p = n * (1 + (i : Int)) % p := fmod_pos (by omega)
      refine ite2 (fun c => ?_) (fun c => ?_)
      · have c' : n * (1 + (i : Int)) % p = 1 := by rw [← ef]; simpa using c
        refine ⟨_, rfl, ?_⟩
        rw [invF_eq (i := 1 + (i : Int)) ⟨by omega, by omega, c'⟩] at k
        exact k
      · have c' : n * (1 + (i : Int)) % p ≠ 1 := by rw [← ef]; simpa using c
        refine ⟨_, rfl, rfl, fun j hj => ?_⟩
        by_cases e : j = i
        · rw [e]; exact c'
        · exact hz j (by omega)
    · rintro σ H' ⟨z, rfl, rfl, hz⟩
      obtain ⟨j, hj, e⟩ := inv_ex hp hn
      exact (hz j (by omega) e).elim
end
end K7

set_option Elab.async false
set_option linter.all false
set_option maxRecDepth 100000
set_option maxHeartbeats 4000000
/-! # rows.py: joined -/
namespace K7
open PySem PySem.Spec PyProof.Rows L2 VX RX
section
variable {P : Program} {w : World} {K : PySem.W.Frag} {mg : Str → Option Value} {base : Heap} {f : Addr} {fd : FuncData}
theorem _root_.RX.Rref.card {p : Int} {n : Nat} {b : List (List Int)} (h : Rref p n b) : b.length ≤ n := by
  have h1 : (b.map lead).Nodup := List.pairwise_map.mpr (h.inc.imp fun h => Nat.ne_of_lt h)
  have := nodup_le (b.map lead) (List.range n) h1 fun x hx => by
    obtain ⟨r, hr, rfl⟩ := List.mem_map.mp hx
    exact List.mem_range.mpr (h.lt r hr)
  simpa using this
abbrev nJ : List Str := ["basis", "row", "prime", "left", "at", "new", "before", "other", "after"]
def spJoined : Sp := fun vs H Q _ => ∃ (l : Addr) (as : List Addr) (b : List (List Int)) (a : Addr) (r : List Int) (p : Int) (n : Nat), vs = [.ref l, .ref a, .int p] ∧ H l = some (.lst (as.map V.ref)) ∧ AreRows H as b ∧ IsRow H a r ∧ Ok p n r ∧ isP p = true ∧ Rref p n b ∧
  ∀ H' l' as', Same H H' → H' l' = some (.lst (as'.map V.ref)) → AreRows H' as' (joined (invF p) p b r) → Q (.ref l') H'
theorem AreRows.upd {H : Hp} {D : Addr} {xs : List V} {o : HO} (hD : H D = some (.lst xs)) : ∀ {as : List Addr} {rs : List (List Int)}, AreRows H as rs → AreRows (L2.upd H D o) as rs
  | _, _, .nil => .nil
  | _, _, .cons h t => .cons (by
      have ne := ne_of h hD (by intro z; cases z)
      show L2.upd H D o _ = _
      rw [upd_ne ne]
      exact h) (t.upd hD)
theorem filter_more {α : Type} {q : α → Bool} {b : List α} {i : Nat} {o : α} (h : b[i]? = some o) : (b.take (i + 1)).filter q = (b.take i).filter q ++ if q o = true then [o] else [] := by
  rw [List.take_succ, h, Option.toList_some, List.filter_append]
  by_cases e : q o = true
  · rw [if_pos e, List.filter_cons_of_pos e, List.filter_nil]
  · rw [if_neg e, List.filter_cons_of_neg e, List.filter_nil]
theorem sc_joined : FnScope nJ ["basis", "row", "prime"] (defScope (top iJoined)) := ⟨rfl, rfl, rfl, by decide +kernel, rfl, by decide +kernel, by decide +kernel⟩
theorem ok_joined {fdL fdA fdR fdT fdI fd1 fd2 : FuncData} (F : FnP K "joined" iJoined f fd) (T : Txt K mg) (FL : FnP K "lead" iLead (He.ga K "lead") fdL) (FA : FnP K "added" iAdded (He.ga K "added") fdA) (FR : FnP K "rest_of" iRest (He.ga K "rest_of") fdR) (FT : FnP K "times" iTimes (He.ga K "times") fdT)
    (FI : FnP K "inverse" iInv (He.ga K "inverse") fdI) (F1 : FnP K "is_integer" iInt (He.ga K "is_integer") fd1) (F2 : FnP K "is_prime" iPrime (He.ga K "is_prime") fd2) : FnOk P w K mg base CX0 5 f fd ["basis", "row", "prime"] spJoined := by
  have GL : FnOk P w K mg base CX0 1 _ fdL ["row"] spLead := ok_lead FL T
  have GA : FnOk P w K mg base CX0 1 _ fdA ["row", "factor", "other", "prime"] spAdded := ok_added FA T
  have GR : FnOk P w K mg base CX0 2 _ fdR ["row", "basis", "prime"] spRest := ok_rest FR T FL FA
  have GT : FnOk P w K mg base CX0 1 _ fdT ["factor", "row", "prime"] spTimes := ok_times FT T
  have GI : FnOk P w K mg base CX0 4 _ fdI ["number", "prime"] spInv := ok_inv FI T F1 F2
  have BL : Binds K fdL ["row"] [] := FL.bindsN fun _ _ _ _ _ _ us hl => match us, hl with | [_], _ => rfl
  have BA : Binds K fdA ["row", "factor", "other", "prime"] [] := FA.bindsN fun _ _ _ _ _ _ us hl => match us, hl with | [_, _, _, _], _ => rfl
  have BR : Binds K fdR ["row", "basis", "prime"] [] := FR.bindsN fun _ _ _ _ _ _ us hl => match us, hl with | [_, _, _], _ => rfl
  have BT : Binds K fdT ["factor", "row", "prime"] [] := FT.bindsN fun _ _ _ _ _ _ us hl => match us, hl with | [_, _, _], _ => rfl
  have BI : Binds K fdI ["number", "prime"] [] := FI.bindsN fun _ _ _ _ _ _ us hl => match us, hl with | [_, _], _ => rfl
  refine F.ok sc_joined (fun vs H Q E h => ?_) (fun cdv A outer s H vs Q E hr h => ?_)
  · obtain ⟨l, as, b, a, r, p, n, rfl, _⟩ := h
    rfl
  · obtain ⟨l, as, b, a, r, p, n, rfl, hl, hb, ha, ho, hp, hR, k⟩ := h
    have hr1 : Room 1 _ := hr.mono (by decide)
    have hr2 : Room 2 _ := hr.mono (by decide)
    have il := T.fr "len"
    have nd := sc_joined.nd
    refine ⟨_, PSs.nox (pss_cons (ps_set (i := 3) nd rfl (.inl rfl) (pe_call GR hr2 (by rfl) (T.df "rest_of" iRest) FR.kp BR .nil pass0 (pa_cons (pv 1) (pa_cons (pv 0) (pa_cons (pv 2) pa_nil)))))
      (pss_cons (ps_set (i := 4) nd rfl (.inr rfl) (pe_call GL hr1 (by rfl) (T.df "lead" iLead) FL.kp BL .nil pass0 (pa_cons (pv 3) pa_nil)))
      (pss_cons (ps_if (pt_cmpR op_eq (pv 4) (pe_callB call_len_seq (by rfl) il boot_len (pa_cons (pv 3) pa_nil)) (nomark _)) (pss_one (ps_ret (pv 0))) pss_nil)
      (pss_cons (ps_set (i := 5) nd rfl (.inr rfl) (pe_call GT hr1 (by rfl) (T.df "times" iTimes) FT.kp BT .nil pass0 (pa_cons (pe_call GI hr (by rfl) (T.df "inverse" iInv) FI.kp BI .nil pass0 (pa_cons (pe_ix ix_tup (pv 3) (pv 4) (fun _ _ => rfl)) (pa_cons (pv 2) pa_nil))) (pa_cons (pv 3) (pa_cons (pv 2) pa_nil)))))
      (pss_cons (ps_setLc (i := 6) (own := [("other", 7)]) (g := gName 7) (by rfl) nd rfl rfl (sw_true rfl rfl rfl (by decide +kernel)) (pi_list (pv 0)) (blkOk_by (own := [("other", 7)]) (N := nJ) (sc := defScope (top iJoined)) (by decide +kernel)) (fun _ _ _ _ _ => pg_name (i := 7) nd rfl (Or.inl rfl))
          (fun _ _ _ _ _ => pts_one (pt_cmpR op_lt (pe_call GL hr1 (by rfl) (T.df "lead" iLead) FL.kp BL .nil pass0 (pa_cons (pv 7) pa_nil)) (pv 4) (nomark _)))
          (fun _ _ _ _ _ => pe_call GA hr1 (by rfl) (T.df "added" iAdded) FA.kp BA .nil pass0 (pa_cons (pv 7) (pa_cons (pe_un un_neg (pe_ix (r := rIxT K) ix_tup (pv 7) (pv 4) (fun _ _ => rfl))) (pa_cons (pv 5) (pa_cons (pv 2) pa_nil))))))
      (pss_cons (ps_setLc (i := 8) (own := [("other", 7)]) (g := gName 7) (by rfl) nd rfl rfl (sw_true rfl rfl rfl (by decide +kernel)) (pi_list (pv 0)) (blkOk_by (own := [("other", 7)]) (N := nJ) (sc := defScope (top iJoined)) (by decide +kernel)) (fun _ _ _ _ _ => pg_name (i := 7) nd rfl (Or.inl rfl))
          (fun _ _ _ _ _ => pts_one (pt_cmpR op_gt (pe_call GL hr1 (by rfl) (T.df "lead" iLead) FL.kp BL .nil pass0 (pa_cons (pv 7) pa_nil)) (pv 4) (nomark _)))
          (fun _ _ _ _ _ => pv 7))
      (pss_one (ps_ret (pe_lst (StX.pa_star (pv 6) (pa_cons (pv 5) (StX.pa_star (pv 8) pa_nil)))))))))))), ?_⟩
    have h2 := ho.two
    have h0 : 0 < p := by omega
    have hq := isP_pos hp
    have hcard := hR.card
    have hlen := hb.length
    obtain ⟨hrow, hz⟩ := hR.rest h0 ho.row
    refine ⟨_, rfl, _, rfl, _, rfl, a, r, l, as, b, p, n, rfl, ha, hl, hb, ho, hR, fun H1 c s1 c1 => ?_⟩
    refine ⟨_, rfl, c, _, rfl, c1, fun H2 s2 => ?_⟩
    have c2 : IsRow H2 c (restOf p b r) := s2 _ _ c1
    have s02 : Same H H2 := fun u v q => s2 _ _ (s1 _ _ q)
    refine ⟨_, rfl, _, rfl, c, _, rfl, .inr (SqT.of c2), rfl, _, rfl, ?_⟩
    refine ite2 (fun e => ?_) (fun e => ?_)
    · have e' : lead (restOf p b r) = (restOf p b r).length := by
        have e := of_decide_eq_true e
        injection e with e
        rw [List.length_map] at e
        omega
      refine ⟨_, rfl, k H2 l as s02 (s02 _ _ hl) ?_⟩
      unfold joined
      rw [if_pos e']
      exact hb.same s02
    · have e' : lead (restOf p b r) ≠ (restOf p b r).length := fun z => e (decide_eq_true (by rw [List.length_map, z]))
      have lt : lead (restOf p b r) < (restOf p b r).length := Nat.lt_of_le_of_ne lead_le e'
      have ej : joined (invF p) p b r = joinL p b (lead (restOf p b r)) (scale p (invF p (at0 (restOf p b r) (lead (restOf p b r)))) (restOf p b r)) := by unfold joined; rw [if_neg e']
      rw [ej] at k
      have bd := hrow.bound h0 (lead (restOf p b r))
      have nz := lead_ne lt
      have is := invF_small hp (at0 (restOf p b r) (lead (restOf p b r)))
      refine ⟨_, rfl, _, rfl, c, _, _, _, rfl, rfl, SqT.of c2, atI_row lt, _, rfl, _, p, rfl, hp, (by rw [Int.emod_eq_of_lt bd.1 bd.2]; exact nz), (by omega), _, rfl, _, rfl, _, c, _, p, rfl, c2, h0, (by omega), (by have := ho.len; have := hrow.1; omega), fun H3 d s3 _ c3 => ?_⟩
      obtain ⟨hnr, hnl, hn1⟩ := new_ok (invF_ok hp) hrow lt
      generalize hat : lead (restOf p b r) = m at *
      generalize hnew : scale p (invF p (at0 (restOf p b r) m)) (restOf p b r) = new at *
      have s03 : Same H H3 := fun u v q => s3 _ _ (s02 _ _ q)
      have hmn : m < n := by rw [← hrow.1]; exact lt
      refine ⟨_, rfl, l, rfl, ⟨_, SqL.of (s03 _ _ hl)⟩, fun D hD => lc_it (walk_list (K := K) (a := l) (xs := as.map V.ref)) (fun i H' => Same H3 H' ∧ ∃ bs, H' D = some (.lst (bs.map V.ref)) ∧ bs.length ≤ i ∧ AreRows H' bs (((b.take i).filter fun o => decide (lead o < m)).map fun o => addR p o (-at0 o m) new)) ⟨same_new hD, [], upd_same, Nat.le_refl _, .nil⟩ (fun i H' _ z => SqL.of (z.1 _ _ (s03 _ _ hl))) ?_ ?_⟩
      · rintro i x H4 H5 hi ⟨s4, bs, hbs, hbl, har⟩ ⟨rfl, hx⟩
        obtain ⟨ao, hao, rfl⟩ := refs_at hx
        obtain ⟨o, hob, hor⟩ := hb.get hao
        have hmem : o ∈ b := List.mem_of_getElem? hob
        have hro := hR.rows o hmem
        have hok : Ok p n o := ⟨hro, ho.two, ho.small, ho.len⟩
        have o5 : IsRow H5 ao o := s4 _ _ (s03 _ _ hor)
        refine ⟨rfl, _, rfl, ao, o, rfl, o5, fun H6 s6 => ⟨_, rfl, _, _, rfl, rfl, _, rfl, ?_⟩⟩
        refine ite2 (fun e => ?_) (fun e => ?_)
        · have e1 : lead o < m := by simpa using e
          have o6 := s6 _ _ o5
          have d6 : IsRow H6 d new := s6 _ _ (s4 _ _ c3)
          refine ⟨_, rfl, _, rfl, _, rfl, ao, _, _, _, rfl, rfl, SqT.of o6, atI_row (by rw [hro.1]; exact hmn), _, rfl, _, rfl, _, rfl, ao, o, _, d, new, p, rfl, o6, d6, (by rw [hro.1, hnr.1]), h0, small_item hok m, (by have := ho.len; have := hro.1; omega), fun H7 g s7 _ g7 => ?_⟩
          have hbs7 : H7 D = some (.lst (bs.map V.ref)) := s7 _ _ (s6 _ _ hbs)
          have har7 := (har.same s6).same s7
          refine ⟨bs.map V.ref, hbs7, lt_line (by rw [List.length_map]; have := ho.len; have := List.length_map (as := as) V.ref; omega), fun u v q => ?_, bs ++ [g], ?_, by rw [List.length_append, List.length_singleton]; omega, ?_⟩
          · rw [upd_ne (ne_of_none q hD)]
            exact s7 _ _ (s6 _ _ (s4 _ _ q))
          · rw [upd_same, List.map_append]; rfl
          · rw [filter_more hob, if_pos (decide_eq_true e1), List.map_append]
            exact (har7.append (.cons g7 .nil)).upd hbs7
        · have e1 : ¬lead o < m := by simpa using e
          refine ⟨fun u v q => s6 _ _ (s4 _ _ q), bs, s6 _ _ hbs, by omega, ?_⟩
          rw [filter_more hob, if_neg (by simpa using e1), List.append_nil]
          exact har.same s6
      · rintro H4 ⟨s4, bs, hbs, hbl, har⟩
        rw [List.length_map, hlen, List.take_length] at har
        rw [List.length_map] at hbl
        have s04 : Same H H4 := fun u v q => s4 _ _ (s03 _ _ q)
        have d4 : IsRow H4 d new := s4 _ _ c3
        refine ⟨_, rfl, l, rfl, ⟨_, SqL.of (s04 _ _ hl)⟩, fun D2 hD2 => lc_it (walk_list (K := K) (a := l) (xs := as.map V.ref)) (fun i H' => Same H4 H' ∧ ∃ cs, H' D2 = some (.lst (cs.map V.ref)) ∧ cs.length ≤ i ∧ AreRows H' cs ((b.take i).filter fun o => decide (m < lead o))) ⟨same_new hD2, [], upd_same, Nat.le_refl _, .nil⟩ (fun i H' _ z => SqL.of (z.1 _ _ (s04 _ _ hl))) ?_ ?_⟩
        · rintro i x H4b H5 hi ⟨s5, cs, hcs, hcl, hac⟩ ⟨rfl, hx⟩
          obtain ⟨ao, hao, rfl⟩ := refs_at hx
          obtain ⟨o, hob, hor⟩ := hb.get hao
          have o5 : IsRow H5 ao o := s5 _ _ (s04 _ _ hor)
          refine ⟨rfl, _, rfl, ao, o, rfl, o5, fun H6 s6 => ⟨_, rfl, _, _, rfl, rfl, _, rfl, ?_⟩⟩
          have cs6 := s6 _ _ hcs
          refine ite2 (fun e => ?_) (fun e => ?_)
          · have e1 : m < lead o := by simpa using e
            refine ⟨_, rfl, cs.map V.ref, cs6, lt_line (by rw [List.length_map]; have := ho.len; have := List.length_map (as := as) V.ref; omega), fun u v q => ?_, cs ++ [ao], ?_, by rw [List.length_append, List.length_singleton]; omega, ?_⟩
            · rw [upd_ne (ne_of_none q hD2)]
              exact s6 _ _ (s5 _ _ q)
            · rw [upd_same, List.map_append]; rfl
            · rw [filter_more hob, if_pos (decide_eq_true e1)]
              exact ((hac.same s6).append (.cons (s6 _ _ o5) .nil)).upd cs6
          · have e1 : ¬m < lead o := by simpa using e
            refine ⟨fun u v q => s6 _ _ (s5 _ _ q), cs, cs6, by omega, ?_⟩
            rw [filter_more hob, if_neg (by simpa using e1), List.append_nil]
            exact hac.same s6
        · rintro H5 ⟨s5, cs, hcs, hcl, hac⟩
          rw [List.length_map, hlen, List.take_length] at hac
          rw [List.length_map] at hcl
          refine ⟨_, rfl, D, _, rfl, .inr (SqL.of (s5 _ _ hbs)), _, rfl, _, rfl, D2, _, rfl, .inr (SqL.of hcs), ?_, fun q hq => k _ q (bs ++ d :: cs) (fun u v z => ?_) ?_ ?_⟩
          · have h9 := ho.len
            refine Nat.le_of_lt (lt_line ?_)
            simp only [List.length_append, List.length_cons, List.length_map, List.length_nil]
            omega
          · rw [upd_ne (ne_of_none (s5 _ _ (s04 _ _ z)) hq)]
            exact s5 _ _ (s04 _ _ z)
          · rw [upd_same]
            simp [List.map_append]
          · exact AreRows.same (same_new hq) ((har.same s5).append (.cons (s5 _ _ d4) hac))
end
end K7

set_option Elab.async false
set_option linter.all false
set_option maxRecDepth 100000
set_option maxHeartbeats 4000000
/-! # rows.py: reduced -/
namespace K7
open PySem PySem.Spec PyProof.Rows L2 VX RX
section
variable {P : Program} {w : World} {K : PySem.W.Frag} {mg : Str → Option Value} {base : Heap} {f : Addr} {fd : FuncData}
def spReduced : Sp := fun vs H Q _ => ∃ (l : Addr) (as : List Addr) (rs : List (List Int)) (p : Int) (n : Nat), vs = [.ref l, .int p] ∧ H l = some (.lst (as.map V.ref)) ∧ AreRows H as rs ∧ (∀ r ∈ rs, Row p n r) ∧ n ≤ 100 ∧ isP p = true ∧
  ∀ H' l' as', Same H H' → H' l' = some (.lst (as'.map V.ref)) → AreRows H' as' (reduced (invF p) p rs) → Q (.ref l') H'
theorem sc_reduced : FnScope ["rows", "prime", "basis", "row"] ["rows", "prime"] (defScope (top iReduced)) := ⟨rfl, rfl, rfl, by decide +kernel, rfl, by decide +kernel, by decide +kernel⟩
theorem red_step {inv : Int → Int} {p : Int} {rs : List (List Int)} {i : Nat} {r : List Int} (h : rs[i]? = some r) : reduced inv p (rs.take (i + 1)) = joined inv p (reduced inv p (rs.take i)) r := by
  rw [List.take_succ, h, Option.toList_some]
  unfold reduced
  rw [List.foldl_append]
  rfl
theorem ok_reduced {fdJ fdL fdA fdR fdT fdI fd1 fd2 : FuncData} (F : FnP K "reduced" iReduced f fd) (T : Txt K mg) (FJ : FnP K "joined" iJoined (He.ga K "joined") fdJ) (FL : FnP K "lead" iLead (He.ga K "lead") fdL) (FA : FnP K "added" iAdded (He.ga K "added") fdA) (FR : FnP K "rest_of" iRest (He.ga K "rest_of") fdR)
    (FT : FnP K "times" iTimes (He.ga K "times") fdT) (FI : FnP K "inverse" iInv (He.ga K "inverse") fdI) (F1 : FnP K "is_integer" iInt (He.ga K "is_integer") fd1) (F2 : FnP K "is_prime" iPrime (He.ga K "is_prime") fd2) : FnOk P w K mg base CX0 6 f fd ["rows", "prime"] spReduced := by
  have GJ : FnOk P w K mg base CX0 5 _ fdJ ["basis", "row", "prime"] spJoined := ok_joined FJ T FL FA FR FT FI F1 F2
  have BJ : Binds K fdJ ["basis", "row", "prime"] [] := FJ.bindsN fun _ _ _ _ _ _ us hl => match us, hl with | [_, _, _], _ => rfl
  refine F.ok sc_reduced (fun vs H Q E h => ?_) (fun cdv A outer s H vs Q E hr h => ?_)
  · obtain ⟨l, as, rs, p, n, rfl, _⟩ := h
    rfl
  · obtain ⟨l, as, rs, p, n, rfl, hl, ha, hrs, hn, hp, k⟩ := h
    have nd := sc_reduced.nd
    refine ⟨_, PSs.nox (pss_cons (ps_set (i := 2) nd rfl (.inl rfl) (pe_lst pa_nil))
      (pss_cons (ps_for PassesOwn.never rfl (pi_list (pv 0)) (pg_name (i := 3) nd rfl (.inl rfl))
          (pss_one (ps_set (i := 2) nd rfl (.inl rfl) (pe_call GJ hr (by rfl) (T.df "joined" iJoined) FJ.kp BJ .nil pass0 (pa_cons (pv 2) (pa_cons (pv 3) (pa_cons (pv 1) pa_nil)))))))
      (pss_one (ps_ret (pv 2))))), ?_⟩
    have hq := isP_pos hp
    refine ⟨by show 0 ≤ sizeLine; decide, fun e he => ?_⟩
    have s1 : Same H (upd H e (.lst [])) := same_new he
    refine ⟨_, rfl, l, rfl, ⟨_, SqL.of (s1 _ _ hl)⟩, for_list (xs := as.map V.ref) (fun i σ H' => ∃ l' z as', σ = [some (.ref l), some (.int p), some (.ref l'), z] ∧ Same H H' ∧ H' l' = some (.lst (as'.map V.ref)) ∧ AreRows H' as' (reduced (invF p) p (rs.take i))) ⟨e, none, [], rfl, s1, upd_same, .nil⟩ (fun i σ H' _ q => ?_) ?_ ?_⟩
    · obtain ⟨_, _, _, _, sm, _⟩ := q
      exact SqL.of (sm _ _ hl)
    · rintro i x σ H1 hx ⟨l', z, as', rfl, sm, hl', har⟩
      obtain ⟨a, haa, rfl⟩ := refs_at hx
      obtain ⟨r, hrr, hra⟩ := ha.get haa
      have hmem : r ∈ rs := List.mem_of_getElem? hrr
      have hR : Rref p n (reduced (invF p) p (rs.take i)) := reduced_ok (invF_ok hp) fun r hr => hrs r (List.mem_of_mem_take hr)
      refine ⟨_, rfl, _, rfl, _, rfl, l', as', _, a, r, p, n, rfl, hl', har, sm _ _ hra, ⟨hrs r hmem, hq.1, by omega, hn⟩, hp, hR, fun H2 m bs s2 hm hbs => ?_⟩
      refine ⟨m, _, bs, rfl, fun u v q => s2 _ _ (sm _ _ q), hm, ?_⟩
      rw [red_step hrr]
      exact hbs
    · rintro σ H1 ⟨l', z, as', rfl, sm, hl', har⟩
      refine ⟨_, rfl, k _ _ as' sm hl' ?_⟩
      rwa [List.length_map, ha.length, List.take_length] at har
end
end K7

set_option Elab.async false
set_option linter.all false
set_option maxRecDepth 100000
set_option maxHeartbeats 4000000
/-! # rows.py: sent -/
namespace K7
open PySem PySem.Spec PyProof.Rows L2 VX RX
section
variable {P : Program} {w : World} {K : PySem.W.Frag} {mg : Str → Option Value} {base : Heap} {f : Addr} {fd : FuncData}
/-- the scope of sent's outer comprehension -/
abbrev scS : Scope := { kind := .function, names := [(".0", .local), ("at", .cell), ("sum", .globalImplicit), ("zip", .globalImplicit), ("matrix", .cell), ("prime", .cell), ("row", .cell)], isGenerator := false, isCoroutine := false }
/-- ints in a list or a tuple -/
def IsInts (H : Hp) (a : Addr) (xs : List Int) : Prop := H a = some (.lst (xs.map V.int)) ∨ H a = some (.tup (xs.map V.int))
inductive AreInts (H : Hp) : List Addr → List (List Int) → Prop
  | nil : AreInts H [] []
  | cons {a : Addr} {r : List Int} {as : List Addr} {rs : List (List Int)} : IsInts H a r → AreInts H as rs → AreInts H (a :: as) (r :: rs)
theorem IsInts.same {H H' : Hp} (s : Same H H') {a : Addr} {r : List Int} (h : IsInts H a r) : IsInts H' a r := h.elim (fun h => .inl (s _ _ h)) fun h => .inr (s _ _ h)
theorem AreInts.length {H : Hp} : ∀ {as : List Addr} {rs : List (List Int)}, AreInts H as rs → as.length = rs.length
  | _, _, .nil => rfl
  | _, _, .cons _ t => congrArg (· + 1) t.length
theorem AreInts.get {H : Hp} : ∀ {as : List Addr} {rs : List (List Int)} {i : Nat} {a : Addr}, AreInts H as rs → as[i]? = some a → ∃ r, rs[i]? = some r ∧ IsInts H a r
  | _, _, 0, _, .cons h _, e => ⟨_, rfl, Option.some.inj e ▸ h⟩
  | _, _, i + 1, _, .cons _ t, e => t.get (i := i) e
theorem ix_ints {H : Hp} {l : Addr} {xs : List Int} {i : Nat} {z : Int} {Q : VK} (h : IsInts H l xs) (hz : z = (i : Nat)) (hi : i < xs.length) (k : Q (.int (at0 xs i)) H) : rIx K (.ref l) (.int z) H Q := by
  subst hz
  rcases h with h | h
  · exact .inl ⟨l, _, _, _, rfl, rfl, SqL.of h, atI_row hi, k⟩
  · exact .inr (.inl ⟨l, _, _, _, rfl, rfl, SqT.of h, atI_row hi, k⟩)
/-- what is summed up -/
def terms : List Int → List (List Int) → Nat → List Int
  | x :: v, l :: M, i => x * at0 l i :: terms v M i
  | _, _, _ => []
theorem terms_sum : ∀ (v : List Int) (M : List (List Int)) (i : Nat), (terms v M i).sum = dotc v M i
  | x :: v, l :: M, i => by
    show (x * at0 l i :: terms v M i).sum = x * at0 l i + dotc v M i
    rw [List.sum_cons, terms_sum v M i]
  | [], M, i => by simp [terms, dotc]
  | x :: v, [], i => by simp [terms, dotc]
theorem terms_get : ∀ (v : List Int) (M : List (List Int)) (i j : Nat) {x : Int} {l : List Int}, v[j]? = some x → M[j]? = some l → (terms v M i)[j]? = some (x * at0 l i)
  | x :: v, l :: M, i, 0, _, _, e1, e2 => by
    obtain rfl := Option.some.inj e1
    obtain rfl := Option.some.inj e2
    rfl
  | x :: v, l :: M, i, j + 1, _, _, e1, e2 => terms_get v M i j (by simpa using e1) (by simpa using e2)
  | [], M, i, j, _, _, e1, _ => by simp at e1
  | x :: v, [], i, j, _, _, _, e2 => by simp at e2
theorem terms_len : ∀ (v : List Int) (M : List (List Int)) (i : Nat), v.length = M.length → (terms v M i).length = v.length
  | x :: v, l :: M, i, h => by
    show (terms v M i).length + 1 = v.length + 1
    rw [terms_len v M i (by simpa using h)]
  | [], M, i, _ => by simp [terms]
  | x :: v, [], i, h => by simp at h
abbrev nS : List Str := ["row", "matrix", "prime", "places", "at", "item", "line"]
def spSent : Sp := fun vs H Q _ => ∃ (a : Addr) (v : List Int) (m : Addr) (ls : List Addr) (M : List (List Int)) (p : Int) (n : Nat), vs = [.ref a, .ref m, .int p] ∧ IsRow H a v ∧ (H m = some (.lst (ls.map V.ref)) ∨ H m = some (.tup (ls.map V.ref))) ∧ AreInts H ls M ∧ Ok p n v ∧ M.length = n ∧ (∀ l ∈ M, l.length = n) ∧
  ∀ H' c, Same H H' → H c = none → IsRow H' c (sentP p v M) → Q (.ref c) H'
theorem sc_sent : FnScope nS ["row", "matrix", "prime"] (defScope (top iSent)) := ⟨rfl, rfl, rfl, by decide +kernel, rfl, by decide +kernel, by decide +kernel⟩
theorem ok_sent (F : FnP K "sent" iSent f fd) (T : Txt K mg) : FnOk P w K mg base CX0 1 f fd ["row", "matrix", "prime"] spSent := by
  refine F.ok sc_sent (fun vs H Q E h => ?_) (fun cdv A outer s H vs Q E hr h => ?_)
  · obtain ⟨a, v, m, ls, M, p, n, rfl, _⟩ := h
    rfl
  · obtain ⟨a, v, m, ls, M, p, n, rfl, ha, hm, hls, ho, hM, hMl, k⟩ := h
    have it := T.fr "tuple"
    have il := T.fr "len"
    have ir := T.fr "range"
    have iz := T.fr "zip"
    have ism := T.fr "sum"
    have nd := sc_sent.nd
    rcases hm with hm | hm
    · refine ⟨_, PSs.nox (pss_cons (ps_set (i := 3) nd rfl (.inl rfl) (pe_callTy cr_range1 (by rfl) ir (by decide +kernel) (pa_cons (pe_callB call_len_seq (by rfl) il boot_len (pa_cons (pv 0) pa_nil)) pa_nil)))
        (pss_one (ps_ret (pe_callTy call_tuple_of (by rfl) it (by decide +kernel) (pa_cons (pe_lc (own := [("at", 4)]) (g := gName 4) (by rfl) nd (pi_rng (pv 3)) (blkOk_by (own := [("at", 4)]) (N := nS) (sc := defScope (top iSent)) (by decide +kernel)) (fun _ _ _ _ _ => pg_name (i := 4) nd rfl (Or.inr rfl)) (fun _ _ _ _ _ => pts_nil)
          (fun _ _ _ _ _ => pe_op op_modN (pe_callB (r := rSum K) (cr_sum rfl) (by rfl) ism (by decide +kernel) (pa_cons (pe_lc (own := [("item", 5), ("line", 6)]) (wi := iZipTL K (tCons (tVar 0) (tCons (tVar 1) tNil))) (g := gTup K 2 (gCons (gName 5) (gCons (gName 6) gNil))) (by rfl) nd (pi_zipTL (by rfl) iz (pa_cons (pv 0) (pa_cons (pv 1) pa_nil))) (blkOk_by (own := [("item", 5), ("line", 6)]) (N := nS) (sc := scS) (by decide +kernel))
            (fun _ _ _ _ _ => pg_tup rfl (pgs_cons (pg_name (i := 5) nd rfl (Or.inl rfl)) (pgs_cons (pg_name (i := 6) nd rfl (Or.inl rfl)) pgs_nil))) (fun _ _ _ _ _ => pts_nil)
            (fun _ _ _ _ _ => pe_op op_mul (pv 5) (pe_ix (r := rIx K) ix_seq (pv 6) (pv 4) (fun _ _ => rfl)))) pa_nil)) (pv 2))) pa_nil))))), ?_⟩
      have h0 : 0 < p := by have := ho.two; omega
      have hv := ho.row.1
      have hn := ho.len
      have hbd := ho.row.bound h0
      have hsm := ho.small
      refine ⟨_, rfl, a, _, rfl, .inr (SqT.of ha), _, rfl, fun e he => ?_⟩
      have s1 : Same H (upd H e (.rng 0 ((v.map V.int).length : Nat))) := same_new he
      have hnl : ((v.map V.int).length : Int) = (n : Int) := by rw [List.length_map, hv]
      refine ⟨_, rfl, e, 0, _, rfl, upd_same, (by omega), (by omega), (by omega), (by omega), fun D hD => lc_it walk_range (fun i H' => Same (upd H e (.rng 0 ((v.map V.int).length : Nat))) H' ∧ H' D = some (.lst (((sentP p v M).take i).map V.int))) ⟨same_new hD, upd_same⟩ (fun i H' _ z => trivial) ?_ ?_⟩
      · rintro i x Ha Hb hi ⟨sm, hd⟩ ⟨rfl, rfl⟩
        have hi : i < n := by omega
        refine ⟨rfl, yes_if ?_⟩
        have sH : Same H Hb := fun c u q => sm _ _ (s1 _ _ q)
        refine ⟨_, rfl, _, rfl, a, m, _, _, rfl, SqT.of (sH _ _ ha), SqL.of (sH _ _ hm), fun D2 hD2 => lc_it (walk_zipTL (K := K) (a := a) (b := m) (xs := v.map V.int) (ys := ls.map V.ref) (n := n) (by simp [hv]) (by simp [hls.length, hM]))
          (fun j H' => Same Hb H' ∧ H' D2 = some (.lst (((terms v M i).take j).map V.int))) ⟨same_new hD2, upd_same⟩ (fun j H' _ z => ⟨SqT.of (z.1 _ _ (sH _ _ ha)), SqL.of (z.1 _ _ (sH _ _ hm))⟩) ?_ ?_⟩
        · rintro j x Hc Hd hj ⟨s2, hd2⟩ ⟨T', x', y', rfl, hT, rfl, e1, e2⟩
          obtain ⟨u, hu, rfl⟩ := ints_at (xs := v) e1
          obtain ⟨lj, hlj, rfl⟩ := refs_at (as := ls) e2
          obtain ⟨o, hoM, hoi⟩ := hls.get hlj
          have hol := hMl o (List.mem_of_getElem? hoM)
          have s3 : Same H (upd Hc T' (.tup [.int u, .ref lj])) := fun c q r => by
            rw [upd_ne (ne_of_none (s2 _ _ (sH _ _ r)) hT)]
            exact s2 _ _ (sH _ _ r)
          have hub : 0 ≤ u ∧ u < p := ho.row.2 u (List.mem_of_getElem? hu)
          refine ⟨T', _, rfl, SqT.of upd_same, rfl, _, _, rfl, _, _, rfl, rfl, rfl, yes_if ?_⟩
          refine ⟨_, rfl, _, rfl, _, rfl, ?_⟩
          refine ix_ints (i := i) (hoi.same s3) (Int.zero_add _) (by omega) ?_
          refine ⟨_, _, rfl, rfl, .inl (by omega), ((terms v M i).take j).map V.int, ?_, lt_line (by rw [List.length_map]; have := List.length_take_le j (terms v M i); omega), ?_, ?_⟩
          · rw [upd_ne (ne_of_none hd2 hT)]
            exact hd2
          · intro c z q
            rw [upd_ne (ne_of_none q hD2), upd_ne (ne_of_none (s2 c z q) hT)]
            exact s2 c z q
          · rw [upd_same, take_more (terms_get v M i j hu hoM)]
        · rintro Hc ⟨s2, hd2⟩
          have tl : (terms v M i).length = n := by rw [terms_len v M i (by omega), hv]
          rw [← tl, List.take_length] at hd2
          refine ⟨D2, terms v M i, rfl, SqL.of hd2, _, rfl, _, _, rfl, rfl, (by omega), ((sentP p v M).take i).map V.int, s2 _ _ hd, lt_line (by rw [List.length_map]; have := List.length_take_le i (sentP p v M); omega), fun c z q => ?_, ?_⟩
          · rw [upd_ne (ne_of_none q hD)]
            exact s2 _ _ (sm _ _ q)
          · have es : (sentP p v M)[i]? = some (dotc v M i % p) := by
              simp [sentP, hv, hi]
            rw [upd_same, take_more es, terms_sum]
            show some (HO.lst (_ ++ [V.int ((dotc v M i).fmod p)])) = _
            rw [fmod_pos h0]
      · rintro Ha ⟨sm, hd⟩
        have sl : (sentP p v M).length = n := by rw [sentP_len, hv]
        have e2 : (((v.map V.int).length : Int) - 0).toNat = n := by omega
        rw [e2, ← sl, List.take_length] at hd
        refine ⟨D, _, rfl, .inl ⟨SqL.of hd, fun c hc => k _ c (fun d z q => ?_) (none_back s1 (none_back sm hc)) upd_same⟩⟩
        rw [upd_ne (ne_of_none (sm _ _ (s1 _ _ q)) hc)]
        exact sm _ _ (s1 _ _ q)
    · refine ⟨_, PSs.nox (pss_cons (ps_set (i := 3) nd rfl (.inl rfl) (pe_callTy cr_range1 (by rfl) ir (by decide +kernel) (pa_cons (pe_callB call_len_seq (by rfl) il boot_len (pa_cons (pv 0) pa_nil)) pa_nil)))
        (pss_one (ps_ret (pe_callTy call_tuple_of (by rfl) it (by decide +kernel) (pa_cons (pe_lc (own := [("at", 4)]) (g := gName 4) (by rfl) nd (pi_rng (pv 3)) (blkOk_by (own := [("at", 4)]) (N := nS) (sc := defScope (top iSent)) (by decide +kernel)) (fun _ _ _ _ _ => pg_name (i := 4) nd rfl (Or.inr rfl)) (fun _ _ _ _ _ => pts_nil)
          (fun _ _ _ _ _ => pe_op op_modN (pe_callB (r := rSum K) (cr_sum rfl) (by rfl) ism (by decide +kernel) (pa_cons (pe_lc (own := [("item", 5), ("line", 6)]) (wi := RZ.iZipA K (tCons (tVar 0) (tCons (tVar 1) tNil))) (g := gTup K 2 (gCons (gName 5) (gCons (gName 6) gNil))) (by rfl) nd (RZ.pi_zipA (by rfl) iz (pa_cons (pv 0) (pa_cons (pv 1) pa_nil))) (blkOk_by (own := [("item", 5), ("line", 6)]) (N := nS) (sc := scS) (by decide +kernel))
            (fun _ _ _ _ _ => pg_tup rfl (pgs_cons (pg_name (i := 5) nd rfl (Or.inl rfl)) (pgs_cons (pg_name (i := 6) nd rfl (Or.inl rfl)) pgs_nil))) (fun _ _ _ _ _ => pts_nil)
            (fun _ _ _ _ _ => pe_op op_mul (pv 5) (pe_ix (r := rIx K) ix_seq (pv 6) (pv 4) (fun _ _ => rfl)))) pa_nil)) (pv 2))) pa_nil))))), ?_⟩
      have h0 : 0 < p := by have := ho.two; omega
      have hv := ho.row.1
      have hn := ho.len
      have hbd := ho.row.bound h0
      have hsm := ho.small
      refine ⟨_, rfl, a, _, rfl, .inr (SqT.of ha), _, rfl, fun e he => ?_⟩
      have s1 : Same H (upd H e (.rng 0 ((v.map V.int).length : Nat))) := same_new he
      have hnl : ((v.map V.int).length : Int) = (n : Int) := by rw [List.length_map, hv]
      refine ⟨_, rfl, e, 0, _, rfl, upd_same, (by omega), (by omega), (by omega), (by omega), fun D hD => lc_it walk_range (fun i H' => Same (upd H e (.rng 0 ((v.map V.int).length : Nat))) H' ∧ H' D = some (.lst (((sentP p v M).take i).map V.int))) ⟨same_new hD, upd_same⟩ (fun i H' _ z => trivial) ?_ ?_⟩
      · rintro i x Ha Hb hi ⟨sm, hd⟩ ⟨rfl, rfl⟩
        have hi : i < n := by omega
        refine ⟨rfl, yes_if ?_⟩
        have sH : Same H Hb := fun c u q => sm _ _ (s1 _ _ q)
        refine ⟨_, rfl, _, rfl, a, m, _, _, rfl, .inr ⟨SqT.of (sH _ _ ha), SqT.of (sH _ _ hm), fun D2 hD2 => lc_it (walk_zipT (K := K) (a := a) (b := m) (xs := v.map V.int) (ys := ls.map V.ref) (n := n) (by simp [hv]) (by simp [hls.length, hM]))
          (fun j H' => Same Hb H' ∧ H' D2 = some (.lst (((terms v M i).take j).map V.int))) ⟨same_new hD2, upd_same⟩ (fun j H' _ z => ⟨SqT.of (z.1 _ _ (sH _ _ ha)), SqT.of (z.1 _ _ (sH _ _ hm))⟩) ?_ ?_⟩⟩
        · rintro j x Hc Hd hj ⟨s2, hd2⟩ ⟨T', x', y', rfl, hT, rfl, e1, e2⟩
          obtain ⟨u, hu, rfl⟩ := ints_at (xs := v) e1
          obtain ⟨lj, hlj, rfl⟩ := refs_at (as := ls) e2
          obtain ⟨o, hoM, hoi⟩ := hls.get hlj
          have hol := hMl o (List.mem_of_getElem? hoM)
          have s3 : Same H (upd Hc T' (.tup [.int u, .ref lj])) := fun c q r => by
            rw [upd_ne (ne_of_none (s2 _ _ (sH _ _ r)) hT)]
            exact s2 _ _ (sH _ _ r)
          have hub : 0 ≤ u ∧ u < p := ho.row.2 u (List.mem_of_getElem? hu)
          refine ⟨T', _, rfl, SqT.of upd_same, rfl, _, _, rfl, _, _, rfl, rfl, rfl, yes_if ?_⟩
          refine ⟨_, rfl, _, rfl, _, rfl, ?_⟩
          refine ix_ints (i := i) (hoi.same s3) (Int.zero_add _) (by omega) ?_
          refine ⟨_, _, rfl, rfl, .inl (by omega), ((terms v M i).take j).map V.int, ?_, lt_line (by rw [List.length_map]; have := List.length_take_le j (terms v M i); omega), ?_, ?_⟩
          · rw [upd_ne (ne_of_none hd2 hT)]
            exact hd2
          · intro c z q
            rw [upd_ne (ne_of_none q hD2), upd_ne (ne_of_none (s2 c z q) hT)]
            exact s2 c z q
          · rw [upd_same, take_more (terms_get v M i j hu hoM)]
        · rintro Hc ⟨s2, hd2⟩
          have tl : (terms v M i).length = n := by rw [terms_len v M i (by omega), hv]
          rw [← tl, List.take_length] at hd2
          refine ⟨D2, terms v M i, rfl, SqL.of hd2, _, rfl, _, _, rfl, rfl, (by omega), ((sentP p v M).take i).map V.int, s2 _ _ hd, lt_line (by rw [List.length_map]; have := List.length_take_le i (sentP p v M); omega), fun c z q => ?_, ?_⟩
          · rw [upd_ne (ne_of_none q hD)]
            exact s2 _ _ (sm _ _ q)
          · have es : (sentP p v M)[i]? = some (dotc v M i % p) := by
              simp [sentP, hv, hi]
            rw [upd_same, take_more es, terms_sum]
            show some (HO.lst (_ ++ [V.int ((dotc v M i).fmod p)])) = _
            rw [fmod_pos h0]
      · rintro Ha ⟨sm, hd⟩
        have sl : (sentP p v M).length = n := by rw [sentP_len, hv]
        have e2 : (((v.map V.int).length : Int) - 0).toNat = n := by omega
        rw [e2, ← sl, List.take_length] at hd
        refine ⟨D, _, rfl, .inl ⟨SqL.of hd, fun c hc => k _ c (fun d z q => ?_) (none_back s1 (none_back sm hc)) upd_same⟩⟩
        rw [upd_ne (ne_of_none (sm _ _ (s1 _ _ q)) hc)]
        exact sm _ _ (s1 _ _ q)
end
end K7

set_option Elab.async false
set_option linter.all false
set_option maxRecDepth 100000
set_option maxHeartbeats 4000000
/-! # rows.py: is_row -/
namespace K7
open PySem PySem.Spec PyProof.Rows L2 VX RX
section
variable {P : Program} {w : World} {K : PySem.W.Frag} {mg : Str → Option Value} {base : Heap} {f : Addr} {fd : FuncData}
/-- an item, and whether it is an integer -/
inductive Cell : V → Bool → Prop
  | int (i : Int) : Cell (.int i) true
  | bl (b : Bool) : Cell (.bl b) false
  | non : Cell .non false
  | str (z : Str) : Cell (.str z) false
inductive Cells : List V → List Bool → Prop
  | nil : Cells [] []
  | cons {x : V} {b : Bool} {xs : List V} {bs : List Bool} : Cell x b → Cells xs bs → Cells (x :: xs) (b :: bs)
theorem Cells.length : ∀ {xs : List V} {bs : List Bool}, Cells xs bs → xs.length = bs.length
  | _, _, .nil => rfl
  | _, _, .cons _ t => congrArg (· + 1) t.length
theorem Cells.get : ∀ {xs : List V} {bs : List Bool} {i : Nat} {x : V}, Cells xs bs → xs[i]? = some x → ∃ b, bs[i]? = some b ∧ Cell x b
  | _, _, 0, _, .cons h _, e => ⟨_, rfl, Option.some.inj e ▸ h⟩
  | _, _, i + 1, _, .cons _ t, e => t.get (i := i) e
theorem Cells.ints : ∀ xs : List Int, Cells (xs.map V.int) (xs.map fun _ => true)
  | [] => .nil
  | x :: xs => .cons (.int x) (Cells.ints xs)
theorem all_ints (xs : List Int) : (xs.map fun _ => true).all id = true := by simp
theorem Cell.ty {K : PySem.W.Frag} {H : Hp} {v : V} {b : Bool} (h : Cell v b) : ∃ t c d, TyX K H v t ∧ PySem.W.kitOne K t (.type "int") = some c ∧ PySem.W.kitOne K t (.type "bool") = some d ∧ (c && !d) = b := by
  cases h with
  | int i => exact ⟨_, true, false, .base (.int _), kit_ty (by decide +kernel), kit_ty (by decide +kernel), rfl⟩
  | bl b => exact ⟨_, true, true, .base (.bl _), kit_ty (by decide +kernel), kit_ty (by decide +kernel), rfl⟩
  | non => exact ⟨_, false, false, .base .non, kit_ty (by decide +kernel), kit_ty (by decide +kernel), rfl⟩
  | str z => exact ⟨_, false, false, .base (.str _), kit_ty (by decide +kernel), kit_ty (by decide +kernel), rfl⟩
/-- a value, and its items if it is a list or a tuple -/
inductive SeqV (H : Hp) : V → Option (List V) → Prop
  | lst {a : Addr} {xs : List V} : H a = some (.lst xs) → SeqV H (.ref a) (some xs)
  | tup {a : Addr} {xs : List V} : H a = some (.tup xs) → SeqV H (.ref a) (some xs)
  | non : SeqV H .non none
  | str (z : Str) : SeqV H (.str z) none
theorem SeqV.same {H H' : Hp} (s : Same H H') {v : V} {o : Option (List V)} (h : SeqV H v o) : SeqV H' v o := by
  cases h with
  | lst h => exact .lst (s _ _ h)
  | tup h => exact .tup (s _ _ h)
  | non => exact .non
  | str z => exact .str z
theorem kitLT {K : PySem.W.Frag} {a : String} {b c r : Bool} (h1 : PySem.W.kitOne K (.type a) (.type "list") = some b) (h2 : PySem.W.kitOne K (.type a) (.type "tuple") = some c) (e : (b || c) = r) : PySem.W.kitAny K (.type a) [.type "list", .type "tuple"] = some r := by
  subst e
  unfold PySem.W.kitAny
  rw [h1]
  cases b with
  | true => rfl
  | false =>
    unfold PySem.W.kitAny
    simp only [h2]
    cases c <;> rfl
theorem kL {K : PySem.W.Frag} : PySem.W.kitAny K (.type "list") [.type "list", .type "tuple"] = some true := kitLT (b := true) (c := false) (kit_ty (by decide +kernel)) (kit_ty (by decide +kernel)) rfl
theorem kT {K : PySem.W.Frag} : PySem.W.kitAny K (.type "tuple") [.type "list", .type "tuple"] = some true := kitLT (b := false) (c := true) (kit_ty (by decide +kernel)) (kit_ty (by decide +kernel)) rfl
theorem kN {K : PySem.W.Frag} : PySem.W.kitAny K (.type "NoneType") [.type "list", .type "tuple"] = some false := kitLT (b := false) (c := false) (kit_ty (by decide +kernel)) (kit_ty (by decide +kernel)) rfl
theorem kS {K : PySem.W.Frag} : PySem.W.kitAny K (.type "str") [.type "list", .type "tuple"] = some false := kitLT (b := false) (c := false) (kit_ty (by decide +kernel)) (kit_ty (by decide +kernel)) rfl
def spIsRow : Sp := fun vs H Q _ => ∃ (v : V) (n : Nat) (o : Option (List V)), vs = [v, .int n] ∧ SeqV H v o ∧ (o = none → ∀ H', Same H H' → Q (.bl false) H') ∧
  ∀ xs, o = some xs → ∃ bs, Cells xs bs ∧ xs.length ≤ 1000 ∧ ∀ H', Same H H' → Q (.bl (decide (xs.length = n) && bs.all id)) H'
theorem sc_isrow : FnScope ["value", "length", "item"] ["value", "length"] (defScope (top iRow)) := ⟨rfl, rfl, rfl, by decide +kernel, rfl, by decide +kernel, by decide +kernel⟩
theorem ok_isrow {fd1 : FuncData} (F : FnP K "is_row" iRow f fd) (T : Txt K mg) (F1 : FnP K "is_integer" iInt (He.ga K "is_integer") fd1) : FnOk P w K mg base CX0 2 f fd ["value", "length"] spIsRow := by
  have G1 : FnOk P w K mg base CX0 1 _ fd1 ["value"] (spInt K) := ok_int F1 T
  have B1 : Binds K fd1 ["value"] [] := F1.bindsN fun _ _ _ _ _ _ us hl => match us, hl with | [_], _ => rfl
  refine F.ok sc_isrow (fun vs H Q E h => ?_) (fun cdv A outer s H vs Q E hr h => ?_)
  · obtain ⟨v, n, o, rfl, _⟩ := h
    rfl
  · obtain ⟨v, n, o, rfl, hv, k1, k2⟩ := h
    have ii := T.fr "isinstance"
    have il := T.fr "list"
    have it := T.fr "tuple"
    have ie := T.fr "len"
    have ia := T.fr "all"
    have nd := sc_isrow.nd
    cases hv with
    | lst ha =>
      rename_i a xs
      obtain ⟨bs, hc, hl, k⟩ := k2 xs rfl
      refine ⟨_, PSs.nox (pss_cons (ps_if (PW.pt (pw_or (pt_not (pt_val (pe_callB call_isiT (by rfl) ii (by decide +kernel) (pa_cons (pv 0) (pa_cons (pe_tup (pa_cons (pe_bltn (v := .ty "list") (by rfl) il (by decide +kernel) rfl) (pa_cons (pe_bltn (v := .ty "tuple") (by rfl) it (by decide +kernel) rfl) pa_nil))) pa_nil)))))
            (pw_or1 (pt_cmpR op_ne (pe_callB call_len_seq (by rfl) ie boot_len (pa_cons (pv 0) pa_nil)) (pv 1) (nomark _))))) (pss_one (ps_ret pe_bl)) pss_nil)
        (pss_one (ps_ret (pe_callB (cr_all rfl) (by rfl) ia (by decide +kernel) (pa_cons (pe_lc (own := [("item", 2)]) (g := gName 2) (by rfl) nd (pi_list (pv 0)) (blkOk_by (own := [("item", 2)]) (N := ["value", "length", "item"]) (sc := defScope (top iRow)) (by decide +kernel)) (fun _ _ _ _ _ => pg_name (i := 2) nd rfl (Or.inl rfl)) (fun _ _ _ _ _ => pts_nil)
          (fun _ _ _ _ _ => pe_call G1 hr (by rfl) (T.df "is_integer" iInt) F1.kp B1 .nil pass0 (pa_cons (pv 2) pa_nil))) pa_nil))))), ?_⟩
      refine ⟨_, rfl, (by show 2 ≤ sizeLine; decide), fun q hq => ?_⟩
      have ha' : upd H q (.tup [.ty "list", .ty "tuple"]) a = some (.lst xs) := by rw [upd_ne (ne_of_none ha hq)]; exact ha
      refine ⟨_, q, _, _, _, _, rfl, upd_same, .cons (.ty _) (.cons (.ty _) .nil), .base (.lst ha'), kL, _, rfl, ?_⟩
      refine iteF ?_
      refine ⟨_, rfl, a, _, rfl, .inl (SqL.of ha'), _, rfl, rfl, _, rfl, ?_⟩
      refine ite2 (fun e => ?_) (fun e => ?_)
      · have e' : xs.length ≠ n := fun z => by
          rw [z] at e
          simp at e
        have := k _ (same_new (o := .tup [.ty "list", .ty "tuple"]) hq)
        rw [decide_eq_false e'] at this
        exact this
      · have e' : xs.length = n := by
          have e := e
          simp at e
          omega
        rw [decide_eq_true e'] at k
        refine ⟨_, rfl, a, rfl, ⟨_, SqL.of ha'⟩, fun D hD => lc_it (walk_list (K := K) (a := a) (xs := xs)) (fun i H' => H' = upd (upd H q (.tup [.ty "list", .ty "tuple"])) D (.lst ((bs.take i).map V.bl))) rfl (fun i H' _ z => SqL.of (by rw [z, upd_ne (ne_of_none ha' hD)]; exact ha')) ?_ ?_⟩
        · rintro i x H1 H2 hi rfl ⟨rfl, hx⟩
          obtain ⟨b, hb, hcell⟩ := hc.get hx
          obtain ⟨t, c, d, h1, h2, h3, h4⟩ := hcell.ty (K := K) (H := upd (upd H q (.tup [.ty "list", .ty "tuple"])) D (.lst ((bs.take i).map V.bl)))
          refine ⟨rfl, yes_if ?_⟩
          refine ⟨_, rfl, x, t, c, d, rfl, h1, h2, h3, _, upd_same, lt_line (by rw [List.length_map]; have := List.length_take_le i bs; have := hc.length; omega), ?_⟩
          rw [upd_upd, take_more hb, h4]
        · rintro H1 rfl
          rw [hc.length, List.take_length]
          exact ⟨D, bs, rfl, SqL.of upd_same, k _ (same_two hq hD)⟩
    | tup ha =>
      rename_i a xs
      obtain ⟨bs, hc, hl, k⟩ := k2 xs rfl
      refine ⟨_, PSs.nox (pss_cons (ps_if (PW.pt (pw_or (pt_not (pt_val (pe_callB call_isiT (by rfl) ii (by decide +kernel) (pa_cons (pv 0) (pa_cons (pe_tup (pa_cons (pe_bltn (v := .ty "list") (by rfl) il (by decide +kernel) rfl) (pa_cons (pe_bltn (v := .ty "tuple") (by rfl) it (by decide +kernel) rfl) pa_nil))) pa_nil)))))
            (pw_or1 (pt_cmpR op_ne (pe_callB call_len_seq (by rfl) ie boot_len (pa_cons (pv 0) pa_nil)) (pv 1) (nomark _))))) (pss_one (ps_ret pe_bl)) pss_nil)
        (pss_one (ps_ret (pe_callB (cr_all rfl) (by rfl) ia (by decide +kernel) (pa_cons (pe_lc (own := [("item", 2)]) (g := gName 2) (by rfl) nd (pi_tup (pv 0)) (blkOk_by (own := [("item", 2)]) (N := ["value", "length", "item"]) (sc := defScope (top iRow)) (by decide +kernel)) (fun _ _ _ _ _ => pg_name (i := 2) nd rfl (Or.inl rfl)) (fun _ _ _ _ _ => pts_nil)
          (fun _ _ _ _ _ => pe_call G1 hr (by rfl) (T.df "is_integer" iInt) F1.kp B1 .nil pass0 (pa_cons (pv 2) pa_nil))) pa_nil))))), ?_⟩
      refine ⟨_, rfl, (by show 2 ≤ sizeLine; decide), fun q hq => ?_⟩
      have ha' : upd H q (.tup [.ty "list", .ty "tuple"]) a = some (.tup xs) := by rw [upd_ne (ne_of_none ha hq)]; exact ha
      refine ⟨_, q, _, _, _, _, rfl, upd_same, .cons (.ty _) (.cons (.ty _) .nil), .base (.tup ha'), kT, _, rfl, ?_⟩
      refine iteF ?_
      refine ⟨_, rfl, a, _, rfl, .inr (SqT.of ha'), _, rfl, rfl, _, rfl, ?_⟩
      refine ite2 (fun e => ?_) (fun e => ?_)
      · have e' : xs.length ≠ n := fun z => by
          rw [z] at e
          simp at e
        have := k _ (same_new (o := .tup [.ty "list", .ty "tuple"]) hq)
        rw [decide_eq_false e'] at this
        exact this
      · have e' : xs.length = n := by
          have e := e
          simp at e
          omega
        rw [decide_eq_true e'] at k
        refine ⟨_, rfl, a, rfl, ⟨_, SqT.of ha'⟩, fun D hD => lc_it (walk_tup (K := K) (a := a) (xs := xs)) (fun i H' => H' = upd (upd H q (.tup [.ty "list", .ty "tuple"])) D (.lst ((bs.take i).map V.bl))) rfl (fun i H' _ z => SqT.of (by rw [z, upd_ne (ne_of_none ha' hD)]; exact ha')) ?_ ?_⟩
        · rintro i x H1 H2 hi rfl ⟨rfl, hx⟩
          obtain ⟨b, hb, hcell⟩ := hc.get hx
          obtain ⟨t, c, d, h1, h2, h3, h4⟩ := hcell.ty (K := K) (H := upd (upd H q (.tup [.ty "list", .ty "tuple"])) D (.lst ((bs.take i).map V.bl)))
          refine ⟨rfl, yes_if ?_⟩
          refine ⟨_, rfl, x, t, c, d, rfl, h1, h2, h3, _, upd_same, lt_line (by rw [List.length_map]; have := List.length_take_le i bs; have := hc.length; omega), ?_⟩
          rw [upd_upd, take_more hb, h4]
        · rintro H1 rfl
          rw [hc.length, List.take_length]
          exact ⟨D, bs, rfl, SqL.of upd_same, k _ (same_two hq hD)⟩
    | non =>
      refine ⟨_, PSs.nox (pss_cons (ps_if (PW.pt (pw_or (pt_not (pt_val (pe_callB call_isiT (by rfl) ii (by decide +kernel) (pa_cons (pv 0) (pa_cons (pe_tup (pa_cons (pe_bltn (v := .ty "list") (by rfl) il (by decide +kernel) rfl) (pa_cons (pe_bltn (v := .ty "tuple") (by rfl) it (by decide +kernel) rfl) pa_nil))) pa_nil)))))
            (pw_or1 (pt_cmpR op_ne (pe_callB call_len_seq (by rfl) ie boot_len (pa_cons (pv 0) pa_nil)) (pv 1) (nomark _))))) (pss_one (ps_ret pe_bl)) pss_nil)
        (pss_one (ps_ret (pe_callB (cr_all rfl) (by rfl) ia (by decide +kernel) (pa_cons (pe_lc (own := [("item", 2)]) (g := gName 2) (by rfl) nd (pi_list (pv 0)) (blkOk_by (own := [("item", 2)]) (N := ["value", "length", "item"]) (sc := defScope (top iRow)) (by decide +kernel)) (fun _ _ _ _ _ => pg_name (i := 2) nd rfl (Or.inl rfl)) (fun _ _ _ _ _ => pts_nil)
          (fun _ _ _ _ _ => pe_call G1 hr (by rfl) (T.df "is_integer" iInt) F1.kp B1 .nil pass0 (pa_cons (pv 2) pa_nil))) pa_nil))))), ?_⟩
      refine ⟨_, rfl, (by show 2 ≤ sizeLine; decide), fun q hq => ?_⟩
      refine ⟨_, q, _, _, _, _, rfl, upd_same, .cons (.ty _) (.cons (.ty _) .nil), .base .non, kN, _, rfl, ?_⟩
      refine iteT ?_
      exact k1 rfl _ (same_new hq)
    | str z =>
      refine ⟨_, PSs.nox (pss_cons (ps_if (PW.pt (pw_or (pt_not (pt_val (pe_callB call_isiT (by rfl) ii (by decide +kernel) (pa_cons (pv 0) (pa_cons (pe_tup (pa_cons (pe_bltn (v := .ty "list") (by rfl) il (by decide +kernel) rfl) (pa_cons (pe_bltn (v := .ty "tuple") (by rfl) it (by decide +kernel) rfl) pa_nil))) pa_nil)))))
            (pw_or1 (pt_cmpR op_ne (pe_callB call_len_seq (by rfl) ie boot_len (pa_cons (pv 0) pa_nil)) (pv 1) (nomark _))))) (pss_one (ps_ret pe_bl)) pss_nil)
        (pss_one (ps_ret (pe_callB (cr_all rfl) (by rfl) ia (by decide +kernel) (pa_cons (pe_lc (own := [("item", 2)]) (g := gName 2) (by rfl) nd (pi_list (pv 0)) (blkOk_by (own := [("item", 2)]) (N := ["value", "length", "item"]) (sc := defScope (top iRow)) (by decide +kernel)) (fun _ _ _ _ _ => pg_name (i := 2) nd rfl (Or.inl rfl)) (fun _ _ _ _ _ => pts_nil)
          (fun _ _ _ _ _ => pe_call G1 hr (by rfl) (T.df "is_integer" iInt) F1.kp B1 .nil pass0 (pa_cons (pv 2) pa_nil))) pa_nil))))), ?_⟩
      refine ⟨_, rfl, (by show 2 ≤ sizeLine; decide), fun q hq => ?_⟩
      refine ⟨_, q, _, _, _, _, rfl, upd_same, .cons (.ty _) (.cons (.ty _) .nil), .base (.str _), kS, _, rfl, ?_⟩
      refine iteT ?_
      exact k1 rfl _ (same_new hq)
end
end K7

set_option Elab.async false
set_option linter.all false
set_option maxRecDepth 100000
set_option maxHeartbeats 4000000
/-! # spaces.py: check_size, checked_row, Space.__init__ -/
namespace K7
open PySem PySem.Spec PyProof.Rows L2 VX RX
section
variable {P : Program} {w : World} {K : PySem.W.Frag} {mg : Str → Option Value} {base : Heap} {f : Addr} {fd : FuncData}
def spChkL : Sp := fun vs H Q _ => ∃ (n : Nat), vs = [.int n] ∧ n ≤ 12 ∧ Q .non H
theorem sc_chkl : FnScope ["length"] ["length"] (defScope (top iChkL)) := ⟨rfl, rfl, rfl, by decide +kernel, rfl, by decide +kernel, by decide +kernel⟩
theorem ok_chkl {fd1 : FuncData} (F : FnP K "check_length" iChkL f fd) (T : Txt K mg) (F1 : FnP K "is_integer" iInt (He.ga K "is_integer") fd1) : FnOk P w K mg base CX0 2 f fd ["length"] spChkL := by
  have G1 : FnOk P w K mg base CX0 1 _ fd1 ["value"] (spInt K) := ok_int F1 T
  have B1 : Binds K fd1 ["value"] [] := F1.bindsN fun _ _ _ _ _ _ us hl => match us, hl with | [_], _ => rfl
  refine F.ok sc_chkl (fun vs H Q E h => ?_) (fun cdv A outer s H vs Q E hr h => ?_)
  · obtain ⟨n, rfl, _⟩ := h
    rfl
  · obtain ⟨n, rfl, hn, k⟩ := h
    obtain ⟨tl, hL⟩ := T.longest
    refine ⟨_, PSs.nox (pss_one (ps_if (PW.pt (pw_or (pt_not (pt_val (pe_call G1 hr (by rfl) (T.df "is_integer" iInt) F1.kp B1 .nil pass0 (pa_cons (pv 0) pa_nil)))) (pw_or (pt_cmpR op_lt (pv 0) pe_int (nomark _)) (pw_or1 (pt_cmpR op_gt (pv 0) (pe_glob (v := .int 12) (by rfl) hL ⟨_, rfl⟩) (nomark _)))))) (pss_one ps_never) pss_nil)), ?_⟩
    refine ⟨_, rfl, _, _, true, false, rfl, .base (.int _), int_ty K, int_nb K, _, rfl, ?_⟩
    refine iteF ?_
    refine ⟨_, rfl, _, _, rfl, rfl, _, rfl, ?_⟩
    rw [decide_eq_false (show ¬((n : Int) < 0) by omega)]
    refine iteF ?_
    refine ⟨_, rfl, _, _, rfl, rfl, _, rfl, ?_⟩
    rw [decide_eq_false (show ¬((12 : Int) < (n : Int)) by omega)]
    exact iteF k
def spSize : Sp := fun vs H Q _ => ∃ (p : Int) (n : Nat), vs = [.int p, .int n] ∧ isP p = true ∧ n ≤ 12 ∧ Q .non H
theorem sc_size : FnScope ["prime", "length"] ["prime", "length"] (defScope (top iSize)) := ⟨rfl, rfl, rfl, by decide +kernel, rfl, by decide +kernel, by decide +kernel⟩
theorem ok_size {fd1 fd2 : FuncData} (F : FnP K "check_size" iSize f fd) (T : Txt K mg) (F1 : FnP K "is_integer" iInt (He.ga K "is_integer") fd1) (F2 : FnP K "is_prime" iPrime (He.ga K "is_prime") fd2) : FnOk P w K mg base CX0 4 f fd ["prime", "length"] spSize := by
  obtain ⟨fdC, FC⟩ := T.chk
  obtain ⟨fdL, FL⟩ := T.chl
  have GC : FnOk P w K mg base CX0 3 _ fdC ["prime"] spChkP := ok_chkp FC T F1 F2
  have BC : Binds K fdC ["prime"] [] := FC.bindsN fun _ _ _ _ _ _ us hl => match us, hl with | [_], _ => rfl
  have GL : FnOk P w K mg base CX0 2 _ fdL ["length"] spChkL := ok_chkl FL T F1
  have BL : Binds K fdL ["length"] [] := FL.bindsN fun _ _ _ _ _ _ us hl => match us, hl with | [_], _ => rfl
  refine F.ok sc_size (fun vs H Q E h => ?_) (fun cdv A outer s H vs Q E hr h => ?_)
  · obtain ⟨p, n, rfl, _⟩ := h
    rfl
  · obtain ⟨p, n, rfl, hp, hn, k⟩ := h
    have hr2 : Room 2 _ := hr.mono (by decide)
    refine ⟨_, PSs.nox (pss_cons (ps_expr (pe_call GC hr (by rfl) (T.df "check_prime" iChkP) FC.kp BC .nil pass0 (pa_cons (pv 0) pa_nil)))
      (pss_one (ps_expr (pe_call GL hr2 (by rfl) (T.df "check_length" iChkL) FL.kp BL .nil pass0 (pa_cons (pv 1) pa_nil))))), ?_⟩
    exact ⟨_, rfl, p, rfl, hp, _, rfl, n, rfl, hn, k⟩
end
end K7

set_option Elab.async false
set_option linter.all false
set_option maxRecDepth 100000
set_option maxHeartbeats 4000000
/-! # spaces.py: checked_row (of good vectors), Space.__init__ (of good arguments) -/
namespace K7
open PySem PySem.Spec PyProof.Rows L2 VX RX
section
variable {P : Program} {w : World} {K : PySem.W.Frag} {mg : Str → Option Value} {base : Heap} {f : Addr} {fd : FuncData}
def spChecked : Sp := fun vs H Q _ => ∃ (a : Addr) (xs : List Int) (p : Int) (n : Nat), vs = [.ref a, .int p, .int n] ∧ IsInts H a xs ∧ xs.length = n ∧ n ≤ 100 ∧ 0 < p ∧ ∀ H' b, Same H H' → H b = none → IsRow H' b (modR p xs) → Q (.ref b) H'
theorem sc_checked : FnScope ["vector", "prime", "length"] ["vector", "prime", "length"] (defScope (top iChecked)) := ⟨rfl, rfl, rfl, by decide +kernel, rfl, by decide +kernel, by decide +kernel⟩
theorem ok_checked {fd1 fdI fdO : FuncData} (F : FnP K "checked_row" iChecked f fd) (T : Txt K mg) (F1 : FnP K "is_integer" iInt (He.ga K "is_integer") fd1) (FI : FnP K "is_row" iRow (He.ga K "is_row") fdI) (FO : FnP K "row_of" iRowOf (He.ga K "row_of") fdO) : FnOk P w K mg base CX0 3 f fd ["vector", "prime", "length"] spChecked := by
  have GI : FnOk P w K mg base CX0 2 _ fdI ["value", "length"] spIsRow := ok_isrow FI T F1
  have BI : Binds K fdI ["value", "length"] [] := FI.bindsN fun _ _ _ _ _ _ us hl => match us, hl with | [_, _], _ => rfl
  have GO : FnOk P w K mg base CX0 1 _ fdO ["vector", "prime"] (spRowOf K) := ok_rowof FO T
  have BO : Binds K fdO ["vector", "prime"] [] := FO.bindsN fun _ _ _ _ _ _ us hl => match us, hl with | [_, _], _ => rfl
  refine F.ok sc_checked (fun vs H Q E h => ?_) (fun cdv A outer s H vs Q E hr h => ?_)
  · obtain ⟨a, xs, p, n, rfl, _⟩ := h
    rfl
  · obtain ⟨a, xs, p, n, rfl, ha, hl, hn, hp, k⟩ := h
    have hr1 : Room 1 _ := hr.mono (by decide)
    refine ⟨_, PSs.nox (pss_cons (ps_if (pt_not (pt_val (pe_call GI hr (by rfl) (T.df "is_row" iRow) FI.kp BI .nil pass0 (pa_cons (pv 0) (pa_cons (pv 2) pa_nil))))) (pss_one ps_never) pss_nil)
      (pss_one (ps_ret (pe_call GO hr1 (by rfl) (T.df "row_of" iRowOf) FO.kp BO .nil pass0 (pa_cons (pv 0) (pa_cons (pv 1) pa_nil)))))), ?_⟩
    have hs : SeqV H (.ref a) (some (xs.map V.int)) := ha.elim .lst .tup
    refine ⟨_, rfl, _, rfl, _, n, _, rfl, hs, (fun e => nomatch e), fun ys e => ?_⟩
    obtain rfl := Option.some.inj e
    refine ⟨_, Cells.ints xs, (by rw [List.length_map]; omega), fun H1 s1 => ⟨_, rfl, ?_⟩⟩
    rw [decide_eq_true (by rw [List.length_map, hl]), all_ints]
    refine iteF ?_
    refine ⟨_, rfl, _, rfl, a, xs, p, rfl, ha.elim (fun h => .inl (s1 _ _ h)) (fun h => .inr (s1 _ _ h)), hp, by omega, fun H2 b s2 hb hb2 => k H2 b (fun u v q => s2 _ _ (s1 _ _ q)) (none_back s1 hb) hb2⟩
/-! ### Space.__init__ -/
abbrev sInit : Stmt := inClass (top iSpace) 0
abbrev nI : List Str := ["self", "prime", "length", "vectors", "rows", "vector"]
/-- a space as it stands in memory -/
structure IsSp (K : PySem.W.Frag) (H : Hp) (x : Addr) (p : Int) (n : Nat) (b : List (List Int)) : Prop where
  ob : ∃ dx t as, H x = some (.ins (He.ga K "Space") dx [("_prime", .int p), ("_length", .int (n : Nat)), ("_rows", .ref t)]) ∧ H t = some (.tup (as.map V.ref)) ∧ AreRows H as b
theorem IsSp.same {H H' : Hp} (s : Same H H') {x : Addr} {p : Int} {n : Nat} {b : List (List Int)} (h : IsSp K H x p n b) : IsSp K H' x p n b := by
  obtain ⟨dx, t, as, h1, h2, h3⟩ := h.ob
  exact ⟨dx, t, as, s _ _ h1, s _ _ h2, h3.same s⟩
def spInit (K : PySem.W.Frag) : Sp := fun vs H Q _ => ∃ (x : Addr) (dx : Addr) (p : Int) (n : Nat) (l : Addr) (ls : List Addr) (rs : List (List Int)), vs = [.ref x, .int p, .int n, .ref l] ∧ H x = some (.ins (He.ga K "Space") dx []) ∧ isP p = true ∧ n ≤ 12 ∧ H l = some (.lst (ls.map V.ref)) ∧ AreInts H ls rs ∧ Len n rs ∧ rs.length ≤ 1000 ∧
  ∀ H', (∀ c o, H c = some o → c ≠ x → H' c = some o) → IsSp K H' x p n (reduced (invF p) p (rs.map (modR p))) → Q .non H'
theorem sc_init : FnScope nI ["self", "prime", "length", "vectors"] (defScope sInit) := ⟨rfl, rfl, rfl, by decide +kernel, rfl, by decide +kernel, by decide +kernel⟩
end
end K7

set_option Elab.async false
set_option linter.all false
set_option maxRecDepth 100000
set_option maxHeartbeats 4000000
/-! # spaces.py: Space.__init__ -/
namespace K7
open PySem PySem.Spec PyProof.Rows L2 VX RX
section
variable {P : Program} {w : World} {K : PySem.W.Frag} {mg : Str → Option Value} {base : Heap} {f : Addr} {fd : FuncData}
theorem AreRows.upd2 {H : Hp} {D : Addr} {o : HO} (hD : ∀ xs, H D ≠ some (.tup xs)) : ∀ {as : List Addr} {rs : List (List Int)}, AreRows H as rs → AreRows (L2.upd H D o) as rs
  | _, _, .nil => .nil
  | _, _, .cons h t => .cons (by
      show L2.upd H D o _ = _
      rw [upd_ne (fun e => hD _ (e ▸ h))]
      exact h) (t.upd2 hD)
/-- the defs of the package that making a space reaches -/
structure Rowfs (K : PySem.W.Frag) (fd1 fd2 fdI fdV fdO fdL fdA fdR fdT fdJ fdD fdS fdC : FuncData) : Prop where
  int : FnP K "is_integer" iInt (He.ga K "is_integer") fd1
  prime : FnP K "is_prime" iPrime (He.ga K "is_prime") fd2
  inv : FnP K "inverse" iInv (He.ga K "inverse") fdI
  isrow : FnP K "is_row" iRow (He.ga K "is_row") fdV
  rowof : FnP K "row_of" iRowOf (He.ga K "row_of") fdO
  lead : FnP K "lead" iLead (He.ga K "lead") fdL
  added : FnP K "added" iAdded (He.ga K "added") fdA
  rest : FnP K "rest_of" iRest (He.ga K "rest_of") fdR
  times : FnP K "times" iTimes (He.ga K "times") fdT
  joined : FnP K "joined" iJoined (He.ga K "joined") fdJ
  reduced : FnP K "reduced" iReduced (He.ga K "reduced") fdD
  size : FnP K "check_size" iSize (He.ga K "check_size") fdS
  checked : FnP K "checked_row" iChecked (He.ga K "checked_row") fdC
theorem ok_init {dvs : List V} {fd1 fd2 fdI fdV fdO fdL fdA fdR fdT fdJ fdD fdS fdC : FuncData} (F : FunD K "__init__" "Space.__init__" (defArgs sInit) (defBody sInit) (defScope sInit) dvs [] f fd) (T : Txt K mg) (Z : Rowfs K fd1 fd2 fdI fdV fdO fdL fdA fdR fdT fdJ fdD fdS fdC) : FnOk P w K mg base CX0 7 f fd ["self", "prime", "length", "vectors"] (spInit K) := by
  have GS : FnOk P w K mg base CX0 4 _ fdS ["prime", "length"] spSize := ok_size Z.size T Z.int Z.prime
  have BS : Binds K fdS ["prime", "length"] [] := Z.size.bindsN fun _ _ _ _ _ _ us hl => match us, hl with | [_, _], _ => rfl
  have GC : FnOk P w K mg base CX0 3 _ fdC ["vector", "prime", "length"] spChecked := ok_checked Z.checked T Z.int Z.isrow Z.rowof
  have BC : Binds K fdC ["vector", "prime", "length"] [] := Z.checked.bindsN fun _ _ _ _ _ _ us hl => match us, hl with | [_, _, _], _ => rfl
  have GD : FnOk P w K mg base CX0 6 _ fdD ["rows", "prime"] spReduced := ok_reduced Z.reduced T Z.joined Z.lead Z.added Z.rest Z.times Z.inv Z.int Z.prime
  have BD : Binds K fdD ["rows", "prime"] [] := Z.reduced.bindsN fun _ _ _ _ _ _ us hl => match us, hl with | [_, _], _ => rfl
  refine F.ok sc_init (fun vs H Q E h => ?_) (fun cdv A outer s H vs Q E hr h => ?_)
  · obtain ⟨x, dx, p, n, l, ls, rs, rfl, _⟩ := h
    rfl
  · obtain ⟨x, dx, p, n, l, ls, rs, rfl, hx, hp, hn, hl, hls, hlen, hsz, k⟩ := h
    have nd := sc_init.nd
    have it := T.fr "tuple"
    have hr3 : Room 3 _ := hr.mono (by decide)
    have hr4 : Room 4 _ := hr.mono (by decide)
    have hq := isP_pos hp
    refine ⟨_, PSs.nox (pss_cons (ps_expr (pe_call GS hr4 (by rfl) (T.df "check_size" iSize) Z.size.kp BS .nil pass0 (pa_cons (pv 1) (pa_cons (pv 2) pa_nil))))
      (pss_cons (ps_setLc (i := 4) (own := [("vector", 5)]) (g := gName 5) (by rfl) nd rfl rfl (sw_true rfl rfl rfl (by decide +kernel)) (pi_list (pv 3)) (blkOk_by (own := [("vector", 5)]) (N := nI) (sc := defScope sInit) (by decide +kernel)) (fun _ _ _ _ _ => pg_name (i := 5) nd rfl (Or.inl rfl)) (fun _ _ _ _ _ => pts_nil)
          (fun _ _ _ _ _ => pe_call GC hr3 (by rfl) (T.df "checked_row" iChecked) Z.checked.kp BC .nil pass0 (pa_cons (pv 5) (pa_cons (pv 1) (pa_cons (pv 2) pa_nil)))))
      (pss_cons (ps_fld (pv 0) (pv 1) rfl)
      (pss_cons (ps_fld (pv 0) (pv 2) rfl)
      (pss_one (ps_fld (pv 0) (pe_callTy call_tuple_of (by rfl) it (by decide +kernel) (pa_cons (pe_call GD hr (by rfl) (T.df "reduced" iReduced) Z.reduced.kp BD .nil pass0 (pa_cons (pv 4) (pa_cons (pv 1) pa_nil))) pa_nil)) rfl)))))), ?_⟩
    refine ⟨_, rfl, _, rfl, p, n, rfl, hp, hn, ?_⟩
    refine ⟨_, rfl, l, rfl, ⟨_, SqL.of hl⟩, fun D hD => lc_it (walk_list (K := K) (a := l) (xs := ls.map V.ref)) (fun i H' => Same H H' ∧ ∃ bs, H' D = some (.lst (bs.map V.ref)) ∧ bs.length ≤ i ∧ AreRows H' bs ((rs.take i).map (modR p))) ⟨same_new hD, [], upd_same, Nat.le_refl _, .nil⟩ (fun i H' _ z => SqL.of (z.1 _ _ hl)) ?_ ?_⟩
    · rintro i v H1 H2 hi ⟨sm, bs, hbs, hbl, har⟩ ⟨rfl, hv⟩
      obtain ⟨a, ha, rfl⟩ := refs_at hv
      obtain ⟨r, hr', hri⟩ := hls.get ha
      have hmem : r ∈ rs := List.mem_of_getElem? hr'
      refine ⟨rfl, yes_if ?_⟩
      refine ⟨_, rfl, _, rfl, _, rfl, a, r, p, n, rfl, hri.same sm, hlen r hmem, by omega, by omega, fun H3 b s3 hb3 hrow => ?_⟩
      have hbs3 := s3 _ _ hbs
      have hll := hls.length
      refine ⟨bs.map V.ref, hbs3, lt_line (by rw [List.length_map]; have := List.length_map (as := ls) V.ref; omega), fun c o q => ?_, bs ++ [b], ?_, by rw [List.length_append, List.length_singleton]; omega, ?_⟩
      · rw [upd_ne (ne_of_none q hD)]
        exact s3 _ _ (sm _ _ q)
      · rw [upd_same, List.map_append]; rfl
      · rw [take_more hr']
        exact ((har.same s3).append (.cons hrow .nil)).upd hbs3
    · rintro H1 ⟨sm, bs, hbs, hbl, har⟩
      rw [List.length_map, hls.length, List.take_length] at har
      have x1 := sm _ _ hx
      have h0 : 0 < p := by omega
      refine ⟨_, rfl, _, rfl, x, _, dx, [], rfl, x1, T.cls, T.fp, by decide, ?_⟩
      refine ⟨_, rfl, _, rfl, x, _, dx, [("_prime", .int p)], rfl, upd_same, T.cls, T.fl, (by show 1 < 1000; decide), ?_⟩
      rw [upd_upd]
      have Dx : D ≠ x := ne_of hbs x1 (by intro z; cases z)
      have nt : ∀ xs, H1 x ≠ some (.tup xs) := fun xs z => by rw [x1] at z; cases z
      refine ⟨_, rfl, _, rfl, D, bs, rs.map (modR p), p, n, rfl, (by rw [upd_ne Dx]; exact hbs), har.upd2 nt, modR_rows h0 hlen, by omega, hp, fun H2 l' as' s2 hl' har' => ⟨l', _, rfl, .inl ⟨SqL.of hl', fun t ht => ?_⟩⟩⟩
      have x2 : H2 x = some (.ins (He.ga K "Space") dx [("_prime", .int p), ("_length", .int (n : Nat))]) := s2 _ _ upd_same
      have tx : x ≠ t := ne_of_none x2 ht
      refine ⟨_, rfl, x, _, dx, [("_prime", .int p), ("_length", .int (n : Nat))], rfl, (by rw [upd_ne tx]; exact x2), T.cls, T.fw, (by show 2 < 1000; decide), ?_⟩
      refine k _ (fun c o q ne => ?_) ⟨dx, t, as', upd_same, ?_, ?_⟩
      · have q1 : L2.upd H1 x (.ins (He.ga K "Space") dx [("_prime", .int p), ("_length", .int (n : Nat))]) c = some o := by rw [upd_ne ne]; exact sm _ _ q
        have q2 := s2 _ _ q1
        rw [upd_ne ne, upd_ne (ne_of_none q2 ht)]
        exact q2
      · rw [upd_ne (Ne.symm tx), upd_same]
      · refine AreRows.upd2 (fun xs z => ?_) (har'.same (same_new ht))
        rw [upd_ne tx, x2] at z
        cases z
end
end K7

set_option Elab.async false
set_option linter.all false
set_option maxRecDepth 100000
set_option maxHeartbeats 4000000
/-! # spaces.py: is_square, basis -/
namespace K7
open PySem PySem.Spec PyProof.Rows L2 VX RX
section
variable {P : Program} {w : World} {K : PySem.W.Frag} {mg : Str → Option Value} {base : Heap} {f : Addr} {fd : FuncData}
/-- a value, and whether it is a row of n integers -/
def RowV (H : Hp) (n : Nat) (x : V) (b : Bool) : Prop := ∃ o, SeqV H x o ∧ ((o = none ∧ b = false) ∨ ∃ ys bs, o = some ys ∧ Cells ys bs ∧ ys.length ≤ 1000 ∧ b = (decide (ys.length = n) && bs.all id))
inductive RowsV (H : Hp) (n : Nat) : List V → List Bool → Prop
  | nil : RowsV H n [] []
  | cons {x : V} {b : Bool} {xs : List V} {bs : List Bool} : RowV H n x b → RowsV H n xs bs → RowsV H n (x :: xs) (b :: bs)
theorem RowsV.length {H : Hp} {n : Nat} : ∀ {xs : List V} {bs : List Bool}, RowsV H n xs bs → xs.length = bs.length
  | _, _, .nil => rfl
  | _, _, .cons _ t => congrArg (· + 1) t.length
theorem RowsV.get {H : Hp} {n : Nat} : ∀ {xs : List V} {bs : List Bool} {i : Nat} {x : V}, RowsV H n xs bs → xs[i]? = some x → ∃ b, bs[i]? = some b ∧ RowV H n x b
  | _, _, 0, _, .cons h _, e => ⟨_, rfl, Option.some.inj e ▸ h⟩
  | _, _, i + 1, _, .cons _ t, e => t.get (i := i) e
def spSquare : Sp := fun vs H Q _ => ∃ (v : V) (n : Nat) (o : Option (List V)), vs = [v, .int n] ∧ SeqV H v o ∧ (o = none → ∀ H', Same H H' → Q (.bl false) H') ∧
  ∀ xs, o = some xs → ∃ bs, RowsV H n xs bs ∧ xs.length ≤ 1000 ∧ ∀ H', Same H H' → Q (.bl (decide (xs.length = n) && bs.all id)) H'
theorem sc_square : FnScope ["matrix", "size", "row"] ["matrix", "size"] (defScope (top iSquare)) := ⟨rfl, rfl, rfl, by decide +kernel, rfl, by decide +kernel, by decide +kernel⟩
theorem ok_square {fd1 fdI : FuncData} (F : FnP K "is_square" iSquare f fd) (T : Txt K mg) (F1 : FnP K "is_integer" iInt (He.ga K "is_integer") fd1) (FI : FnP K "is_row" iRow (He.ga K "is_row") fdI) : FnOk P w K mg base CX0 3 f fd ["matrix", "size"] spSquare := by
  have GI : FnOk P w K mg base CX0 2 _ fdI ["value", "length"] spIsRow := ok_isrow FI T F1
  have BI : Binds K fdI ["value", "length"] [] := FI.bindsN fun _ _ _ _ _ _ us hl => match us, hl with | [_, _], _ => rfl
  refine F.ok sc_square (fun vs H Q E h => ?_) (fun cdv A outer s H vs Q E hr h => ?_)
  · obtain ⟨v, n, o, rfl, _⟩ := h
    rfl
  · obtain ⟨v, n, o, rfl, hv, k1, k2⟩ := h
    have ii := T.fr "isinstance"
    have il := T.fr "list"
    have it := T.fr "tuple"
    have ie := T.fr "len"
    have ia := T.fr "all"
    have nd := sc_square.nd
    cases hv with
    | lst ha =>
      rename_i a xs
      obtain ⟨bs, hc, hl, k⟩ := k2 xs rfl
      refine ⟨_, PSs.nox (pss_cons (ps_if (PW.pt (pw_or (pt_not (pt_val (pe_callB call_isiT (by rfl) ii (by decide +kernel) (pa_cons (pv 0) (pa_cons (pe_tup (pa_cons (pe_bltn (v := .ty "list") (by rfl) il (by decide +kernel) rfl) (pa_cons (pe_bltn (v := .ty "tuple") (by rfl) it (by decide +kernel) rfl) pa_nil))) pa_nil)))))
            (pw_or1 (pt_cmpR op_ne (pe_callB call_len_seq (by rfl) ie boot_len (pa_cons (pv 0) pa_nil)) (pv 1) (nomark _))))) (pss_one (ps_ret pe_bl)) pss_nil)
        (pss_one (ps_ret (pe_callB (cr_all rfl) (by rfl) ia (by decide +kernel) (pa_cons (pe_lc (own := [("row", 2)]) (g := gName 2) (by rfl) nd (pi_list (pv 0)) (blkOk_by (own := [("row", 2)]) (N := ["matrix", "size", "row"]) (sc := defScope (top iSquare)) (by decide +kernel)) (fun _ _ _ _ _ => pg_name (i := 2) nd rfl (Or.inl rfl)) (fun _ _ _ _ _ => pts_nil)
          (fun _ _ _ _ _ => pe_call GI hr (by rfl) (T.df "is_row" iRow) FI.kp BI .nil pass0 (pa_cons (pv 2) (pa_cons (pv 1) pa_nil)))) pa_nil))))), ?_⟩
      refine ⟨_, rfl, (by show 2 ≤ sizeLine; decide), fun q hq => ?_⟩
      have ha' : upd H q (.tup [.ty "list", .ty "tuple"]) a = some (.lst xs) := by rw [upd_ne (ne_of_none ha hq)]; exact ha
      refine ⟨_, q, _, _, _, _, rfl, upd_same, .cons (.ty _) (.cons (.ty _) .nil), .base (.lst ha'), kL, _, rfl, ?_⟩
      refine iteF ?_
      refine ⟨_, rfl, a, _, rfl, .inl (SqL.of ha'), _, rfl, rfl, _, rfl, ?_⟩
      refine ite2 (fun e => ?_) (fun e => ?_)
      · have e' : xs.length ≠ n := fun z => by
          rw [z] at e
          simp at e
        have := k _ (same_new (o := .tup [.ty "list", .ty "tuple"]) hq)
        rw [decide_eq_false e'] at this
        exact this
      · have e' : xs.length = n := by
          have e := e
          simp at e
          omega
        rw [decide_eq_true e'] at k
        refine ⟨_, rfl, a, rfl, ⟨_, SqL.of ha'⟩, fun D hD => lc_it (walk_list (K := K) (a := a) (xs := xs)) (fun i H' => Same (upd H q (.tup [.ty "list", .ty "tuple"])) H' ∧ H' D = some (.lst ((bs.take i).map V.bl))) ⟨same_new hD, upd_same⟩ (fun i H' _ z => SqL.of (z.1 _ _ ha')) ?_ ?_⟩
        · rintro i x H1 H2 hi ⟨sm, hd⟩ ⟨rfl, hx⟩
          obtain ⟨b, hb, o, ho, hob⟩ := hc.get hx
          have sH : Same H H2 := fun c u z => sm _ _ (same_new hq _ _ z)
          refine ⟨rfl, yes_if ?_⟩
          have fin : ∀ H3, Same H2 H3 → ∃ acc, H3 D = some (.lst acc) ∧ acc.length < sizeLine ∧ Same (upd H q (.tup [.ty "list", .ty "tuple"])) (upd H3 D (.lst (acc ++ [.bl b]))) ∧ upd H3 D (.lst (acc ++ [.bl b])) D = some (.lst ((bs.take (i + 1)).map V.bl)) := fun H3 s3 => by
            refine ⟨_, s3 _ _ hd, lt_line (by rw [List.length_map]; have := List.length_take_le i bs; have := hc.length; omega), fun c u z => ?_, ?_⟩
            · rw [upd_ne (ne_of_none z hD)]
              exact s3 _ _ (sm _ _ z)
            · rw [upd_same, take_more hb]
          refine ⟨_, rfl, _, rfl, x, n, o, rfl, ho.same sH, fun e H3 s3 => ?_, fun ys e => ?_⟩
          · rcases hob with ⟨_, e2⟩ | ⟨ys, cs, e2, _⟩
            · have := fin H3 s3
              rw [e2] at this
              exact this
            · rw [e] at e2; cases e2
          · rcases hob with ⟨e2, _⟩ | ⟨ys', cs, e2, hcs, hl2, e3⟩
            · rw [e] at e2; cases e2
            · rw [e] at e2
              obtain rfl := Option.some.inj e2
              refine ⟨cs, hcs, hl2, fun H3 s3 => ?_⟩
              have := fin H3 s3
              rw [e3] at this
              exact this
        · rintro H1 ⟨sm, hd⟩
          rw [hc.length, List.take_length] at hd
          exact ⟨D, bs, rfl, SqL.of hd, k _ fun c u z => sm _ _ (same_new hq _ _ z)⟩
    | tup ha =>
      rename_i a xs
      obtain ⟨bs, hc, hl, k⟩ := k2 xs rfl
      refine ⟨_, PSs.nox (pss_cons (ps_if (PW.pt (pw_or (pt_not (pt_val (pe_callB call_isiT (by rfl) ii (by decide +kernel) (pa_cons (pv 0) (pa_cons (pe_tup (pa_cons (pe_bltn (v := .ty "list") (by rfl) il (by decide +kernel) rfl) (pa_cons (pe_bltn (v := .ty "tuple") (by rfl) it (by decide +kernel) rfl) pa_nil))) pa_nil)))))
            (pw_or1 (pt_cmpR op_ne (pe_callB call_len_seq (by rfl) ie boot_len (pa_cons (pv 0) pa_nil)) (pv 1) (nomark _))))) (pss_one (ps_ret pe_bl)) pss_nil)
        (pss_one (ps_ret (pe_callB (cr_all rfl) (by rfl) ia (by decide +kernel) (pa_cons (pe_lc (own := [("row", 2)]) (g := gName 2) (by rfl) nd (pi_tup (pv 0)) (blkOk_by (own := [("row", 2)]) (N := ["matrix", "size", "row"]) (sc := defScope (top iSquare)) (by decide +kernel)) (fun _ _ _ _ _ => pg_name (i := 2) nd rfl (Or.inl rfl)) (fun _ _ _ _ _ => pts_nil)
          (fun _ _ _ _ _ => pe_call GI hr (by rfl) (T.df "is_row" iRow) FI.kp BI .nil pass0 (pa_cons (pv 2) (pa_cons (pv 1) pa_nil)))) pa_nil))))), ?_⟩
      refine ⟨_, rfl, (by show 2 ≤ sizeLine; decide), fun q hq => ?_⟩
      have ha' : upd H q (.tup [.ty "list", .ty "tuple"]) a = some (.tup xs) := by rw [upd_ne (ne_of_none ha hq)]; exact ha
      refine ⟨_, q, _, _, _, _, rfl, upd_same, .cons (.ty _) (.cons (.ty _) .nil), .base (.tup ha'), kT, _, rfl, ?_⟩
      refine iteF ?_
      refine ⟨_, rfl, a, _, rfl, .inr (SqT.of ha'), _, rfl, rfl, _, rfl, ?_⟩
      refine ite2 (fun e => ?_) (fun e => ?_)
      · have e' : xs.length ≠ n := fun z => by
          rw [z] at e
          simp at e
        have := k _ (same_new (o := .tup [.ty "list", .ty "tuple"]) hq)
        rw [decide_eq_false e'] at this
        exact this
      · have e' : xs.length = n := by
          have e := e
          simp at e
          omega
        rw [decide_eq_true e'] at k
        refine ⟨_, rfl, a, rfl, ⟨_, SqT.of ha'⟩, fun D hD => lc_it (walk_tup (K := K) (a := a) (xs := xs)) (fun i H' => Same (upd H q (.tup [.ty "list", .ty "tuple"])) H' ∧ H' D = some (.lst ((bs.take i).map V.bl))) ⟨same_new hD, upd_same⟩ (fun i H' _ z => SqT.of (z.1 _ _ ha')) ?_ ?_⟩
        · rintro i x H1 H2 hi ⟨sm, hd⟩ ⟨rfl, hx⟩
          obtain ⟨b, hb, o, ho, hob⟩ := hc.get hx
          have sH : Same H H2 := fun c u z => sm _ _ (same_new hq _ _ z)
          refine ⟨rfl, yes_if ?_⟩
          have fin : ∀ H3, Same H2 H3 → ∃ acc, H3 D = some (.lst acc) ∧ acc.length < sizeLine ∧ Same (upd H q (.tup [.ty "list", .ty "tuple"])) (upd H3 D (.lst (acc ++ [.bl b]))) ∧ upd H3 D (.lst (acc ++ [.bl b])) D = some (.lst ((bs.take (i + 1)).map V.bl)) := fun H3 s3 => by
            refine ⟨_, s3 _ _ hd, lt_line (by rw [List.length_map]; have := List.length_take_le i bs; have := hc.length; omega), fun c u z => ?_, ?_⟩
            · rw [upd_ne (ne_of_none z hD)]
              exact s3 _ _ (sm _ _ z)
            · rw [upd_same, take_more hb]
          refine ⟨_, rfl, _, rfl, x, n, o, rfl, ho.same sH, fun e H3 s3 => ?_, fun ys e => ?_⟩
          · rcases hob with ⟨_, e2⟩ | ⟨ys, cs, e2, _⟩
            · have := fin H3 s3
              rw [e2] at this
              exact this
            · rw [e] at e2; cases e2
          · rcases hob with ⟨e2, _⟩ | ⟨ys', cs, e2, hcs, hl2, e3⟩
            · rw [e] at e2; cases e2
            · rw [e] at e2
              obtain rfl := Option.some.inj e2
              refine ⟨cs, hcs, hl2, fun H3 s3 => ?_⟩
              have := fin H3 s3
              rw [e3] at this
              exact this
        · rintro H1 ⟨sm, hd⟩
          rw [hc.length, List.take_length] at hd
          exact ⟨D, bs, rfl, SqL.of hd, k _ fun c u z => sm _ _ (same_new hq _ _ z)⟩
    | non =>
      refine ⟨_, PSs.nox (pss_cons (ps_if (PW.pt (pw_or (pt_not (pt_val (pe_callB call_isiT (by rfl) ii (by decide +kernel) (pa_cons (pv 0) (pa_cons (pe_tup (pa_cons (pe_bltn (v := .ty "list") (by rfl) il (by decide +kernel) rfl) (pa_cons (pe_bltn (v := .ty "tuple") (by rfl) it (by decide +kernel) rfl) pa_nil))) pa_nil)))))
            (pw_or1 (pt_cmpR op_ne (pe_callB call_len_seq (by rfl) ie boot_len (pa_cons (pv 0) pa_nil)) (pv 1) (nomark _))))) (pss_one (ps_ret pe_bl)) pss_nil)
        (pss_one (ps_ret (pe_callB (cr_all rfl) (by rfl) ia (by decide +kernel) (pa_cons (pe_lc (own := [("row", 2)]) (g := gName 2) (by rfl) nd (pi_list (pv 0)) (blkOk_by (own := [("row", 2)]) (N := ["matrix", "size", "row"]) (sc := defScope (top iSquare)) (by decide +kernel)) (fun _ _ _ _ _ => pg_name (i := 2) nd rfl (Or.inl rfl)) (fun _ _ _ _ _ => pts_nil)
          (fun _ _ _ _ _ => pe_call GI hr (by rfl) (T.df "is_row" iRow) FI.kp BI .nil pass0 (pa_cons (pv 2) (pa_cons (pv 1) pa_nil)))) pa_nil))))), ?_⟩
      refine ⟨_, rfl, (by show 2 ≤ sizeLine; decide), fun q hq => ?_⟩
      refine ⟨_, q, _, _, _, _, rfl, upd_same, .cons (.ty _) (.cons (.ty _) .nil), .base .non, kN, _, rfl, ?_⟩
      refine iteT ?_
      exact k1 rfl _ (same_new hq)
    | str z =>
      refine ⟨_, PSs.nox (pss_cons (ps_if (PW.pt (pw_or (pt_not (pt_val (pe_callB call_isiT (by rfl) ii (by decide +kernel) (pa_cons (pv 0) (pa_cons (pe_tup (pa_cons (pe_bltn (v := .ty "list") (by rfl) il (by decide +kernel) rfl) (pa_cons (pe_bltn (v := .ty "tuple") (by rfl) it (by decide +kernel) rfl) pa_nil))) pa_nil)))))
            (pw_or1 (pt_cmpR op_ne (pe_callB call_len_seq (by rfl) ie boot_len (pa_cons (pv 0) pa_nil)) (pv 1) (nomark _))))) (pss_one (ps_ret pe_bl)) pss_nil)
        (pss_one (ps_ret (pe_callB (cr_all rfl) (by rfl) ia (by decide +kernel) (pa_cons (pe_lc (own := [("row", 2)]) (g := gName 2) (by rfl) nd (pi_list (pv 0)) (blkOk_by (own := [("row", 2)]) (N := ["matrix", "size", "row"]) (sc := defScope (top iSquare)) (by decide +kernel)) (fun _ _ _ _ _ => pg_name (i := 2) nd rfl (Or.inl rfl)) (fun _ _ _ _ _ => pts_nil)
          (fun _ _ _ _ _ => pe_call GI hr (by rfl) (T.df "is_row" iRow) FI.kp BI .nil pass0 (pa_cons (pv 2) (pa_cons (pv 1) pa_nil)))) pa_nil))))), ?_⟩
      refine ⟨_, rfl, (by show 2 ≤ sizeLine; decide), fun q hq => ?_⟩
      refine ⟨_, q, _, _, _, _, rfl, upd_same, .cons (.ty _) (.cons (.ty _) .nil), .base (.str _), kS, _, rfl, ?_⟩
      refine iteT ?_
      exact k1 rfl _ (same_new hq)
/-! ### basis -/
abbrev sBasis : Stmt := inClass (top iSpace) 12
def spBasis (K : PySem.W.Frag) : Sp := fun vs H Q _ => ∃ (x : Addr) (p : Int) (n : Nat) (b : List (List Int)), vs = [.ref x] ∧ IsSp K H x p n b ∧ ∀ H' l as, Same H H' → H l = none → H' l = some (.lst (as.map V.ref)) → AreRows H' as b → Q (.ref l) H'
theorem sc_basis : FnScope ["self"] ["self"] (defScope sBasis) := ⟨rfl, rfl, rfl, by decide +kernel, rfl, by decide +kernel, by decide +kernel⟩
theorem ok_basis (F : FunD K "basis" "Space.basis" (defArgs sBasis) (defBody sBasis) (defScope sBasis) [] [] f fd) (T : Txt K mg) : FnOk P w K mg base CX0 1 f fd ["self"] (spBasis K) := by
  refine F.ok sc_basis (fun vs H Q E h => ?_) (fun cdv A outer s H vs Q E hr h => ?_)
  · obtain ⟨x, p, n, b, rfl, _⟩ := h
    rfl
  · obtain ⟨x, p, n, b, rfl, hx, k⟩ := h
    obtain ⟨dx, t, as, h1, h2, h3⟩ := hx.ob
    refine ⟨_, PSs.nox (pss_one (ps_ret (pe_callTy call_list_of (by rfl) (T.fr "list") (by decide +kernel) (pa_cons (pe_fld (pv 0) rfl) pa_nil)))), ?_⟩
    refine ⟨_, rfl, x, _, dx, _, .ref t, rfl, h1, T.cls, T.fw, rfl, t, _, rfl, .inr (SqT.of h2), fun l hl => k _ l as (same_new hl) hl upd_same (h3.same (same_new hl))⟩
end
end K7

set_option Elab.async false
set_option linter.all false
set_option maxRecDepth 100000
set_option maxHeartbeats 4000000
/-! # spaces.py: prime, length, image -/
namespace K7
open PySem PySem.Spec PyProof.Rows L2 VX RX
section
variable {P : Program} {w : World} {K : PySem.W.Frag} {mg : Str → Option Value} {base : Heap} {f : Addr} {fd : FuncData}
abbrev sP : Stmt := inClass (top iSpace) 4
abbrev sL : Stmt := inClass (top iSpace) 5
def spGetP (K : PySem.W.Frag) : Sp := fun vs H Q _ => ∃ (x : Addr) (p : Int) (n : Nat) (b : List (List Int)), vs = [.ref x] ∧ IsSp K H x p n b ∧ Q (.int p) H
def spGetL (K : PySem.W.Frag) : Sp := fun vs H Q _ => ∃ (x : Addr) (p : Int) (n : Nat) (b : List (List Int)), vs = [.ref x] ∧ IsSp K H x p n b ∧ Q (.int (n : Nat)) H
theorem sc_getp : FnScope ["self"] ["self"] (defScope sP) := ⟨rfl, rfl, rfl, by decide +kernel, rfl, by decide +kernel, by decide +kernel⟩
theorem sc_getl : FnScope ["self"] ["self"] (defScope sL) := ⟨rfl, rfl, rfl, by decide +kernel, rfl, by decide +kernel, by decide +kernel⟩
theorem ok_getp (F : FunD K "prime" "Space.prime" (defArgs sP) (defBody sP) (defScope sP) [] [] f fd) (T : Txt K mg) : FnOk P w K mg base CX0 1 f fd ["self"] (spGetP K) := by
  refine F.ok sc_getp (fun vs H Q E h => ?_) (fun cdv A outer s H vs Q E hr h => ?_)
  · obtain ⟨x, p, n, b, rfl, _⟩ := h
    rfl
  · obtain ⟨x, p, n, b, rfl, hx, k⟩ := h
    obtain ⟨dx, t, as, h1, h2, h3⟩ := hx.ob
    exact ⟨_, PSs.nox (pss_one (ps_ret (pe_fld (pv 0) rfl))), _, rfl, x, _, dx, _, .int p, rfl, h1, T.cls, T.fp, rfl, k⟩
theorem ok_getl (F : FunD K "length" "Space.length" (defArgs sL) (defBody sL) (defScope sL) [] [] f fd) (T : Txt K mg) : FnOk P w K mg base CX0 1 f fd ["self"] (spGetL K) := by
  refine F.ok sc_getl (fun vs H Q E h => ?_) (fun cdv A outer s H vs Q E hr h => ?_)
  · obtain ⟨x, p, n, b, rfl, _⟩ := h
    rfl
  · obtain ⟨x, p, n, b, rfl, hx, k⟩ := h
    obtain ⟨dx, t, as, h1, h2, h3⟩ := hx.ob
    exact ⟨_, PSs.nox (pss_one (ps_ret (pe_fld (pv 0) rfl))), _, rfl, x, _, dx, _, .int (n : Nat), rfl, h1, T.cls, T.fl, rfl, k⟩
end
end K7

set_option Elab.async false
set_option linter.all false
set_option maxRecDepth 100000
set_option maxHeartbeats 4000000
/-! # spaces.py: image -/
namespace K7
open PySem PySem.Spec PyProof.Rows L2 VX RX
section
variable {P : Program} {w : World} {K : PySem.W.Frag} {mg : Str → Option Value} {base : Heap} {f : Addr} {fd : FuncData}
/-- further facts, of the class Space and of BadMatrix -/
structure Spf (K : PySem.W.Frag) (mg : Str → Option Value) (g1 g2 : Addr) (fdP fdL' fdB fdIn : FuncData) (dv : V) : Prop where
  pp : ∃ a, PropOf K (He.ga K "Space") "prime" a g1
  pl : ∃ a, PropOf K (He.ga K "Space") "length" a g2
  fP : FunD K "prime" "Space.prime" (defArgs sP) (defBody sP) (defScope sP) [] [] g1 fdP
  fL : FunD K "length" "Space.length" (defArgs sL) (defBody sL) (defScope sL) [] [] g2 fdL'
  mb : Meth K (He.ga K "Space") "basis" (He.ma K (He.ga K "Space") "basis")
  fB : FunD K "basis" "Space.basis" (defArgs sBasis) (defBody sBasis) (defScope sBasis) [] [] (He.ma K (He.ga K "Space") "basis") fdB
  fI : FunD K "__init__" "Space.__init__" (defArgs sInit) (defBody sInit) (defScope sInit) [dv] [] (He.ma K (He.ga K "Space") "__init__") fdIn
  bm : mg "BadMatrix" = some (.ref (He.ga K "BadMatrix"))
  bx : PySem.W.excIn K (He.ga K "BadMatrix") He.veBase "ValueError.__new__" = true
  bk : PySem.W.keepIn K (.ref (He.ga K "BadMatrix")) = true
  bb : PySem.W.subIn K (.ref (He.ga K "BadMatrix")) (.type "BaseException") = some true
  bt : PySem.W.typeIn K (.ref (He.ga K "BadMatrix")) = some (.type "type")
theorem init_binds {g1 g2 : Addr} {fdP fdL' fdB fdIn : FuncData} {dv : V} (S : Spf K mg g1 g2 fdP fdL' fdB fdIn dv) : Binds K fdIn ["self", "prime", "length", "vectors"] [] := by
  obtain ⟨ds, h1, h2⟩ := S.fI.binds1 (ps := ["self", "prime", "length", "vectors"]) 4 1 (by simp) (by simp) fun T kV doc pm an cdv ct us its hl hi => by
    match us, its, hl, hi with
    | [a, b, c, d], [e], _, _ => exact ⟨_, rfl, rfl⟩
  cases h1
  exact h2
theorem areInts_rows {H : Hp} {n : Nat} : ∀ {ls : List Addr} {M : List (List Int)}, AreInts H ls M → (∀ l ∈ M, l.length = n) → n ≤ 100 → RowsV H n (ls.map V.ref) (ls.map fun _ => true)
  | _, _, .nil, _, _ => .nil
  | _, _, .cons (r := r) h t, hl, hn => .cons ⟨_, h.elim .lst .tup, .inr ⟨_, _, rfl, Cells.ints r, (by rw [List.length_map, hl r (.head _)]; omega), by
      rw [decide_eq_true (by rw [List.length_map, hl r (.head _)]), all_ints]; rfl⟩⟩ (areInts_rows t (fun l h => hl l (.tail _ h)) hn)
theorem AreInts.same {H H' : Hp} (s : Same H H') : ∀ {as : List Addr} {rs : List (List Int)}, AreInts H as rs → AreInts H' as rs
  | _, _, .nil => .nil
  | _, _, .cons h t => .cons (h.same s) (AreInts.same s t)
theorem AreRows.ints {H : Hp} : ∀ {as : List Addr} {rs : List (List Int)}, AreRows H as rs → AreInts H as rs
  | _, _, .nil => .nil
  | _, _, .cons h t => .cons (.inr h) t.ints
theorem map_modR {p : Int} {n : Nat} {rs : List (List Int)} (h : 0 < p) (hr : ∀ r ∈ rs, Row p n r) : rs.map (modR p) = rs := by
  refine (List.map_congr_left fun r h2 => ?_).trans (List.map_id rs)
  refine (List.map_congr_left fun x hx => ?_).trans (List.map_id r)
  have := (hr r h2).2 x hx
  exact Int.emod_eq_of_lt this.1 this.2
/-- a value that is no square matrix of the size n -/
def BadM (H : Hp) (n : Nat) (v : V) : Prop := ∃ o, SeqV H v o ∧ (o = none ∨ ∃ xs bs, o = some xs ∧ RowsV H n xs bs ∧ xs.length ≤ 1000 ∧ (decide (xs.length = n) && bs.all id) = false)
def spImage (K : PySem.W.Frag) : Sp := fun vs H Q E => ∃ (x : Addr) (v : V) (p : Int) (n : Nat) (b : List (List Int)), vs = [.ref x, v] ∧ IsSp K H x p n b ∧ isP p = true ∧ n ≤ 12 ∧ Rref p n b ∧
  ((BadM H n v ∧ ∀ H', Same H H' → E (.ref (He.ga K "BadMatrix")) none H') ∨
   ∃ (m : Addr) (ls : List Addr) (M : List (List Int)), v = .ref m ∧ (H m = some (.lst (ls.map V.ref)) ∨ H m = some (.tup (ls.map V.ref))) ∧ AreInts H ls M ∧ M.length = n ∧ (∀ l ∈ M, l.length = n) ∧
    ∀ H' y, Same H H' → H y = none → IsSp K H' y p n (reduced (invF p) p (b.map fun r => sentP p r M)) → Q (.ref y) H')
abbrev nM : List Str := ["space", "matrix", "rows", "row"]
theorem sc_image : FnScope nM ["space", "matrix"] (defScope (top iImage)) := ⟨rfl, rfl, rfl, by decide +kernel, rfl, by decide +kernel, by decide +kernel⟩
theorem ok_image {g1 g2 : Addr} {fdP fdL' fdB fdIn fdQ fdN : FuncData} {dv : V} {fd1 fd2 fdI fdV fdO fdL fdA fdR fdT fdJ fdD fdS fdC : FuncData} (F : FnP K "image" iImage f fd) (T : Txt K mg) (Z : Rowfs K fd1 fd2 fdI fdV fdO fdL fdA fdR fdT fdJ fdD fdS fdC) (S : Spf K mg g1 g2 fdP fdL' fdB fdIn dv)
    (FQ : FnP K "is_square" iSquare (He.ga K "is_square") fdQ) (FN : FnP K "sent" iSent (He.ga K "sent") fdN) : FnOk P w K mg base (L2.CX P w) 9 f fd ["space", "matrix"] (spImage K) := by
  have GP : FnOk P w K mg base CX0 1 _ fdP ["self"] (spGetP K) := ok_getp S.fP T
  have BP : Binds K fdP ["self"] [] := S.fP.bindsN fun _ _ _ _ _ _ us hl => match us, hl with | [_], _ => rfl
  have GL : FnOk P w K mg base CX0 1 _ fdL' ["self"] (spGetL K) := ok_getl S.fL T
  have BL : Binds K fdL' ["self"] [] := S.fL.bindsN fun _ _ _ _ _ _ us hl => match us, hl with | [_], _ => rfl
  have GB : FnOk P w K mg base CX0 1 _ fdB ["self"] (spBasis K) := ok_basis S.fB T
  have BB : Binds K fdB ["self"] [] := S.fB.bindsN fun _ _ _ _ _ _ us hl => match us, hl with | [_], _ => rfl
  have GI : FnOk P w K mg base CX0 7 _ fdIn ["self", "prime", "length", "vectors"] (spInit K) := ok_init S.fI T Z
  have BI := init_binds S
  have GQ : FnOk P w K mg base CX0 3 _ fdQ ["matrix", "size"] spSquare := ok_square FQ T Z.int Z.isrow
  have BQ : Binds K fdQ ["matrix", "size"] [] := FQ.bindsN fun _ _ _ _ _ _ us hl => match us, hl with | [_, _], _ => rfl
  have GN : FnOk P w K mg base CX0 1 _ fdN ["row", "matrix", "prime"] spSent := ok_sent FN T
  have BN : Binds K fdN ["row", "matrix", "prime"] [] := FN.bindsN fun _ _ _ _ _ _ us hl => match us, hl with | [_, _, _], _ => rfl
  obtain ⟨aP, hP⟩ := S.pp
  obtain ⟨aL, hL⟩ := S.pl
  refine F.ok sc_image (fun vs H Q E h => ?_) (fun cdv A outer s H vs Q E hr h => ?_)
  · obtain ⟨x, v, p, n, b, rfl, _⟩ := h
    rfl
  · obtain ⟨x, v, p, n, b, rfl, hx, hp, hn, hR, h⟩ := h
    have nd := sc_image.nd
    have hr1 : Room 1 _ := hr.mono (by decide)
    have hr2 : Room (1 + 1) _ := hr.mono (by decide)
    have hr3 : Room 3 _ := hr.mono (by decide)
    refine ⟨_, (pss_cons (ps_if (pt_not (pt_val (pe_call GQ hr3 (by rfl) (T.df "is_square" iSquare) FQ.kp BQ .nil pass0 (pa_cons (pv 1) (pa_cons (pe_prop (pv 0) T.cls hL GL hr2 BL .nil pass0 rfl) pa_nil)))))
          (pss_one (ps_raise rfl (takes_of rfl rfl rfl rfl) (pmk_own0 PySem.F.excBase_ValueError S.bx S.bm S.bk (raises_own S.bb S.bt) (by rfl)))) pss_nil)
      (pss_cons (ps_setLc (i := 2) (own := [("row", 3)]) (g := gName 3) (by rfl) nd rfl rfl (sw_true rfl rfl rfl (by decide +kernel)) (pi_list (pe_meth0 (pv 0) T.cls S.mb GB hr1 BB .nil pass0)) (blkOk_by (own := [("row", 3)]) (N := nM) (sc := defScope (top iImage)) (by decide +kernel)) (fun _ _ _ _ _ => pg_name (i := 3) nd rfl (Or.inl rfl)) (fun _ _ _ _ _ => pts_nil)
          (fun _ _ _ _ _ => pe_call GN hr1 (by rfl) (T.df "sent" iSent) FN.kp BN .nil pass0 (pa_cons (pv 3) (pa_cons (pv 1) (pa_cons (pe_prop (pv 0) T.cls hP GP hr2 BP .nil pass0 rfl) pa_nil)))))
      (pss_one (ps_ret (pe_make T.mks GI hr (by rfl) T.space BI .nil pass0 (pa_cons (pe_prop (pv 0) T.cls hP GP hr2 BP .nil pass0 rfl) (pa_cons (pe_prop (pv 0) T.cls hL GL hr2 BL .nil pass0 rfl) (pa_cons (pv 2) pa_nil)))))))), ?_⟩
    obtain ⟨dx, t, as, h1, h2, h3⟩ := id hx.ob
    have hq := isP_pos hp
    have h0 : 0 < p := by omega
    rcases h with ⟨⟨o, hs, ho⟩, hE⟩ | ⟨m, ls, M, rfl, hm, hls, hM, hMl, k⟩
    · refine ⟨_, rfl, _, rfl, x, dx, _, rfl, h1, x, p, n, b, rfl, hx, v, n, o, rfl, hs, fun e H1 s1 => ⟨_, rfl, iteT (hE H1 s1)⟩, fun xs e => ?_⟩
      rcases ho with rfl | ⟨xs', bs, e2, hr', hl, hf⟩
      · cases e
      · rw [e] at e2
        obtain rfl := Option.some.inj e2
        refine ⟨bs, hr', hl, fun H1 s1 => ?_⟩
        rw [hf]
        exact ⟨_, rfl, iteT (hE H1 s1)⟩
    · have hsv : SeqV H (.ref m) (some (ls.map V.ref)) := hm.elim .lst .tup
      have hll := hls.length
      refine ⟨_, rfl, _, rfl, x, dx, _, rfl, h1, x, p, n, b, rfl, hx, .ref m, n, _, rfl, hsv, (fun e => nomatch e), fun xs e => ?_⟩
      obtain rfl := Option.some.inj e
      refine ⟨_, areInts_rows hls hMl (by omega), (by rw [List.length_map]; omega), fun H1 s1 => ?_⟩
      rw [decide_eq_true (by rw [List.length_map]; omega : (ls.map V.ref).length = n), show ((ls.map fun _ => true).all id) = true by simp]
      refine ⟨_, rfl, iteF ?_⟩
      refine ⟨_, rfl, x, dx, _, rfl, s1 _ _ h1, rfl, x, p, n, b, rfl, hx.same s1, fun H2 l bs s2 _ hl2 hbs => ⟨l, rfl, ⟨_, SqL.of hl2⟩, fun D hD => lc_it (walk_list (K := K) (a := l) (xs := bs.map V.ref)) (fun i H' => Same H2 H' ∧ ∃ cs, H' D = some (.lst (cs.map V.ref)) ∧ cs.length ≤ i ∧ AreRows H' cs ((b.take i).map fun r => sentP p r M)) ⟨same_new hD, [], upd_same, Nat.le_refl _, .nil⟩ (fun i H' _ z => SqL.of (z.1 _ _ hl2)) ?_ ?_⟩⟩
      · rintro i y Ha Hb hi ⟨sm, cs, hcs, hcl, har⟩ ⟨rfl, hy⟩
        obtain ⟨a, ha, rfl⟩ := refs_at hy
        obtain ⟨r, hr', hra⟩ := hbs.get ha
        have hmem : r ∈ b := List.mem_of_getElem? hr'
        have s3 : Same H Hb := fun u z q => sm _ _ (s2 _ _ (s1 _ _ q))
        refine ⟨rfl, yes_if ?_⟩
        refine ⟨_, rfl, _, rfl, _, rfl, x, dx, _, rfl, s3 _ _ h1, x, p, n, b, rfl, hx.same s3, a, r, m, ls, M, p, n, rfl, sm _ _ hra, hm.elim (fun h => .inl (s3 _ _ h)) (fun h => .inr (s3 _ _ h)), hls.same s3, ⟨hR.rows r hmem, hq.1, by omega, by omega⟩, hM, hMl, fun H3 c s4 _ hrow => ?_⟩
        have hcs3 := s4 _ _ hcs
        have hcard := hR.card
        have hbl := hbs.length
        refine ⟨cs.map V.ref, hcs3, lt_line (by rw [List.length_map]; have := List.length_map (as := bs) V.ref; omega), fun u z q => ?_, cs ++ [c], ?_, by rw [List.length_append, List.length_singleton]; omega, ?_⟩
        · rw [upd_ne (ne_of_none q hD)]
          exact s4 _ _ (sm _ _ q)
        · rw [upd_same, List.map_append]; rfl
        · rw [take_more hr']
          exact ((har.same s4).append (.cons hrow .nil)).upd hcs3
      · rintro Ha ⟨sm, cs, hcs, hcl, har⟩
        rw [List.length_map, hbs.length, List.take_length] at har
        have s3 : Same H Ha := fun u z q => sm _ _ (s2 _ _ (s1 _ _ q))
        have hcard := hR.card
        have hrows : ∀ r ∈ b.map fun r => sentP p r M, Row p n r := fun r hr => by
          obtain ⟨q, hq2, rfl⟩ := List.mem_map.mp hr
          exact sentP_row h0 (hR.rows q hq2).1
        refine ⟨_, rfl, x, dx, _, rfl, s3 _ _ h1, x, p, n, b, rfl, hx.same s3, _, rfl, x, dx, _, rfl, s3 _ _ h1, x, p, n, b, rfl, hx.same s3, _, rfl, fun y dy hy hdy ne => ?_⟩
        have s5 : Same Ha (upd (upd Ha dy (.own y)) y (.ins (He.ga K "Space") dy [])) := same_two hdy (by rw [upd_ne (Ne.symm ne)]; exact hy)
        refine ⟨y, dy, p, n, D, cs, _, rfl, upd_same, hp, hn, s5 _ _ hcs, (har.same s5).ints, fun r hr => (hrows r hr).1, (by rw [List.length_map]; omega), fun H4 kept isp => ⟨rfl, k H4 y (fun u z q => ?_) (none_back s3 hy) ?_⟩⟩
        · have q2 := s3 _ _ q
          exact kept u z (s5 _ _ q2) (ne_of_none q2 hy)
        · rw [map_modR h0 hrows] at isp
          exact isp
end
end K7

set_option Elab.async false
set_option linter.all false
set_option maxRecDepth 100000
set_option maxHeartbeats 4000000
/-! ## the law's draws -/
namespace K7
open PySem PySem.Spec PyProof.Rows L2 VX
section
variable {P : Program} {w : World} {K : PySem.W.Frag} {mg : Str → Option Value} {base : Heap} {f : Addr} {fd : FuncData}
theorem sc_cell : FnScope ["_law_script", "_law_k"] ["_law_script", "_law_k"] (defScope (top 42)) := ⟨rfl, rfl, rfl, by decide +kernel, rfl, by decide +kernel, by decide +kernel⟩
theorem ok_cell (F : FnP K "_law_cell" 42 f fd) (T : Txt K mg) : FnOk P w K mg base CX0 1 f fd ["_law_script", "_law_k"] (spCell K) := by
  refine F.ok sc_cell (fun vs H Q E h => ?_) (fun cdv A outer s H vs Q E hr h => ⟨tCellE K, PSs.nox ?_, cellE_run h⟩)
  · obtain ⟨l, ns, j, rfl, _⟩ := h
    rfl
  · exact pss_one (ps_ret (pe_ifExp (pt_cmp (pc_lt (pv 1) (pe_callB call_len (by rfl) (T.fr "len") boot_len (pa_cons (pv 0) pa_nil)))) (pe_ix ix_seq (pv 0) (pv 1) fun _ _ => rfl) pe_int))
/-! ### _law_box -/
def spBox (K : PySem.W.Frag) : Sp := fun vs H Q _ => ∃ (l : Addr) (ns : List Int) (j : Nat), vs = [.ref l, .int j] ∧ SqL K H l (ns.map V.int) ∧ ∀ p, H p = none → Q (.ref p) (upd H p (.lst [.int (cellOf ns j).natAbs, .int 0, .int (40503 * (j : Int) + 911)]))
theorem sc_box : FnScope ["_law_script", "_law_k"] ["_law_script", "_law_k"] (defScope (top 43)) := ⟨rfl, rfl, rfl, by decide +kernel, rfl, by decide +kernel, by decide +kernel⟩
theorem ok_box {fd1 : FuncData} (F : FnP K "_law_box" 43 f fd) (T : Txt K mg) (F1 : FnP K "_law_cell" 42 (He.ga K "_law_cell") fd1) : FnOk P w K mg base CX0 2 f fd ["_law_script", "_law_k"] (spBox K) := by
  have G1 : FnOk P w K mg base CX0 1 _ fd1 ["_law_script", "_law_k"] (spCell K) := ok_cell F1 T
  have B1 : Binds K fd1 ["_law_script", "_law_k"] [] := F1.bindsN fun _ _ _ _ _ _ us hl => match us, hl with | [_, _], _ => rfl
  refine F.ok sc_box (fun vs H Q E h => ?_) (fun cdv A outer s H vs Q E hr h => ?_)
  · obtain ⟨l, ns, j, rfl, _⟩ := h
    rfl
  · obtain ⟨l, ns, j, rfl, hs, k⟩ := h
    refine ⟨_, PSs.nox (pss_one (ps_ret (pe_lst (pa_cons (pe_callB call_abs (by rfl) (T.fr "abs") (by decide +kernel) (pa_cons (pe_callTy call_int1 (by rfl) (T.fr "int") boot_int
      (pa_cons (pe_call G1 hr (by rfl) (T.df "_law_cell" 42) F1.kp B1 .nil pass0 (pa_cons (pv 0) (pa_cons (pv 1) pa_nil))) pa_nil)) pa_nil)) (pa_cons pe_int (pa_cons (pe_op op_add (pe_op op_mul pe_int (pv 1)) pe_int) pa_nil)))))), ?_⟩
    refine ⟨_, rfl, _, rfl, l, ns, j, rfl, hs, .inl ⟨_, rfl, _, rfl, _, rfl, _, _, rfl, rfl, .inl ⟨by decide, by decide⟩, _, _, rfl, rfl, (by show 3 ≤ sizeLine; decide), fun p hp => ?_⟩⟩
    have e : (if cellOf ns j < 0 then -cellOf ns j else cellOf ns j) = ((cellOf ns j).natAbs : Int) := by
      by_cases h : cellOf ns j < 0
      · rw [if_pos h]; omega
      · rw [if_neg h]; omega
    rw [e]
    exact k p hp
/-! ### _law_take -/
theorem pw_ok {i : Int} (h0 : 0 ≤ i) (h1 : i < 2 ^ 90) : CPw i 3 := by
  refine ⟨by decide, ?_⟩
  have h : Builtin.Int.intBits i ≤ 90 := intBits_le (by omega)
  have h2 : (Builtin.Int.intBits i : Int) ≤ 90 := by exact_mod_cast h
  omega
def spTake : Sp := fun vs H Q _ => ∃ (b : Addr) (m x y z : Int), vs = [.ref b, .int m] ∧ H b = some (.lst [.int x, .int y, .int z]) ∧ 0 ≤ x ∧ 0 ≤ y ∧ y ≤ 1000000 ∧ 0 ≤ z ∧ z ≤ 100000000 ∧ 0 < m ∧ m ≤ 1000000000 ∧
  ∀ d x' y', 0 ≤ d → d < m → 0 ≤ x' → x' ≤ x → y ≤ y' → y' ≤ y + 1 → Q (.int d) (upd H b (.lst [.int x', .int y', .int z]))
theorem sc_take : FnScope ["_law_box_here", "_law_many", "_law_digit", "_law_mixed"] ["_law_box_here", "_law_many"] (defScope (top 44)) := ⟨rfl, rfl, rfl, by decide +kernel, rfl, by decide +kernel, by decide +kernel⟩
theorem ok_take (F : FnP K "_law_take" 44 f fd) (T : Txt K mg) : FnOk P w K mg base CX0 1 f fd ["_law_box_here", "_law_many"] spTake := by
  refine F.ok sc_take (fun vs H Q E h => ?_) (fun cdv A outer s H vs Q E hr h => ?_)
  · obtain ⟨b, m, x, y, z, rfl, _⟩ := h
    rfl
  · obtain ⟨b, m, x, y, z, rfl, hb, x0, y0, y1, z0, z1, m0, m1, k⟩ := h
    have i0 := T.fr "int"
    refine ⟨_, PSs.nox (pss_cons (ps_if (pt_cmpR op_ge (pe_ix ix_list (pv 0) pe_int (fun _ _ => rfl)) (pe_op op_pow pe_int pe_int) (nomark _))
        (pss_cons (ps_set (i := 2) sc_take.nd rfl (Or.inl rfl) (pe_op op_mod (pe_callTy call_int1 (by rfl) i0 boot_int (pa_cons (pe_ix ix_list (pv 0) pe_int (fun _ _ => rfl)) pa_nil)) (pv 1)))
        (pss_cons (ps_asg (pe_op op_fdiv (pe_ix ix_list (pv 0) pe_int (fun _ _ => rfl)) (pv 1)) (pg_sub (pv 0) pe_int set_list))
        (pss_one (ps_ret (pv 2))))) pss_nil)
      (pss_cons (ps_asg (pe_op op_add (pe_ix ix_list (pv 0) pe_int (fun _ _ => rfl)) pe_int) (pg_sub (pv 0) pe_int set_list))
      (pss_cons (ps_set (i := 3) sc_take.nd rfl (Or.inl rfl) (pe_op op_mod (pe_op op_pw (pe_callTy call_int1 (by rfl) i0 boot_int (pa_cons (pe_op op_add (pe_op op_add (pe_op op_mul (pe_op op_add (pe_ix ix_list (pv 0) pe_int (fun _ _ => rfl)) pe_int) pe_int)
          (pe_op op_mul (pe_ix ix_list (pv 0) pe_int (fun _ _ => rfl)) pe_int)) (pe_ix ix_list (pv 0) pe_int (fun _ _ => rfl))) pa_nil)) pe_int) pe_int))
      (pss_cons (ps_set (i := 3) sc_take.nd rfl (Or.inl rfl) (pe_op op_mod (pe_op op_pw (pe_callTy call_int1 (by rfl) i0 boot_int (pa_cons (pe_op op_add (pv 3) (pe_op op_mul (pe_ix ix_list (pv 0) pe_int (fun _ _ => rfl)) pe_int)) pa_nil)) pe_int) pe_int))
      (pss_one (ps_ret (pe_op op_mod (pe_callTy call_int1 (by rfl) i0 boot_int (pa_cons (pe_op op_fdiv (pv 3) pe_int) pa_nil)) (pv 1)))))))), ?_⟩
    refine ⟨_, rfl, b, _, _, _, rfl, rfl, SqL.of hb, rfl, _, _, rfl, rfl, ⟨by decide, by decide, by decide⟩, _, _, rfl, rfl, _, rfl, ?_⟩
    refine ite2 (fun c => ?_) (fun c => ?_)
    · refine ⟨_, rfl, b, _, _, _, rfl, rfl, SqL.of hb, rfl, .inl ⟨_, rfl, _, rfl, _, _, rfl, rfl, m0, ?_⟩⟩
      refine ⟨_, rfl, b, _, _, _, rfl, rfl, SqL.of hb, rfl, _, rfl, _, _, rfl, rfl, ⟨m0, by omega⟩, ?_⟩
      refine ⟨_, rfl, b, _, _, 0, rfl, rfl, hb, rfl, _, rfl, ?_⟩
      have d0 : 0 ≤ x % m := Int.emod_nonneg x (by omega)
      have d1 : x % m < m := Int.emod_lt_of_pos x m0
      have q0 : 0 ≤ x / m := Int.ediv_nonneg x0 (by omega)
      have q1 : x / m ≤ x := Int.ediv_le_self m x0
      exact k (x % m) (x / m) y d0 d1 q0 q1 (by omega) (by omega)
    · have c' : x < 10 ^ 18 := by simpa using c
      refine ⟨_, rfl, b, _, _, _, rfl, rfl, SqL.of hb, rfl, _, _, rfl, rfl, ?_⟩
      refine ⟨_, rfl, b, _, _, 1, rfl, rfl, hb, rfl, ?_⟩
      have h1 : upd H b (.lst (([V.int x, V.int y, V.int z] : List V).set 1 (V.int (y + 1)))) b = some (.lst [.int x, .int (y + 1), .int z]) := upd_same
      refine ⟨_, rfl, b, _, _, _, rfl, rfl, SqL.of h1, rfl, _, _, rfl, rfl, _, _, rfl, rfl, .inr ⟨by decide, by decide⟩, _, rfl, b, _, _, _, rfl, rfl, SqL.of h1, rfl, _, _, rfl, rfl, .inr ⟨by decide, by decide⟩, _, _, rfl, rfl, _, rfl, b, _, _, _, rfl, rfl, SqL.of h1, rfl, _, _, rfl, rfl, .inl ⟨_, rfl, _, _, rfl, rfl, pw_ok (by omega) (by omega), _, _, rfl, rfl, (by show (0 : Int) < 2147483647; decide), ?_⟩⟩
      refine ⟨_, rfl, _, rfl, b, _, _, _, rfl, rfl, SqL.of h1, rfl, _, _, rfl, rfl, .inr ⟨by decide, by decide⟩, _, _, rfl, rfl, .inl ⟨_, rfl, _, _, rfl, rfl, ?_, _, _, rfl, rfl, (by show (0 : Int) < 2147483399; decide), ?_⟩⟩
      · have a0 := Int.emod_nonneg (((x + 7) * 69069 + (y + 1) * 40692 + z) ^ Int.toNat 3) (show (2147483647 : Int) ≠ 0 by decide)
        have a1 := Int.emod_lt_of_pos (((x + 7) * 69069 + (y + 1) * 40692 + z) ^ Int.toNat 3) (show (0 : Int) < 2147483647 by decide)
        exact pw_ok (by omega) (by omega)
      · refine ⟨_, rfl, _, _, rfl, rfl, ⟨by decide, by decide⟩, .inl ⟨_, rfl, _, rfl, _, _, rfl, rfl, m0, ?_⟩⟩
        exact k _ x (y + 1) (Int.emod_nonneg _ (by omega)) (Int.emod_lt_of_pos _ m0) x0 (Int.le_refl x) (by omega) (by omega)
end
end K7

set_option Elab.async false
set_option linter.all false
set_option maxRecDepth 100000
set_option maxHeartbeats 4000000
/-! # the law's draws: frame, vector, rows -/
namespace K7
open PySem PySem.Spec PyProof.Rows L2 VX RX
section
variable {P : Program} {w : World} {K : PySem.W.Frag} {mg : Str → Option Value} {base : Heap} {f : Addr} {fd : FuncData}
/-- the box, of which at most N numbers were mixed -/
def BoxK (H : Hp) (b : Addr) (N : Nat) : Prop := ∃ x y z : Int, H b = some (.lst [.int x, .int y, .int z]) ∧ 0 ≤ x ∧ 0 ≤ y ∧ y ≤ N ∧ 0 ≤ z ∧ z ≤ 100000000
/-- all else stands -/
def Kept (b : Addr) (H H' : Hp) : Prop := ∀ c o, H c = some o → c ≠ b → H' c = some o
theorem Kept.refl {b : Addr} {H : Hp} : Kept b H H := fun _ _ h _ => h
theorem Kept.trans {b : Addr} {H H' H'' : Hp} (k : Kept b H H') (q : Kept b H' H'') : Kept b H H'' := fun c o h n => q c o (k c o h n) n
theorem Kept.of {b : Addr} {H H' : Hp} (s : Same H H') : Kept b H H' := fun c o h _ => s c o h
theorem BoxK.same {H H' : Hp} {b : Addr} {N : Nat} (s : Same H H') (h : BoxK H b N) : BoxK H' b N := by
  obtain ⟨x, y, z, hb, r⟩ := h
  exact ⟨x, y, z, s _ _ hb, r⟩
theorem BoxK.at {H : Hp} {b : Addr} {N : Nat} (h : BoxK H b N) : ∃ xs, H b = some (.lst xs) := let ⟨_, _, _, hb, _⟩ := h; ⟨_, hb⟩
theorem take_use {H : Hp} {b : Addr} {N : Nat} {m : Int} {Q : VK} {E : XK} (h : BoxK H b N) (hN : N ≤ 900000) (m0 : 0 < m) (m1 : m ≤ 1000000000)
    (k : ∀ d H', 0 ≤ d → d < m → Kept b H H' → BoxK H' b (N + 1) → (∀ c, H c = none → H' c = none) → Q (.int d) H') : spTake [.ref b, .int m] H Q E := by
  obtain ⟨x, y, z, hb, x0, y0, yN, z0, z1⟩ := h
  refine ⟨b, m, x, y, z, rfl, hb, x0, y0, by omega, z0, z1, m0, m1, fun d x' y' d0 d1 x0' x1' y1 y2 => k d _ d0 d1 (fun c o q ne => by rw [upd_ne ne]; exact q) ⟨x', y', z, upd_same, x0', by omega, by omega, z0, z1⟩ fun c hc => ?_⟩
  rw [upd_ne (fun e => by rw [e, hb] at hc; cases hc)]
  exact hc
/-! ### _law_frame -/
theorem prime_at {d : Int} (h0 : 0 ≤ d) (h1 : d < 8) : ∃ p, atI [V.int 2, .int 2, .int 3, .int 2, .int 5, .int 7, .int 11, .int 13] d = some (.int p) ∧ isP p = true := by
  obtain ⟨k, rfl⟩ : ∃ k : Nat, d = (k : Int) := ⟨d.toNat, by omega⟩
  have hk : k < 8 := by omega
  match k, hk with
  | 0, _ => exact ⟨2, rfl, rfl⟩
  | 1, _ => exact ⟨2, rfl, rfl⟩
  | 2, _ => exact ⟨3, rfl, rfl⟩
  | 3, _ => exact ⟨2, rfl, rfl⟩
  | 4, _ => exact ⟨5, rfl, rfl⟩
  | 5, _ => exact ⟨7, rfl, rfl⟩
  | 6, _ => exact ⟨11, rfl, rfl⟩
  | 7, _ => exact ⟨13, rfl, rfl⟩
theorem less_at {d : Int} (h0 : 0 ≤ d) (h1 : d < 8) : ∃ q, atI [V.int 0, .int 0, .int 1, .int 2, .int 0, .int 3, .int 1, .int 0] d = some (.int q) ∧ 0 ≤ q ∧ q ≤ 3 := by
  obtain ⟨k, rfl⟩ : ∃ k : Nat, d = (k : Int) := ⟨d.toNat, by omega⟩
  have hk : k < 8 := by omega
  match k, hk with
  | 0, _ => exact ⟨0, rfl, by decide, by decide⟩
  | 1, _ => exact ⟨0, rfl, by decide, by decide⟩
  | 2, _ => exact ⟨1, rfl, by decide, by decide⟩
  | 3, _ => exact ⟨2, rfl, by decide, by decide⟩
  | 4, _ => exact ⟨0, rfl, by decide, by decide⟩
  | 5, _ => exact ⟨3, rfl, by decide, by decide⟩
  | 6, _ => exact ⟨1, rfl, by decide, by decide⟩
  | 7, _ => exact ⟨0, rfl, by decide, by decide⟩
abbrev nF : List Str := ["_law_box_here", "_law_most", "_law_p", "_law_n", "_law_room", "_law_less"]
def spFrame : Sp := fun vs H Q _ => ∃ (b : Addr) (N : Nat) (most : Int), vs = [.ref b, .int most] ∧ BoxK H b N ∧ N ≤ 800000 ∧ 0 ≤ most ∧ most ≤ 1000000 ∧
  ∀ H' l p (n : Nat), Kept b H H' → BoxK H' b (N + 2) → isP p = true → n ≤ 6 → p ^ n ≤ 1000000 → H l = none → H' l = some (.lst [.int p, .int n]) → Q (.ref l) H'
theorem pow_up {p : Int} {a b : Nat} (h : 1 ≤ p) (l : a ≤ b) : p ^ a ≤ p ^ b := by
  obtain ⟨k, rfl⟩ := Nat.exists_eq_add_of_le l
  rw [Int.pow_add]
  have h1 : 0 < p ^ a := Int.pow_pos (by omega)
  have h2 : 0 < p ^ k := Int.pow_pos (by omega)
  calc p ^ a = p ^ a * 1 := (Int.mul_one _).symm
    _ ≤ p ^ a * p ^ k := Int.mul_le_mul_of_nonneg_left (by omega) (by omega)
theorem room_one {p room most n : Int} (h : 1 ≤ p) (c : 0 < room) (n0 : 0 ≤ n) (w : p ^ (n.toNat + 1) * room ≤ most) : p ^ (n + 1).toNat ≤ most := by
  have e : (n + 1).toNat = n.toNat + 1 := by omega
  rw [e]
  have h1 : 0 < p ^ (n.toNat + 1) := Int.pow_pos (by omega)
  refine Int.le_trans ?_ w
  calc p ^ (n.toNat + 1) = p ^ (n.toNat + 1) * 1 := (Int.mul_one _).symm
    _ ≤ p ^ (n.toNat + 1) * room := Int.mul_le_mul_of_nonneg_left (by omega) (by omega)
theorem room_step {p room most n : Int} (h : 1 ≤ p) (n0 : 0 ≤ n) (w : p ^ (n.toNat + 1) * room ≤ most) : p ^ ((n + 1).toNat + 1) * (room / p) ≤ most := by
  have e : (n + 1).toNat = n.toNat + 1 := by omega
  rw [e]
  have h1 : 0 < p ^ (n.toNat + 1) := Int.pow_pos (by omega)
  refine Int.le_trans ?_ w
  rw [Int.pow_succ p (n.toNat + 1), Int.mul_assoc]
  exact Int.mul_le_mul_of_nonneg_left (Int.mul_ediv_self_le (by omega)) (by omega)
theorem sc_frame : FnScope nF ["_law_box_here", "_law_most"] (defScope (top 45)) := ⟨rfl, rfl, rfl, by decide +kernel, rfl, by decide +kernel, by decide +kernel⟩
theorem ok_frame {fdT : FuncData} (F : FnP K "_law_frame" 45 f fd) (T : Txt K mg) (FT : FnP K "_law_take" 44 (He.ga K "_law_take") fdT) : FnOk P w K mg base CX0 2 f fd ["_law_box_here", "_law_most"] spFrame := by
  have GT : FnOk P w K mg base CX0 1 _ fdT ["_law_box_here", "_law_many"] spTake := ok_take FT T
  have BT : Binds K fdT ["_law_box_here", "_law_many"] [] := FT.bindsN fun _ _ _ _ _ _ us hl => match us, hl with | [_, _], _ => rfl
  refine F.ok sc_frame (fun vs H Q E h => ?_) (fun cdv A outer s H vs Q E hr h => ?_)
  · obtain ⟨b, N, most, rfl, _⟩ := h
    rfl
  · obtain ⟨b, N, most, rfl, hb, hN, m0, m1, k⟩ := h
    have nd := sc_frame.nd
    refine ⟨_, PSs.nox (pss_cons (ps_set (i := 2) nd rfl (.inl rfl) (pe_ix ix_list (pe_lst (pa_cons pe_int (pa_cons pe_int (pa_cons pe_int (pa_cons pe_int (pa_cons pe_int (pa_cons pe_int (pa_cons pe_int (pa_cons pe_int pa_nil))))))))) (pe_call GT hr (by rfl) (T.df "_law_take" 44) FT.kp BT .nil pass0 (pa_cons (pv 0) (pa_cons pe_int pa_nil))) (fun _ _ => rfl)))
      (pss_cons (ps_set (i := 3) nd rfl (.inl rfl) pe_int)
      (pss_cons (ps_set (i := 4) nd rfl (.inl rfl) (pe_op op_fdiv (pv 1) (pv 2)))
      (pss_cons (ps_while PassesOwn.never (PW.pt (pw_and (pt_cmpR op_gt (pv 4) pe_int (nomark _)) (pw_and1 (pt_cmpR op_lt (pv 3) pe_int (nomark _)))))
          (pss_cons (ps_set (i := 3) nd rfl (.inl rfl) (pe_op op_add (pv 3) pe_int)) (pss_one (ps_set (i := 4) nd rfl (.inl rfl) (pe_op op_fdiv (pv 4) (pv 2))))))
      (pss_cons (ps_set (i := 5) nd rfl (.inl rfl) (pe_ix ix_list (pe_lst (pa_cons pe_int (pa_cons pe_int (pa_cons pe_int (pa_cons pe_int (pa_cons pe_int (pa_cons pe_int (pa_cons pe_int (pa_cons pe_int pa_nil))))))))) (pe_call GT hr (by rfl) (T.df "_law_take" 44) FT.kp BT .nil pass0 (pa_cons (pv 0) (pa_cons pe_int pa_nil))) (fun _ _ => rfl)))
      (pss_one (ps_ret (pe_lst (pa_cons (pv 2) (pa_cons (pe_ifExp (pt_cmpR op_gt (pv 3) (pv 5) (nomark _)) (pe_op op_sub (pv 3) (pv 5)) pe_int) pa_nil)))))))))), ?_⟩
    refine ⟨(by show 8 ≤ sizeLine; decide), fun l0 hl0 => ⟨_, rfl, ?_⟩⟩
    dsimp only [tCons, tC, tNil, List.append_nil]
    refine take_use (m := 8) (hb.same (same_new hl0)) (by omega) (by decide) (by decide) fun d H1 d0 d1 kp1 bx1 _ => ?_
    have n0 : l0 ≠ b := fun e => by obtain ⟨xs, hx⟩ := hb.at; rw [e, hx] at hl0; cases hl0
    obtain ⟨p, hpa, hp⟩ := prime_at d0 d1
    have hq := isP_pos hp
    have ka : Kept b H H1 := (Kept.of (same_new hl0)).trans kp1
    refine ⟨l0, _, _, _, rfl, rfl, SqL.of (kp1 _ _ upd_same n0), hpa, ?_⟩
    refine ⟨_, rfl, _, rfl, _, _, rfl, rfl, ⟨by omega, by omega⟩, ?_⟩
    refine ⟨fun m σ H' => ∃ n room : Int, σ = [some (.ref b), some (.int most), some (.int p), some (.int n), some (.int room), none] ∧ H' = H1 ∧ 0 ≤ n ∧ n ≤ 6 ∧ 0 ≤ room ∧ m = (6 - n).toNat ∧ p ^ n.toNat ≤ 1000000 ∧ p ^ (n.toNat + 1) * room ≤ most, ⟨_, 0, most / p, rfl, rfl, by decide, by decide, Int.ediv_nonneg m0 (by omega), rfl, by show p ^ 0 ≤ 1000000; rw [Int.pow_zero]; decide, by show p ^ 1 * (most / p) ≤ most; rw [Int.pow_succ, Int.pow_zero, Int.one_mul]; exact Int.mul_ediv_self_le (by omega)⟩, ?_⟩
    rintro m σ H' ⟨n, room, rfl, rfl, n0', n6, r0, rfl, w1, w2⟩
    refine ⟨_, rfl, _, _, rfl, rfl, _, rfl, ?_⟩
    refine ite2 (fun c1 => ?_) (fun c1 => ?_)
    · refine ⟨_, rfl, _, _, rfl, rfl, _, rfl, ?_⟩
      refine ite2 (fun c2 => ?_) (fun c2 => ?_)
      · have c2' : n < 6 := by simpa using c2
        refine ⟨fun σ G => ∃ n' room : Int, σ = [some (.ref b), some (.int most), some (.int p), some (.int n'), some (.int room), none] ∧ G = H' ∧ n' = n + 1 ∧ 0 ≤ room ∧ p ^ (n + 1).toNat ≤ 1000000 ∧ p ^ ((n + 1).toNat + 1) * room ≤ most, fun σ G h => ?_, ?_⟩
        · obtain ⟨n', room', rfl, rfl, rfl, r0', w3, w4⟩ := h
          exact ⟨(6 - (n + 1)).toNat, by omega, n + 1, room', rfl, rfl, by omega, by omega, r0', rfl, w3, w4⟩
        · exact ⟨_, rfl, _, _, rfl, rfl, _, rfl, _, rfl, _, _, rfl, rfl, ⟨by omega, by omega⟩, n + 1, room / p, rfl, rfl, rfl, Int.ediv_nonneg r0 (by omega), Int.le_trans (room_one (by omega) (by simpa using c1) n0' w2) m1, room_step (by omega) n0' w2⟩
      · skip
        refine ⟨(by show 8 ≤ sizeLine; decide), fun l1 hl1 => ⟨_, rfl, ?_⟩⟩
        have ne1 : l1 ≠ b := fun e => by obtain ⟨xs, hx⟩ := bx1.at; rw [e, hx] at hl1; cases hl1
        dsimp only [tCons, tC, tNil, List.append_nil]
        refine take_use (m := 8) (bx1.same (same_new hl1)) (by omega) (by decide) (by decide) fun d2 H2 d20 d21 kp2 bx2 nn2 => ?_
        obtain ⟨q, hqa, q0, q3⟩ := less_at d20 d21
        have kb : Kept b H H2 := (ka.trans (Kept.of (same_new hl1))).trans kp2
        refine ⟨l1, _, _, _, rfl, rfl, SqL.of (kp2 _ _ upd_same ne1), hqa, ?_⟩
        have out : ∀ r : Int, 0 ≤ r → r ≤ n → ∀ l, H2 l = none → Q (.ref l) (upd H2 l (.lst [.int p, .int r])) := fun r r0 r6 l hl => by
          have nb : l ≠ b := fun e => by obtain ⟨xs, hx⟩ := bx2.at; rw [e, hx] at hl; cases hl
          have er : r = ((r.toNat : Nat) : Int) := by omega
          have hH : H l = none := by
            cases eH : H l with
            | none => rfl
            | some o => rw [kb _ _ eH nb] at hl; cases hl
          exact k _ l p r.toNat (kb.trans (Kept.of (same_new hl))) (bx2.same (same_new hl)) hp (by omega) (Int.le_trans (pow_up (by omega) (by omega)) w1) hH (by rw [upd_same, ← er])
        refine ⟨_, rfl, _, rfl, _, rfl, _, _, rfl, rfl, _, rfl, ?_⟩
        refine ite2 (fun c => ?_) (fun c => ?_)
        · have c' : q < n := by simpa using c
          refine ⟨_, rfl, _, rfl, _, _, rfl, rfl, (by show 2 ≤ sizeLine; decide), fun l hl => out _ (by omega) (by omega) l hl⟩
        · refine ⟨(by show 2 ≤ sizeLine; decide), fun l hl => out 0 (by omega) (by omega) l hl⟩
    · skip
      refine ⟨(by show 8 ≤ sizeLine; decide), fun l1 hl1 => ⟨_, rfl, ?_⟩⟩
      have ne1 : l1 ≠ b := fun e => by obtain ⟨xs, hx⟩ := bx1.at; rw [e, hx] at hl1; cases hl1
      dsimp only [tCons, tC, tNil, List.append_nil]
      refine take_use (m := 8) (bx1.same (same_new hl1)) (by omega) (by decide) (by decide) fun d2 H2 d20 d21 kp2 bx2 nn2 => ?_
      obtain ⟨q, hqa, q0, q3⟩ := less_at d20 d21
      have kb : Kept b H H2 := (ka.trans (Kept.of (same_new hl1))).trans kp2
      refine ⟨l1, _, _, _, rfl, rfl, SqL.of (kp2 _ _ upd_same ne1), hqa, ?_⟩
      have out : ∀ r : Int, 0 ≤ r → r ≤ n → ∀ l, H2 l = none → Q (.ref l) (upd H2 l (.lst [.int p, .int r])) := fun r r0 r6 l hl => by
        have nb : l ≠ b := fun e => by obtain ⟨xs, hx⟩ := bx2.at; rw [e, hx] at hl; cases hl
        have er : r = ((r.toNat : Nat) : Int) := by omega
        have hH : H l = none := by
          cases eH : H l with
          | none => rfl
          | some o => rw [kb _ _ eH nb] at hl; cases hl
        exact k _ l p r.toNat (kb.trans (Kept.of (same_new hl))) (bx2.same (same_new hl)) hp (by omega) (Int.le_trans (pow_up (by omega) (by omega)) w1) hH (by rw [upd_same, ← er])
      refine ⟨_, rfl, _, rfl, _, rfl, _, _, rfl, rfl, _, rfl, ?_⟩
      refine ite2 (fun c => ?_) (fun c => ?_)
      · have c' : q < n := by simpa using c
        refine ⟨_, rfl, _, rfl, _, _, rfl, rfl, (by show 2 ≤ sizeLine; decide), fun l hl => out _ (by omega) (by omega) l hl⟩
      · refine ⟨(by show 2 ≤ sizeLine; decide), fun l hl => out 0 (by omega) (by omega) l hl⟩
end
end K7

set_option Elab.async false
set_option linter.all false
set_option maxRecDepth 100000
set_option maxHeartbeats 4000000
/-! # the law's draws: vector -/
namespace K7
open PySem PySem.Spec PyProof.Rows L2 VX RX
section
variable {P : Program} {w : World} {K : PySem.W.Frag} {mg : Str → Option Value} {base : Heap} {f : Addr} {fd : FuncData}
abbrev nV : List Str := ["_law_box_here", "_law_p", "_law_n", "_law_far", "_law_k"]
def spVec : Sp := fun vs H Q _ => ∃ (b : Addr) (N : Nat) (p : Int) (n : Nat), vs = [.ref b, .int p, .int n] ∧ BoxK H b N ∧ N ≤ 800000 ∧ isP p = true ∧ n ≤ 12 ∧
  ∀ H' l (xs : List Int), Kept b H H' → BoxK H' b (N + 1 + 2 * n) → H l = none → H' l = some (.lst (xs.map V.int)) → xs.length = n → (∀ x ∈ xs, x.natAbs < 2 ^ 80) → Q (.ref l) H'
theorem sc_vec : FnScope nV ["_law_box_here", "_law_p", "_law_n"] (defScope (top 46)) := ⟨rfl, rfl, rfl, by decide +kernel, rfl, by decide +kernel, by decide +kernel⟩
theorem far_at {a b c : Int} {d : Int} (h0 : 0 ≤ d) (h1 : d < 3) : ∃ q, atI [V.int a, .int b, .int c] d = some (.int q) ∧ (q = a ∨ q = b ∨ q = c) := by
  obtain ⟨k, rfl⟩ : ∃ k : Nat, d = (k : Int) := ⟨d.toNat, by omega⟩
  have hk : k < 3 := by omega
  match k, hk with
  | 0, _ => exact ⟨a, rfl, .inl rfl⟩
  | 1, _ => exact ⟨b, rfl, .inr (.inl rfl)⟩
  | 2, _ => exact ⟨c, rfl, .inr (.inr rfl)⟩
theorem Kept.none {b l : Addr} {H H' : Hp} (k : Kept b H H') (nb : l ≠ b) (h : H' l = none) : H l = none := by
  cases e : H l with
  | none => rfl
  | some o => rw [k _ _ e nb] at h; cases h
theorem BoxK.ne {H : Hp} {b l : Addr} {N : Nat} (h : BoxK H b N) (hl : H l = none) : l ≠ b := fun e => by
  obtain ⟨xs, hx⟩ := h.at
  rw [e, hx] at hl
  cases hl
theorem far_small {q : Int} (h : q = 0 ∨ q = 1 ∨ q = 10 ^ (20 : Int).toNat) : 0 ≤ q ∧ q ≤ 100000000000000000000 := by
  rcases h with rfl | rfl | rfl
  · decide
  · decide
  · decide +kernel
theorem vec_small {p d e q : Int} (h2 : 2 ≤ p) (h13 : p ≤ 13) (d0 : 0 ≤ d) (d1 : d < p) (e0 : 0 ≤ e) (e1 : e < 3) (h : 0 ≤ q ∧ q ≤ 100000000000000000000) : (d + p * (e - 1) * q).natAbs < 2 ^ 80 := by
  have a : 0 ≤ p * q := Int.mul_nonneg (by omega) h.1
  have b : p * q ≤ 13 * 100000000000000000000 := Int.mul_le_mul h13 h.2 h.1 (by omega)
  have c : e = 0 ∨ e = 1 ∨ e = 2 := by omega
  rcases c with rfl | rfl | rfl
  · have z : p * (0 - 1) * q = -(p * q) := by
      show p * (-1) * q = _
      rw [Int.mul_neg, Int.mul_one, Int.neg_mul]
    rw [z]; omega
  · have z : p * (1 - 1) * q = 0 := by simp
    rw [z]; omega
  · have z : p * (2 - 1) * q = p * q := by
      show p * 1 * q = _
      rw [Int.mul_one]
    rw [z]; omega
theorem ok_vec {fdT : FuncData} (F : FnP K "_law_vector" 46 f fd) (T : Txt K mg) (FT : FnP K "_law_take" 44 (He.ga K "_law_take") fdT) : FnOk P w K mg base CX0 2 f fd ["_law_box_here", "_law_p", "_law_n"] spVec := by
  have GT : FnOk P w K mg base CX0 1 _ fdT ["_law_box_here", "_law_many"] spTake := ok_take FT T
  have BT : Binds K fdT ["_law_box_here", "_law_many"] [] := FT.bindsN fun _ _ _ _ _ _ us hl => match us, hl with | [_, _], _ => rfl
  refine F.ok sc_vec (fun vs H Q E h => ?_) (fun cdv A outer s H vs Q E hr h => ?_)
  · obtain ⟨b, N, p, n, rfl, _⟩ := h
    rfl
  · obtain ⟨b, N, p, n, rfl, hb, hN, hp, hn, k⟩ := h
    have nd := sc_vec.nd
    have hq := isP_pos hp
    refine ⟨_, PSs.nox (pss_cons (ps_set (i := 3) nd rfl (.inr rfl) (pe_ix ix_list (pe_lst (pa_cons pe_int (pa_cons pe_int (pa_cons (pe_op op_pow pe_int pe_int) pa_nil)))) (pe_call GT hr (by rfl) (T.df "_law_take" 44) FT.kp BT .nil pass0 (pa_cons (pv 0) (pa_cons pe_int pa_nil))) (fun _ _ => rfl)))
      (pss_one (ps_ret (pe_lc (own := [("_law_k", 4)]) (g := gName 4) (by rfl) nd (pi_range1 (by rfl) (T.fr "range") (pa_cons (pv 2) pa_nil)) (blkOk_by (own := [("_law_k", 4)]) (N := nV) (sc := defScope (top 46)) (by decide +kernel)) (fun _ _ _ _ _ => pg_name (i := 4) nd rfl (Or.inl rfl)) (fun _ _ _ _ _ => pts_nil)
        (fun _ _ _ _ _ => pe_op op_add (pe_call GT hr (by rfl) (T.df "_law_take" 44) FT.kp BT .nil pass0 (pa_cons (pv 0) (pa_cons (pv 1) pa_nil))) (pe_op op_mul (pe_op op_mul (pv 1) (pe_op op_sub (pe_call GT hr (by rfl) (T.df "_law_take" 44) FT.kp BT .nil pass0 (pa_cons (pv 0) (pa_cons pe_int pa_nil))) pe_int)) (pv 3))))))), ?_⟩
    refine ⟨_, _, rfl, rfl, ⟨by decide, by decide, by decide⟩, (by show 3 ≤ sizeLine; decide), fun l0 hl0 => ⟨_, rfl, ?_⟩⟩
    dsimp only [tCons, tC, tNil, List.append_nil]
    refine take_use (m := 3) (hb.same (same_new hl0)) (by omega) (by decide) (by decide) fun d H1 d0 d1 kp1 bx1 _ => ?_
    have ne0 := hb.ne hl0
    have ka : Kept b H H1 := (Kept.of (same_new hl0)).trans kp1
    obtain ⟨far, hfa, hfr⟩ := far_at (a := 0) (b := 1) (c := 10 ^ (20 : Int).toNat) d0 d1
    refine ⟨l0, _, _, _, rfl, rfl, SqL.of (kp1 _ _ upd_same ne0), hfa, ?_⟩
    refine ⟨_, rfl, _, rfl, by omega, by omega, fun D hD => ?_⟩
    have neD := bx1.ne hD
    refine lc_it (walk_range (lo := 0) (n := ((n : Nat) : Int).toNat)) (fun i H' => Kept b H1 H' ∧ BoxK H' b (N + 1 + 2 * i) ∧ ∃ xs : List Int, xs.length = i ∧ H' D = some (.lst (xs.map V.int)) ∧ ∀ x ∈ xs, x.natAbs < 2 ^ 80) ⟨Kept.of (same_new hD), bx1.same (same_new hD), [], rfl, upd_same, (fun x h => nomatch h)⟩ (fun i H' _ z => trivial) ?_ ?_
    · rintro i x Ha Hb hi ⟨kp, bx, xs, hl, hd, hb80⟩ ⟨rfl, rfl⟩
      have hi : i < n := by omega
      refine ⟨rfl, yes_if ?_⟩
      refine ⟨_, rfl, _, rfl, ?_⟩
      dsimp only [tCons, tC, tNil, List.append_nil]
      refine take_use (m := p) bx (by omega) (by omega) (by omega) fun d2 Hc d20 d21 kp2 bx2 _ => ?_
      refine ⟨_, rfl, _, rfl, ?_⟩
      dsimp only [tCons, tC, tNil, List.append_nil]
      refine take_use (m := 3) bx2 (by omega) (by decide) (by decide) fun e2 Hd e20 e21 kp3 bx3 _ => ?_
      have bd : -(2 ^ 64) < p * (e2 - 1) ∧ p * (e2 - 1) < 2 ^ 64 := by
        have h1 : e2 = 0 ∨ e2 = 1 ∨ e2 = 2 := by omega
        rcases h1 with rfl | rfl | rfl <;> omega
      have hd4 : Hd D = some (.lst (xs.map V.int)) := kp3 _ _ (kp2 _ _ hd neD) neD
      refine ⟨_, _, rfl, rfl, _, _, rfl, rfl, .inl ⟨by omega, by omega⟩, _, rfl, _, _, rfl, rfl, .inl bd, _, _, rfl, rfl, xs.map V.int, hd4, lt_line (by rw [List.length_map]; omega), fun c o q nb => ?_, ?_, xs ++ [d2 + p * (e2 - 1) * far], by rw [List.length_append, List.length_singleton]; omega, ?_, fun x hx => ?_⟩
      · rw [upd_ne (ne_of_none q hD)]
        exact kp3 _ _ (kp2 _ _ (kp _ _ q nb) nb) nb
      · obtain ⟨x1, y1, z1, hx, r⟩ := bx3
        exact ⟨x1, y1, z1, by rw [upd_ne (Ne.symm neD)]; exact hx, by omega, by omega, by omega, by omega, by omega⟩
      · rw [upd_same, List.map_append]; rfl
      · rcases List.mem_append.mp hx with hx | hx
        · exact hb80 x hx
        · rw [List.mem_singleton.mp hx]
          exact vec_small hq.1 hq.2 d20 d21 e20 e21 (far_small hfr)
    · rintro Ha ⟨kp, bx, xs, hl, hd, hb80⟩
      have e : ((n : Nat) : Int).toNat = n := by omega
      rw [e] at bx hl
      exact k Ha D xs (ka.trans kp) bx (ka.none neD hD) hd hl hb80
end
end K7

set_option Elab.async false
set_option linter.all false
set_option maxRecDepth 100000
set_option maxHeartbeats 4000000
/-! # the law's draws: rows; plus, power -/
namespace K7
open PySem PySem.Spec PyProof.Rows L2 VX RX
section
variable {P : Program} {w : World} {K : PySem.W.Frag} {mg : Str → Option Value} {base : Heap} {f : Addr} {fd : FuncData}
/-- lists of ints as they stand in memory, none at b -/
inductive AreLsts (H : Hp) (b : Addr) : List Addr → List (List Int) → Prop
  | nil : AreLsts H b [] []
  | cons {a : Addr} {r : List Int} {as : List Addr} {rs : List (List Int)} : H a = some (.lst (r.map V.int)) → a ≠ b → AreLsts H b as rs → AreLsts H b (a :: as) (r :: rs)
theorem AreLsts.kept {H H' : Hp} {b : Addr} (k : Kept b H H') : ∀ {as : List Addr} {rs : List (List Int)}, AreLsts H b as rs → AreLsts H' b as rs
  | _, _, .nil => .nil
  | _, _, .cons h n t => .cons (k _ _ h n) n (t.kept k)
theorem AreLsts.append {H : Hp} {b : Addr} : ∀ {as : List Addr} {rs : List (List Int)} {bs : List Addr} {ss : List (List Int)}, AreLsts H b as rs → AreLsts H b bs ss → AreLsts H b (as ++ bs) (rs ++ ss)
  | _, _, _, _, .nil, h => h
  | _, _, _, _, .cons h n t, g => .cons h n (t.append g)
theorem AreLsts.ints {H : Hp} {b : Addr} : ∀ {as : List Addr} {rs : List (List Int)}, AreLsts H b as rs → AreInts H as rs
  | _, _, .nil => .nil
  | _, _, .cons h _ t => .cons (.inl h) t.ints
theorem AreLsts.length {H : Hp} {b : Addr} : ∀ {as : List Addr} {rs : List (List Int)}, AreLsts H b as rs → as.length = rs.length
  | _, _, .nil => rfl
  | _, _, .cons _ _ t => congrArg (· + 1) t.length
/-- what stands at D is not among them, when a list is put there whose items are refs or nothing stood there before -/
theorem AreLsts.updN {H : Hp} {b D : Addr} {o : HO} : ∀ {as : List Addr} {rs : List (List Int)}, AreLsts H b as rs → (∀ a ∈ as, a ≠ D) → AreLsts (L2.upd H D o) b as rs
  | _, _, .nil, _ => .nil
  | _, _, .cons h n t, m => .cons (by show L2.upd H D o _ = _; rw [upd_ne (m _ (.head _))]; exact h) n (t.updN fun a ha => m a (.tail _ ha))
/-! ### _law_plus, _law_power -/
def spPower : Sp := fun vs H Q _ => ∃ (p : Int) (k : Nat), vs = [.int p, .int k] ∧ 0 < p ∧ p ≤ 13 ∧ k ≤ 12 ∧ Q (.int (p ^ k)) H
abbrev nP : List Str := ["_law_p", "_law_k", "_law_found", "_law_turn"]
theorem sc_power : FnScope nP ["_law_p", "_law_k"] (defScope (top 50)) := ⟨rfl, rfl, rfl, by decide +kernel, rfl, by decide +kernel, by decide +kernel⟩
theorem pow_le {p : Int} (h0 : 0 < p) (h : p ≤ 13) : ∀ k : Nat, 0 < p ^ k ∧ p ^ k ≤ 13 ^ k
  | 0 => by simp
  | k + 1 => by
    obtain ⟨a, b⟩ := pow_le h0 h k
    rw [Int.pow_succ, Int.pow_succ]
    exact ⟨Int.mul_pos a h0, Int.mul_le_mul b h (Int.le_of_lt h0) (Int.le_trans (Int.le_of_lt a) b)⟩
theorem ok_power (F : FnP K "_law_power" 50 f fd) (T : Txt K mg) : FnOk P w K mg base CX0 1 f fd ["_law_p", "_law_k"] spPower := by
  refine F.ok sc_power (fun vs H Q E h => ?_) (fun cdv A outer s H vs Q E hr h => ?_)
  · obtain ⟨p, k, rfl, _⟩ := h
    rfl
  · obtain ⟨p, k, rfl, p0, p1, k1, q⟩ := h
    have nd := sc_power.nd
    refine ⟨_, PSs.nox (pss_cons (ps_set (i := 2) nd rfl (.inl rfl) pe_int)
      (pss_cons (ps_for PassesOwn.never rfl (pi_range1 (by rfl) (T.fr "range") (pa_cons (pv 1) pa_nil)) (pg_name (i := 3) nd rfl (.inl rfl)) (pss_one (ps_set (i := 2) nd rfl (.inl rfl) (pe_op op_mul (pv 2) (pv 0)))))
      (pss_one (ps_ret (pv 2))))), ?_⟩
    refine ⟨_, rfl, _, rfl, by omega, by omega, for_range (lo := 0) (n := ((k : Nat) : Int).toNat) (fun i σ H' => ∃ z, σ = [some (.int p), some (.int k), some (.int (p ^ i)), z] ∧ H' = H) ⟨none, by rw [Int.pow_zero]; rfl, rfl⟩ ?_ ?_⟩
    · rintro i σ H' hi ⟨z, rfl, rfl⟩
      obtain ⟨a, b⟩ := pow_le p0 p1 i
      have hi : i ≤ 12 := by omega
      have c : (13 : Int) ^ i ≤ 13 ^ 12 := by
        exact_mod_cast Nat.pow_le_pow_right (by decide : 0 < 13) hi
      have d : (13 : Int) ^ 12 < 2 ^ 64 := by decide
      exact ⟨_, rfl, _, rfl, _, _, rfl, rfl, .inl ⟨by omega, by omega⟩, _, by rw [Int.pow_succ]; rfl, rfl⟩
    · rintro σ H' ⟨z, rfl, rfl⟩
      have e : ((k : Nat) : Int).toNat = k := by omega
      rw [e]
      exact ⟨_, rfl, q⟩
end
end K7

set_option Elab.async false
set_option linter.all false
set_option maxRecDepth 100000
set_option maxHeartbeats 4000000
/-! # the law's sums: plus -/
namespace K7
open PySem PySem.Spec PyProof.Rows L2 VX RX
section
variable {P : Program} {w : World} {K : PySem.W.Frag} {mg : Str → Option Value} {base : Heap} {f : Addr} {fd : FuncData}
abbrev nU : List Str := ["_law_p", "_law_one", "_law_factor", "_law_other", "_law_k"]
def spPlus : Sp := fun vs H Q _ => ∃ (p : Int) (a : Addr) (r : List Int) (g : Int) (o : Addr) (xs : List Int), vs = [.int p, .ref a, .int g, .ref o] ∧ IsRow H a r ∧ IsInts H o xs ∧ r.length = xs.length ∧ 0 < p ∧ (-(2 ^ 64) < g ∧ g < 2 ^ 64) ∧ r.length ≤ 1000 ∧ ∀ H' c, Same H H' → H c = none → IsRow H' c (addR p r g xs) → Q (.ref c) H'
theorem sc_plus : FnScope nU ["_law_p", "_law_one", "_law_factor", "_law_other"] (defScope (top 48)) := ⟨rfl, rfl, rfl, by decide +kernel, rfl, by decide +kernel, by decide +kernel⟩
theorem ok_plus (F : FnP K "_law_plus" 48 f fd) (T : Txt K mg) : FnOk P w K mg base CX0 1 f fd ["_law_p", "_law_one", "_law_factor", "_law_other"] spPlus := by
  refine F.ok sc_plus (fun vs H Q E h => ?_) (fun cdv A outer s H vs Q E hr h => ?_)
  · obtain ⟨p, a, r, g, o, xs, rfl, _⟩ := h
    rfl
  · obtain ⟨p, a, r, g, o, xs, rfl, ha, hx, hlen, hp, hg, hl, k⟩ := h
    have nd := sc_plus.nd
    refine ⟨_, PSs.nox (pss_one (ps_ret (pe_callTy call_tuple_of (by rfl) (T.fr "tuple") (by decide +kernel) (pa_cons (pe_lc (own := [("_law_k", 4)]) (g := gName 4) (by rfl) nd (pi_range1 (by rfl) (T.fr "range") (pa_cons (pe_callB call_len_seq (by rfl) (T.fr "len") boot_len (pa_cons (pv 1) pa_nil)) pa_nil)) (blkOk_by (own := [("_law_k", 4)]) (N := nU) (sc := defScope (top 48)) (by decide +kernel)) (fun _ _ _ _ _ => pg_name (i := 4) nd rfl (Or.inl rfl)) (fun _ _ _ _ _ => pts_nil)
      (fun _ _ _ _ _ => pe_op op_modN (pe_op op_add (pe_ix (r := rIxT K) ix_tup (pv 1) (pv 4) (fun _ _ => rfl)) (pe_op op_mul (pv 2) (pe_ix (r := rIx K) ix_seq (pv 3) (pv 4) (fun _ _ => rfl)))) (pv 0))) pa_nil)))), ?_⟩
    have hlo : (addR p r g xs).length = r.length := addR_len rfl hlen.symm
    have hnl : (r.map V.int).length = r.length := by simp
    refine ⟨_, rfl, a, _, rfl, .inr (SqT.of ha), _, rfl, by omega, by omega, fun D hD => ?_⟩
    refine lc_it (walk_range (lo := 0) (n := (((r.map V.int).length : Nat) : Int).toNat)) (fun i H' => H' = upd H D (.lst (((addR p r g xs).take i).map V.int))) rfl (fun i H' _ z => trivial) ?_ ?_
    · rintro i x Ha Hb hi rfl ⟨rfl, rfl⟩
      have hi : i < r.length := by omega
      have s1 : Same H (upd H D (.lst (((addR p r g xs).take i).map V.int))) := same_new hD
      refine ⟨rfl, yes_if ?_⟩
      refine ⟨_, rfl, _, rfl, a, _, _, _, rfl, rfl, SqT.of (s1 _ _ ha), (by rw [show (0 : Int) + (i : Int) = (i : Nat) by omega]; exact atI_row hi), _, rfl, _, rfl, _, rfl, ?_⟩
      refine ix_ints (i := i) (hx.same s1) (Int.zero_add _) (by omega) ?_
      refine ⟨_, _, rfl, rfl, .inl hg, _, _, rfl, rfl, _, rfl, _, _, rfl, rfl, by omega, ((addR p r g xs).take i).map V.int, upd_same, lt_line (by rw [List.length_map]; have := List.length_take_le i (addR p r g xs); omega), ?_⟩
      have e : (addR p r g xs)[i]? = some ((at0 r i + g * at0 xs i) % p) := by
        have e1 := at0_addR (p := p) (f := g) hlen i
        rw [at0_of (by omega)] at e1
        rw [List.getElem?_eq_getElem (by omega), e1]
      rw [upd_upd, take_more e]
      show upd H D (.lst (_ ++ [V.int ((at0 r i + g * at0 xs i).fmod p)])) = _
      rw [fmod_pos hp]
    · rintro Ha rfl
      have e : (((r.map V.int).length : Nat) : Int).toNat = (addR p r g xs).length := by omega
      rw [e, List.take_length]
      refine ⟨D, _, rfl, .inl ⟨SqL.of upd_same, fun c hc => k _ c (same_two hD hc) (none_of hc) upd_same⟩⟩
end
end K7

set_option Elab.async false
set_option linter.all false
set_option maxRecDepth 100000
set_option maxHeartbeats 4000000
/-! # the law's sums: sent -/
namespace K7
open PySem PySem.Spec PyProof.Rows L2 VX RX
section
variable {P : Program} {w : World} {K : PySem.W.Frag} {mg : Str → Option Value} {base : Heap} {f : Addr} {fd : FuncData}
abbrev nT : List Str := ["_law_p", "_law_vector_here", "_law_rows_here", "_law_found", "_law_k"]
theorem sentF_more {p : Int} : ∀ (v : List Int) (M : List (List Int)) (acc : List Int) (i : Nat) {x : Int} {l : List Int}, v[i]? = some x → M[i]? = some l → sentF p (v.take (i + 1)) (M.take (i + 1)) acc = addR p (sentF p (v.take i) (M.take i) acc) x l
  | y :: v, m :: M, acc, 0, _, _, e1, e2 => by
    obtain rfl := Option.some.inj e1
    obtain rfl := Option.some.inj e2
    cases v <;> cases M <;> rfl
  | y :: v, m :: M, acc, i + 1, _, _, e1, e2 => sentF_more v M (addR p acc y m) i (by simpa using e1) (by simpa using e2)
  | [], M, _, i, _, _, e1, _ => by simp at e1
  | y :: v, [], _, i, _, _, _, e2 => by simp at e2
def spLSent : Sp := fun vs H Q _ => ∃ (p : Int) (a : Addr) (v : List Int) (m : Addr) (ls : List Addr) (M : List (List Int)) (n : Nat), vs = [.int p, .ref a, .ref m] ∧ IsRow H a v ∧ H m = some (.lst (ls.map V.ref)) ∧ AreInts H ls M ∧ Ok p n v ∧ M.length = n ∧ (∀ l ∈ M, l.length = n) ∧
  ∀ H' c, Same H H' → IsRow H' c (sentP p v M) → Q (.ref c) H'
theorem sc_lsent : FnScope nT ["_law_p", "_law_vector_here", "_law_rows_here"] (defScope (top 53)) := ⟨rfl, rfl, rfl, by decide +kernel, rfl, by decide +kernel, by decide +kernel⟩
theorem ok_lsent {fdU : FuncData} (F : FnP K "_law_sent" 53 f fd) (T : Txt K mg) (FU : FnP K "_law_plus" 48 (He.ga K "_law_plus") fdU) : FnOk P w K mg base CX0 2 f fd ["_law_p", "_law_vector_here", "_law_rows_here"] spLSent := by
  have GU : FnOk P w K mg base CX0 1 _ fdU ["_law_p", "_law_one", "_law_factor", "_law_other"] spPlus := ok_plus FU T
  have BU : Binds K fdU ["_law_p", "_law_one", "_law_factor", "_law_other"] [] := FU.bindsN fun _ _ _ _ _ _ us hl => match us, hl with | [_, _, _, _], _ => rfl
  refine F.ok sc_lsent (fun vs H Q E h => ?_) (fun cdv A outer s H vs Q E hr h => ?_)
  · obtain ⟨p, a, v, m, ls, M, n, rfl, _⟩ := h
    rfl
  · obtain ⟨p, a, v, m, ls, M, n, rfl, ha, hm, hls, ho, hM, hMl, k⟩ := h
    have nd := sc_lsent.nd
    refine ⟨_, PSs.nox (pss_cons (ps_set (i := 3) nd rfl (.inl rfl) (pe_callTy call_tuple_of (by rfl) (T.fr "tuple") (by decide +kernel) (pa_cons (pe_op op_rep (pe_lst (pa_cons pe_int pa_nil)) (pe_callB call_len_seq (by rfl) (T.fr "len") boot_len (pa_cons (pv 1) pa_nil))) pa_nil)))
      (pss_cons (ps_for PassesOwn.never rfl (pi_range1 (by rfl) (T.fr "range") (pa_cons (pe_callB call_len_seq (by rfl) (T.fr "len") boot_len (pa_cons (pv 1) pa_nil)) pa_nil)) (pg_name (i := 4) nd rfl (.inl rfl))
          (pss_one (ps_set (i := 3) nd rfl (.inl rfl) (pe_call GU hr (by rfl) (T.df "_law_plus" 48) FU.kp BU .nil pass0 (pa_cons (pv 0) (pa_cons (pv 3) (pa_cons (pe_ix ix_tup (pv 1) (pv 4) (fun _ _ => rfl)) (pa_cons (pe_ix ix_list (pv 2) (pv 4) (fun _ _ => rfl)) pa_nil))))))))
      (pss_one (ps_ret (pv 3))))), ?_⟩
    have h0 : 0 < p := by have := ho.two; omega
    have hv := ho.row.1
    have hn := ho.len
    have hbd := ho.row.bound h0
    have hsm := ho.small
    have hnl : (v.map V.int).length = n := by rw [List.length_map, hv]
    refine ⟨(by show 1 ≤ sizeLine; decide), fun e he => ⟨_, rfl, a, _, rfl, .inr (SqT.of (same_new he _ _ ha)), e, _, _, rfl, rfl, upd_same, by omega, by omega, ?_, fun e2 he2 => ?_⟩⟩
    · rw [hnl, Int.toNat_natCast]
      show 1 * n ≤ sizeLine
      exact Nat.le_of_lt (lt_line (by omega))
    refine ⟨e2, _, rfl, .inl ⟨SqL.of upd_same, fun t ht => ?_⟩⟩
    have tz : (List.replicate (((v.map V.int).length : Nat) : Int).toNat [V.int 0]).flatten = (List.replicate n 0).map V.int := by
      rw [hnl, Int.toNat_natCast]
      clear hv hn hnl hM hMl ho
      induction n with
      | zero => rfl
      | succ n ih => rw [List.replicate_succ, List.flatten_cons, ih, List.replicate_succ]; rfl
    rw [tz] at ht ⊢
    have sE : Same H (upd (upd H e (.lst [V.int 0])) e2 (.lst ((List.replicate n 0).map V.int))) := same_two he he2
    have sT : Same H (upd (upd (upd H e (.lst [V.int 0])) e2 (.lst ((List.replicate n 0).map V.int))) t (.tup ((List.replicate n 0).map V.int))) := fun c o q => by
      rw [upd_ne (ne_of_none (sE _ _ q) ht)]
      exact sE _ _ q
    have hTt : IsRow (upd (upd (upd H e (.lst [V.int 0])) e2 (.lst ((List.replicate n 0).map V.int))) t (.tup ((List.replicate n 0).map V.int))) t (List.replicate n 0) := upd_same
    generalize upd (upd (upd H e (.lst [V.int 0])) e2 (.lst ((List.replicate n 0).map V.int))) t (.tup ((List.replicate n 0).map V.int)) = HT at sT hTt ⊢
    have hMr : ∀ l ∈ M, l.length = n := hMl
    refine ⟨_, rfl, a, _, rfl, .inr (SqT.of (sT _ _ ha)), _, rfl, by omega, by omega, for_range (lo := 0) (n := (((v.map V.int).length : Nat) : Int).toNat) (fun i σ H' => ∃ c z, σ = [some (.int p), some (.ref a), some (.ref m), some (.ref c), z] ∧ Same H H' ∧ IsRow H' c (sentF p (v.take i) (M.take i) (List.replicate n 0))) ⟨t, none, rfl, sT, hTt⟩ ?_ ?_⟩
    · rintro i σ H1 hi ⟨c, z, rfl, sm, hc⟩
      have hi : i < n := by omega
      have hll := hls.length
      obtain ⟨x, hx⟩ : ∃ x, v[i]? = some x := ⟨v[i]'(by omega), List.getElem?_eq_getElem (by omega)⟩
      obtain ⟨la, hla⟩ : ∃ la, ls[i]? = some la := ⟨ls[i]'(by omega), List.getElem?_eq_getElem (by omega)⟩
      obtain ⟨l, hlM, hli⟩ := hls.get hla
      have hxb : 0 ≤ x ∧ x < p := ho.row.2 x (List.mem_of_getElem? hx)
      have zi : (0 : Int) + (i : Int) = (i : Nat) := by omega
      have cur := (sentF_ok (n := n) h0 (v.take i) (M.take i) (List.replicate n 0) (fun l hl => hMl l (List.mem_of_mem_take hl)) (zero_row h0)).1
      refine ⟨_, rfl, _, rfl, _, rfl, _, rfl, a, _, _, .int x, rfl, rfl, SqT.of (sm _ _ ha), (by rw [zi]; exact atI_nat (by rw [List.getElem?_map, hx]; rfl)), _, rfl, _, rfl, m, _, _, .ref la, rfl, rfl, SqL.of (sm _ _ hm), (by rw [zi]; exact atI_nat (by rw [List.getElem?_map, hla]; rfl)), p, c, _, x, la, l, rfl, hc, hli.same sm, (by rw [cur.1, hMl l (List.mem_of_getElem? hlM)]), h0, by omega, (by rw [cur.1]; omega), fun H2 c2 s2 _ hc2 => ⟨c2, _, rfl, fun u o q => s2 _ _ (sm _ _ q), ?_⟩⟩
      rw [sentF_more v M _ i hx hlM]
      exact hc2
    · rintro σ H1 ⟨c, z, rfl, sm, hc⟩
      have e1 : (((v.map V.int).length : Nat) : Int).toNat = n := by omega
      rw [e1, List.take_of_length_le (by omega), List.take_of_length_le (by omega), sentF_eq h0 hv hMl] at hc
      exact ⟨_, rfl, k _ _ sm hc⟩
end
end K7

set_option Elab.async false
set_option linter.all false
set_option maxRecDepth 100000
set_option maxHeartbeats 4000000
/-! # the law's dicts of vectors -/
namespace K7
open PySem PySem.Spec PyProof.Rows L2 VX RX
/-- a dict whose keys are vectors -/
def kvsOf (l : List (List Int)) : List (List L2.Key × V) := l.map fun r => (r.map Sum.inl, V.bl true)
theorem inl_inj {r s : List Int} (h : r.map (Sum.inl : Int → L2.Key) = s.map Sum.inl) : r = s := by
  refine List.map_inj_right (fun x y e => ?_) |>.mp h
  injection e
theorem any_kvs (l : List (List Int)) (k : List Int) : ((kvsOf l).any fun kv => decide (kv.1 = k.map Sum.inl)) = decide (k ∈ l) := by
  rw [Bool.eq_iff_iff]
  simp only [kvsOf, List.any_map, List.any_eq_true, Function.comp_apply, decide_eq_true_eq]
  exact ⟨fun ⟨r, hr, e⟩ => inl_inj e ▸ hr, fun h => ⟨k, h, rfl⟩⟩
theorem putK_kvs (l : List (List Int)) (k : List Int) : putK (kvsOf l) (k.map Sum.inl) (V.bl true) = kvsOf (ins l k) := by
  unfold putK ins
  rw [any_kvs]
  by_cases h : k ∈ l
  · rw [if_pos (decide_eq_true h), if_pos h]
    refine (List.map_congr_left fun kv hkv => ?_).trans (List.map_id _)
    obtain ⟨r, _, rfl⟩ := List.mem_map.mp hkv
    by_cases e : (r.map Sum.inl : List L2.Key) = k.map Sum.inl
    · rw [if_pos e]; rfl
    · rw [if_neg e]; rfl
  · rw [if_neg (by simpa using h), if_neg h]
    simp [kvsOf]
theorem kvs_len (l : List (List Int)) : (kvsOf l).length = l.length := by simp [kvsOf]
end K7

set_option Elab.async false
set_option linter.all false
set_option maxRecDepth 100000
set_option maxHeartbeats 4000000
/-! # the law's sums: grown -/
namespace K7
open PySem PySem.Spec PyProof.Rows L2 VX RX
section
variable {P : Program} {w : World} {K : PySem.W.Frag} {mg : Str → Option Value} {base : Heap} {f : Addr} {fd : FuncData}
abbrev nG : List Str := ["_law_p", "_law_found", "_law_vector_here", "_law_more", "_law_old", "_law_factor"]
def spGrown : Sp := fun vs H Q _ => ∃ (p : Int) (d : Addr) (l : List (List Int)) (a : Addr) (v : List Int) (n : Nat), vs = [.int p, .ref d, .ref a] ∧ H d = some (.dT (kvsOf l)) ∧ IsRow H a v ∧ (∀ r ∈ l, Row p n r) ∧ Row p n v ∧ 0 < p ∧ p ≤ 13 ∧ n ≤ 6 ∧ l.length ≤ 1000000 ∧
  ∀ H' e, Same H H' → H e = none → H' e = some (.dT (kvsOf (grown p l v))) → Q (.ref e) H'
theorem rows_keys {H : Hp} : ∀ {l : List (List Int)} {bs : List Addr}, IsKeys H (kvsOf l) bs → AreRows H bs l
  | [], _, .nil => .nil
  | r :: l, _, .cons h t => .cons (by
      show H _ = some (.tup (r.map V.int))
      have e : (r.map (Sum.inl : Int → L2.Key)).map kV = r.map V.int := by rw [List.map_map]; rfl
      rw [← e]
      exact h) (rows_keys t)
theorem insAll_len : ∀ (ks l : List (List Int)), (ks.foldl ins l).length ≤ l.length + ks.length
  | [], l => by simp
  | k :: ks, l => by
    have h := insAll_len ks (ins l k)
    have h2 : (ins l k).length ≤ l.length + 1 := by
      unfold ins
      by_cases c : k ∈ l
      · rw [if_pos c]; omega
      · rw [if_neg c, List.length_append, List.length_singleton]; omega
    rw [List.foldl_cons, List.length_cons]
    omega
theorem growKeys_len {p : Int} {v : List Int} : ∀ l : List (List Int), (growKeys p l v).length = l.length * p.toNat := fun l => by
  unfold growKeys
  rw [List.length_flatMap]
  simp only [List.length_map, List.length_range]
  exact sum_map_const _ _
theorem growKeys_more {p : Int} {l : List (List Int)} {v r : List Int} {i : Nat} (h : l[i]? = some r) : growKeys p (l.take (i + 1)) v = growKeys p (l.take i) v ++ (List.range p.toNat).map fun f : Nat => addR p r (f : Int) v := by
  rw [List.take_succ, h, Option.toList_some]
  unfold growKeys
  rw [List.flatMap_append]
  simp
theorem sc_grown : FnScope nG ["_law_p", "_law_found", "_law_vector_here"] (defScope (top 49)) := ⟨rfl, rfl, rfl, by decide +kernel, rfl, by decide +kernel, by decide +kernel⟩
theorem ok_grown {fdU : FuncData} (F : FnP K "_law_grown" 49 f fd) (T : Txt K mg) (FU : FnP K "_law_plus" 48 (He.ga K "_law_plus") fdU) : FnOk P w K mg base CX0 2 f fd ["_law_p", "_law_found", "_law_vector_here"] spGrown := by
  have GU : FnOk P w K mg base CX0 1 _ fdU ["_law_p", "_law_one", "_law_factor", "_law_other"] spPlus := ok_plus FU T
  have BU : Binds K fdU ["_law_p", "_law_one", "_law_factor", "_law_other"] [] := FU.bindsN fun _ _ _ _ _ _ us hl => match us, hl with | [_, _, _, _], _ => rfl
  refine F.ok sc_grown (fun vs H Q E h => ?_) (fun cdv A outer s H vs Q E hr h => ?_)
  · obtain ⟨p, d, l, a, v, n, rfl, _⟩ := h
    rfl
  · obtain ⟨p, d, l, a, v, n, rfl, hd, ha, hl, hv, h0, h13, hn, hsz, k⟩ := h
    have nd := sc_grown.nd
    have hu := hu_of hr
    refine ⟨_, PSs.nox (pss_cons (ps_set (i := 3) nd rfl (.inl rfl) pe_dnewT)
      (pss_cons (ps_for PassesOwn.never rfl (pi_list (pe_callTy (call_list_dT rfl) (by rfl) (T.fr "list") (by decide +kernel) (pa_cons (pv 1) pa_nil))) (pg_name (i := 4) nd rfl (.inl rfl))
          (pss_one (ps_for PassesOwn.never rfl (pi_range1 (by rfl) (T.fr "range") (pa_cons (pv 0) pa_nil)) (pg_name (i := 5) nd rfl (.inl rfl))
            (pss_one (ps_dput hu (pv 3) (pe_call GU hr (by rfl) (T.df "_law_plus" 48) FU.kp BU .nil pass0 (pa_cons (pv 0) (pa_cons (pv 4) (pa_cons (pv 5) (pa_cons (pv 2) pa_nil))))) pe_bl rfl)))))
      (pss_one (ps_ret (pv 3))))), ?_⟩
    refine fun e he => ?_
    have s0 : Same H (upd H e (.dT [])) := same_new he
    refine ⟨_, rfl, d, kvsOf l, rfl, Rd.of (s0 _ _ hd), fun q bs hq hks => ?_⟩
    have hrows : AreRows (upd H e (.dT [])) bs l := rows_keys hks
    have eq' : e ≠ q := fun z => by rw [← z, upd_same] at hq; cases hq
    refine ⟨q, rfl, ⟨_, SqL.of upd_same⟩, ?_⟩
    have sQ : Same (upd H e (.dT [])) (upd (upd H e (.dT [])) q (.lst (bs.map V.ref))) := same_new hq
    have rQ := hrows.same sQ
    have eQ : upd (upd H e (.dT [])) q (.lst (bs.map V.ref)) e = some (.dT (kvsOf [])) := by rw [upd_ne eq', upd_same]; rfl
    have qQ : upd (upd H e (.dT [])) q (.lst (bs.map V.ref)) q = some (.lst (bs.map V.ref)) := upd_same
    have aQ := sQ _ _ (s0 _ _ ha)
    have allQ : Same H (upd (upd H e (.dT [])) q (.lst (bs.map V.ref))) := fun c o z => sQ _ _ (s0 _ _ z)
    generalize upd (upd H e (.dT [])) q (.lst (bs.map V.ref)) = G at sQ rQ eQ qQ aQ allQ
    have hbl := rQ.length
    refine for_list (xs := bs.map V.ref) (fun i σ H' => ∃ z1 z2, σ = [some (.int p), some (.ref d), some (.ref a), some (.ref e), z1, z2] ∧ Kept e G H' ∧ H' e = some (.dT (kvsOf ((growKeys p (l.take i) v).foldl ins [])))) ⟨none, none, rfl, Kept.refl, eQ⟩ (fun i σ H' _ z => ?_) ?_ ?_
    · obtain ⟨z1, z2, _, kp, _⟩ := z
      exact SqL.of (kp _ _ qQ (Ne.symm eq'))
    · rintro i x σ H1 hx ⟨z1, z2, rfl, kp, hE⟩
      obtain ⟨b, hb, rfl⟩ := refs_at hx
      obtain ⟨r, hr', hrb⟩ := rQ.get hb
      have hrow := hl r (List.mem_of_getElem? hr')
      have hi : i < l.length := (List.getElem?_eq_some_iff.mp hr').1
      have be : b ≠ e := fun z => by rw [z] at hrb; rw [show G e = _ from hrb] at eQ; cases eQ
      have ae : a ≠ e := fun z => by rw [z] at aQ; rw [show G e = _ from aQ] at eQ; cases eQ
      have hlen0 : ((growKeys p (l.take i) v).foldl ins []).length ≤ 13 * 1000000 := by
        have h1 := insAll_len (growKeys p (l.take i) v) []
        rw [growKeys_len, List.length_take] at h1
        have h2 : min i l.length ≤ 1000000 := by omega
        have h3 := Nat.mul_le_mul h2 (show p.toNat ≤ 13 by omega)
        simp only [List.length_nil] at h1
        omega
      generalize hbase : (growKeys p (l.take i) v).foldl ins [] = B at hE hlen0
      refine ⟨_, rfl, p, rfl, by omega, by omega, for_range (lo := 0) (n := p.toNat) (fun j σ H' => ∃ z2, σ = [some (.int p), some (.ref d), some (.ref a), some (.ref e), some (.ref b), z2] ∧ Kept e G H' ∧ H' e = some (.dT (kvsOf (((List.range j).map fun f : Nat => addR p r (f : Int) v).foldl ins B)))) ⟨z2, rfl, kp, hE⟩ ?_ ?_⟩
      · rintro j σ H2 hj ⟨z2, rfl, kp2, hE2⟩
        have zj : (0 : Int) + (j : Int) = (j : Nat) := by omega
        have hlB : (((List.range j).map fun f : Nat => addR p r (f : Int) v).foldl ins B).length < sizeLine := by
          have h1 := insAll_len ((List.range j).map fun f : Nat => addR p r (f : Int) v) B
          rw [List.length_map, List.length_range] at h1
          exact Nat.lt_of_le_of_lt (Nat.le_trans h1 (show B.length + j ≤ 13000013 by omega)) (by decide)
        refine ⟨_, rfl, _, rfl, _, rfl, _, rfl, _, rfl, p, b, r, 0 + (j : Int), a, v, rfl, kp2 _ _ hrb be, .inr (kp2 _ _ aQ ae), by rw [hrow.1, hv.1], h0, by omega, by rw [hrow.1]; omega, fun H3 c s3 hc hc2 => ?_⟩
        rw [zj] at hc2
        have ce : c ≠ e := fun z => by rw [z] at hc; rw [hE2] at hc; cases hc
        have key : H3 c = some (.tup (((addR p r (j : Int) v).map (Sum.inl : Int → L2.Key)).map kV)) := by
          have e2 : ((addR p r (j : Int) v).map (Sum.inl : Int → L2.Key)).map kV = (addR p r (j : Int) v).map V.int := by rw [List.map_map]; rfl
          rw [e2]
          exact hc2
        refine ⟨e, _, rfl, DPut.t (s3 _ _ hE2) key (by rw [kvs_len]; exact hlB), _, rfl, fun u o z nu => ?_, ?_⟩
        · rw [upd_ne nu]
          exact s3 _ _ (kp2 _ _ z nu)
        · rw [upd_same, putK_kvs, List.range_succ, List.map_append, List.foldl_append]
          rfl
      · rintro σ H2 ⟨z2, rfl, kp2, hE2⟩
        refine ⟨_, _, rfl, kp2, ?_⟩
        rw [growKeys_more hr', List.foldl_append, hbase]
        exact hE2
    · rintro σ H1 ⟨z1, z2, rfl, kp, hE⟩
      rw [List.length_map, hbl, List.take_length] at hE
      refine ⟨_, rfl, k H1 e (fun c o z => kp _ _ (allQ _ _ z) (ne_of_none z he)) he hE⟩
end
end K7

set_option Elab.async false
set_option linter.all false
set_option maxRecDepth 100000
set_option maxHeartbeats 4000000
/-! # the law's draws: rows -/
namespace K7
open PySem PySem.Spec PyProof.Rows L2 VX RX
section
variable {P : Program} {w : World} {K : PySem.W.Frag} {mg : Str → Option Value} {base : Heap} {f : Addr} {fd : FuncData}
abbrev nW : List Str := ["_law_box_here", "_law_p", "_law_n", "_law_most", "_law_k"]
theorem BoxK.mono {H : Hp} {b : Addr} {N M : Nat} (h : BoxK H b N) (le : N ≤ M) : BoxK H b M := by
  obtain ⟨x, y, z, hb, x0, y0, yN, r⟩ := h
  exact ⟨x, y, z, hb, x0, y0, by omega, r⟩
def spRows : Sp := fun vs H Q _ => ∃ (b : Addr) (N : Nat) (p : Int) (n : Nat) (most : Nat), vs = [.ref b, .int p, .int n, .int most] ∧ BoxK H b N ∧ N ≤ 700000 ∧ isP p = true ∧ n ≤ 12 ∧ most ≤ 10 ∧
  ∀ H' l ls (rs : List (List Int)), Kept b H H' → BoxK H' b (N + 300) → H l = none → l ≠ b → H' l = some (.lst (ls.map V.ref)) → AreLsts H' b ls rs → Len n rs → rs.length ≤ 10 → Q (.ref l) H'
theorem sc_rows : FnScope nW ["_law_box_here", "_law_p", "_law_n", "_law_most"] (defScope (top 47)) := ⟨rfl, rfl, rfl, by decide +kernel, rfl, by decide +kernel, by decide +kernel⟩
theorem ok_rows {fdT fdV : FuncData} (F : FnP K "_law_rows" 47 f fd) (T : Txt K mg) (FT : FnP K "_law_take" 44 (He.ga K "_law_take") fdT) (FV : FnP K "_law_vector" 46 (He.ga K "_law_vector") fdV) : FnOk P w K mg base CX0 3 f fd ["_law_box_here", "_law_p", "_law_n", "_law_most"] spRows := by
  have GT : FnOk P w K mg base CX0 1 _ fdT ["_law_box_here", "_law_many"] spTake := ok_take FT T
  have BT : Binds K fdT ["_law_box_here", "_law_many"] [] := FT.bindsN fun _ _ _ _ _ _ us hl => match us, hl with | [_, _], _ => rfl
  have GV : FnOk P w K mg base CX0 2 _ fdV ["_law_box_here", "_law_p", "_law_n"] spVec := ok_vec FV T FT
  have BV : Binds K fdV ["_law_box_here", "_law_p", "_law_n"] [] := FV.bindsN fun _ _ _ _ _ _ us hl => match us, hl with | [_, _, _], _ => rfl
  refine F.ok sc_rows (fun vs H Q E h => ?_) (fun cdv A outer s H vs Q E hr h => ?_)
  · obtain ⟨b, N, p, n, most, rfl, _⟩ := h
    rfl
  · obtain ⟨b, N, p, n, most, rfl, hb, hN, hp, hn, hm, k⟩ := h
    have nd := sc_rows.nd
    have hr1 : Room 1 _ := hr.mono (by decide)
    refine ⟨_, PSs.nox (pss_one (ps_ret (pe_lc (own := [("_law_k", 4)]) (g := gName 4) (by rfl) nd (pi_range1 (by rfl) (T.fr "range") (pa_cons (pe_call GT hr1 (by rfl) (T.df "_law_take" 44) FT.kp BT .nil pass0 (pa_cons (pv 0) (pa_cons (pe_op op_add (pv 3) pe_int) pa_nil))) pa_nil)) (blkOk_by (own := [("_law_k", 4)]) (N := nW) (sc := defScope (top 47)) (by decide +kernel)) (fun _ _ _ _ _ => pg_name (i := 4) nd rfl (Or.inl rfl)) (fun _ _ _ _ _ => pts_nil)
      (fun _ _ _ _ _ => pe_call GV hr (by rfl) (T.df "_law_vector" 46) FV.kp BV .nil pass0 (pa_cons (pv 0) (pa_cons (pv 1) (pa_cons (pv 2) pa_nil))))))), ?_⟩
    refine ⟨_, rfl, _, rfl, _, _, rfl, rfl, ?_⟩
    dsimp only [tCons, tC, tNil, List.append_nil]
    refine take_use (m := (most : Int) + 1) hb (by omega) (by omega) (by omega) fun d H1 d0 d1 kp1 bx1 nn => ?_
    refine ⟨d, rfl, by omega, by omega, fun D hD => ?_⟩
    have neD := bx1.ne hD
    refine lc_it (walk_range (lo := 0) (n := d.toNat)) (fun i H' => Kept b H1 H' ∧ BoxK H' b (N + 1 + 25 * i) ∧ ∃ ls rs, H' D = some (.lst (ls.map V.ref)) ∧ rs.length = i ∧ AreLsts H' b ls rs ∧ Len n rs ∧ ∀ a ∈ ls, a ≠ D) ⟨Kept.of (same_new hD), bx1.same (same_new hD), [], [], upd_same, rfl, .nil, (fun _ h => nomatch h), (fun _ h => nomatch h)⟩ (fun i H' _ z => trivial) ?_ ?_
    · rintro i x Ha Hb hi ⟨kp, bx, ls, rs, hd, hl, har, hlen, hne⟩ ⟨rfl, rfl⟩
      refine ⟨rfl, yes_if ?_⟩
      refine ⟨_, rfl, _, rfl, _, rfl, b, _, p, n, rfl, bx, by omega, hp, hn, fun H3 l xs kp3 bx3 hl0 hl3 hxs _ => ?_⟩
      have lb : l ≠ b := bx.ne hl0
      have lD : l ≠ D := fun z => by rw [z, hd] at hl0; cases hl0
      have hll := har.length
      refine ⟨ls.map V.ref, kp3 _ _ hd neD, lt_line (by rw [List.length_map]; omega), fun c o q nb => ?_, ?_, ls ++ [l], rs ++ [xs], ?_, by rw [List.length_append, List.length_singleton]; omega, ?_, ?_, ?_⟩
      · rw [upd_ne (ne_of_none q hD)]
        exact kp3 _ _ (kp _ _ q nb) nb
      · obtain ⟨x1, y1, z1, hx, r⟩ := bx3.mono (M := N + 1 + 25 * (i + 1)) (by omega)
        exact ⟨x1, y1, z1, by rw [upd_ne (Ne.symm neD)]; exact hx, r⟩
      · rw [upd_same, List.map_append]; rfl
      · refine ((har.kept kp3).append (.cons hl3 lb .nil)).updN fun a ha => ?_
        rcases List.mem_append.mp ha with ha | ha
        · exact hne a ha
        · rw [List.mem_singleton.mp ha]; exact lD
      · intro r hr'
        rcases List.mem_append.mp hr' with hr' | hr'
        · exact hlen r hr'
        · rw [List.mem_singleton.mp hr']; exact hxs
      · intro a ha
        rcases List.mem_append.mp ha with ha | ha
        · exact hne a ha
        · rw [List.mem_singleton.mp ha]; exact lD
    · rintro Ha ⟨kp, bx, ls, rs, hd, hl, har, hlen, hne⟩
      exact k Ha D ls rs (kp1.trans kp) (bx.mono (by omega)) (kp1.none neD hD) neD hd har hlen (by omega)
end
end K7

set_option Elab.async false
set_option linter.all false
set_option maxRecDepth 100000
set_option maxHeartbeats 4000000
/-! # the law's dict of all sums: span -/
namespace K7
open PySem PySem.Spec PyProof.Rows L2 VX RX
section
variable {P : Program} {w : World} {K : PySem.W.Frag} {mg : Str → Option Value} {base : Heap} {f : Addr} {fd : FuncData}
abbrev nSp : List Str := ["_law_p", "_law_n", "_law_rows_here", "_law_found", "_law_row", "_law_vector_here", "_law_item"]
theorem spanL_more {p : Int} {n : Nat} {rs : List (List Int)} {i : Nat} {r : List Int} (h : rs[i]? = some r) : spanL p n (rs.take (i + 1)) = spanStep p (spanL p n (rs.take i)) r := by
  unfold spanL
  rw [List.take_succ, h, Option.toList_some, List.foldl_append]
  rfl
theorem spanL_len {p : Int} (hp : isP p = true) {n : Nat} {rs : List (List Int)} (hr : Len n rs) (hn : p ^ n ≤ 1000000) : (spanL p n rs).length ≤ 1000000 := by
  have I := invF_ok hp
  have h2 := I.two
  have R := reduced_ok I (modR_rows (p := p) (by omega) hr)
  rw [(span_told I hr).1]
  have hc := R.card
  have h1 := Nat.pow_le_pow_right (n := p.toNat) (by omega) hc
  have h3 : ((p.toNat ^ n : Nat) : Int) = p ^ n := by
    rw [Int.natCast_pow, Int.toNat_of_nonneg (by omega)]
  omega
theorem valK_kvs (l : List (List Int)) (k : List Int) : (valV (kvsOf l) (k.map (Sum.inl : Int → L2.Key))).isSome = decide (k ∈ l) := by
  unfold valV
  rw [Option.isSome_map, ← any_kvs, Bool.eq_iff_iff, List.find?_isSome, List.any_eq_true]
theorem AreLsts.get {H : Hp} {b : Addr} : ∀ {as : List Addr} {rs : List (List Int)} {i : Nat} {a : Addr}, AreLsts H b as rs → as[i]? = some a → ∃ r, rs[i]? = some r ∧ H a = some (.lst (r.map V.int))
  | _, _, 0, _, .cons (r := r) h _ t, e => by
    obtain rfl := Option.some.inj e
    exact ⟨r, rfl, h⟩
  | _, _, i + 1, _, .cons h _ t, e => AreLsts.get (i := i) t (by simpa using e)
def spSpan : Sp := fun vs H Q _ => ∃ (p : Int) (n : Nat) (l b : Addr) (ls : List Addr) (rs : List (List Int)), vs = [.int p, .int n, .ref l] ∧ H l = some (.lst (ls.map V.ref)) ∧ AreLsts H b ls rs ∧ Len n rs ∧ isP p = true ∧ n ≤ 6 ∧ p ^ n ≤ 1000000 ∧
  ∀ H' e, Same H H' → H e = none → H' e = some (.dT (kvsOf (spanL p n rs))) → Q (.ref e) H'
theorem sc_span : FnScope nSp ["_law_p", "_law_n", "_law_rows_here"] (defScope (top 51)) := ⟨rfl, rfl, rfl, by decide +kernel, rfl, by decide +kernel, by decide +kernel⟩
theorem ok_span {fdG fdU : FuncData} (F : FnP K "_law_span" 51 f fd) (T : Txt K mg) (FG : FnP K "_law_grown" 49 (He.ga K "_law_grown") fdG) (FU : FnP K "_law_plus" 48 (He.ga K "_law_plus") fdU) : FnOk P w K mg base CX0 3 f fd ["_law_p", "_law_n", "_law_rows_here"] spSpan := by
  have GG : FnOk P w K mg base CX0 2 _ fdG ["_law_p", "_law_found", "_law_vector_here"] spGrown := ok_grown FG T FU
  have BG : Binds K fdG ["_law_p", "_law_found", "_law_vector_here"] [] := FG.bindsN fun _ _ _ _ _ _ us hl => match us, hl with | [_, _, _], _ => rfl
  refine F.ok sc_span (fun vs H Q E h => ?_) (fun cdv A outer s H vs Q E hr h => ?_)
  · obtain ⟨p, n, l, b, ls, rs, rfl, _⟩ := h
    rfl
  · obtain ⟨p, n, l, b, ls, rs, rfl, hl, hls, hlen, hp, hn, hpn, k⟩ := h
    have nd := sc_span.nd
    have hu := hu_of hr
    refine ⟨_, PSs.nox (pss_cons (ps_set (i := 3) nd rfl (.inl rfl) (pe_dispT hr.units0 (pe_callTy call_tuple_of (by rfl) (T.fr "tuple") (by decide +kernel) (pa_cons (pe_op op_rep (pe_lst (pa_cons pe_int pa_nil)) (pv 1)) pa_nil)) pe_bl))
      (pss_cons (ps_for PassesOwn.never rfl (pi_list (pv 2)) (pg_name (i := 4) nd rfl (.inl rfl))
          (pss_cons (ps_set (i := 5) nd rfl (.inl rfl) (pe_callTy call_tuple_of (by rfl) (T.fr "tuple") (by decide +kernel) (pa_cons (pe_lc (own := [("_law_item", 6)]) (g := gName 6) (by rfl) nd (pi_list (pv 4)) (blkOk_by (own := [("_law_item", 6)]) (N := nSp) (sc := defScope (top 51)) (by decide +kernel)) (fun _ _ _ _ _ => pg_name (i := 6) nd rfl (Or.inl rfl)) (fun _ _ _ _ _ => pts_nil) (fun _ _ _ _ _ => pe_op op_modN (pv 6) (pv 0))) pa_nil)))
          (pss_one (ps_if (pt_cmp (pc_dnotin hu (pv 5) (pv 3)) rfl) (pss_one (ps_set (i := 3) nd rfl (.inl rfl) (pe_call GG (hr.mono (by decide)) (by rfl) (T.df "_law_grown" 49) FG.kp BG .nil pass0 (pa_cons (pv 0) (pa_cons (pv 3) (pa_cons (pv 5) pa_nil)))))) pss_nil))))
      (pss_one (ps_ret (pv 3))))), ?_⟩
    have hq := isP_pos hp
    intro zz hzz
    have key0 : ((List.replicate n (0 : Int)).map (Sum.inl : Int → L2.Key)).map kV = (List.replicate n 0).map V.int := by rw [List.map_map]; rfl
    have tz : (List.replicate ((n : Nat) : Int).toNat [V.int 0]).flatten = (List.replicate n 0).map V.int := by
      rw [Int.toNat_natCast]
      clear hlen hpn k hn key0
      induction n with
      | zero => rfl
      | succ n ih => rw [List.replicate_succ, List.flatten_cons, ih, List.replicate_succ]; rfl
    refine ⟨(by show 1 ≤ sizeLine; decide), fun e he => ⟨_, rfl, e, _, _, rfl, rfl, upd_same, by omega, by omega, ?_, fun e2 he2 => ?_⟩⟩
    · rw [Int.toNat_natCast]
      show 1 * n ≤ sizeLine
      exact Nat.le_of_lt (lt_line (by omega))
    refine ⟨e2, _, rfl, .inl ⟨SqL.of upd_same, fun t ht => ?_⟩⟩
    rw [tz] at ht ⊢
    have w1 := same_new (o := .dT []) hzz
    have w2 := w1.trans (same_new (o := .lst [V.int 0]) he)
    have w3 := w2.trans (same_new (o := .lst ((List.replicate n 0).map V.int)) he2)
    have w4 := w3.trans (same_new (o := .tup ((List.replicate n 0).map V.int)) ht)
    have z1 : upd H zz (.dT []) zz = some (.dT []) := upd_same
    have z4 := (same_new (o := .lst [V.int 0]) he |>.trans (same_new (o := .lst ((List.replicate n 0).map V.int)) he2) |>.trans (same_new (o := .tup ((List.replicate n 0).map V.int)) ht)) _ _ z1
    have t4 : upd (upd (upd (upd H zz (.dT [])) e (.lst [V.int 0])) e2 (.lst ((List.replicate n 0).map V.int))) t (.tup ((List.replicate n 0).map V.int)) t = some (.tup ((List.replicate n 0).map V.int)) := upd_same
    generalize upd (upd (upd (upd H zz (.dT [])) e (.lst [V.int 0])) e2 (.lst ((List.replicate n 0).map V.int))) t (.tup ((List.replicate n 0).map V.int)) = H4 at w4 z4 t4 ⊢
    refine ⟨z4, t, (List.replicate n (0 : Int)).map Sum.inl, rfl, by rw [key0]; exact t4, ?_⟩
    have w5 : Same H (upd H4 zz (.dT [((List.replicate n (0 : Int)).map Sum.inl, V.bl true)])) := Same.grow w4 hzz
    have z5 : upd H4 zz (.dT [((List.replicate n (0 : Int)).map Sum.inl, V.bl true)]) zz = some (.dT (kvsOf (spanL p n (rs.take 0)))) := upd_same
    generalize upd H4 zz (.dT [((List.replicate n (0 : Int)).map Sum.inl, V.bl true)]) = H5 at w5 z5 ⊢
    have hll := hls.length
    refine ⟨_, rfl, l, rfl, ⟨_, SqL.of (w5 _ _ hl)⟩, for_list (xs := ls.map V.ref) (fun i σ H' => ∃ d z4 z5, σ = [some (.int p), some (.int n), some (.ref l), some (.ref d), z4, z5, none] ∧ Same H H' ∧ H d = none ∧ H' d = some (.dT (kvsOf (spanL p n (rs.take i))))) ⟨zz, none, none, rfl, w5, hzz, z5⟩ (fun i σ H' _ z => ?_) ?_ ?_⟩
    · obtain ⟨d, z4, z5, _, s, _⟩ := z
      exact SqL.of (s _ _ hl)
    · rintro i x σ H1 hx ⟨d, z4, z5, rfl, s1, hd, hd1⟩
      obtain ⟨a, ha, rfl⟩ := refs_at hx
      obtain ⟨r, hr', hra⟩ := hls.get ha
      have hrl := hlen r (List.mem_of_getElem? hr')
      have ha1 := s1 _ _ hra
      refine ⟨_, rfl, a, rfl, ⟨_, SqL.of ha1⟩, fun D hD => lc_it (walk_list (K := K) (a := a) (xs := r.map V.int)) (fun i H' => H' = upd H1 D (.lst ((r.take i).map fun x => V.int (x % p)))) rfl (fun i H' _ z => SqL.of (by rw [z, upd_ne (ne_of_none ha1 hD)]; exact ha1)) ?_ ?_⟩
      · rintro i x H1 H2 hi rfl ⟨rfl, hx⟩
        obtain ⟨y, hy, rfl⟩ := ints_at hx
        refine ⟨rfl, yes_if ?_⟩
        refine ⟨_, rfl, _, rfl, _, _, rfl, rfl, (by omega), _, upd_same, lt_line (by simp; omega), ?_⟩
        show upd (upd _ D _) D (.lst (_ ++ [V.int (y.fmod p)])) = _
        rw [upd_upd, take_more hy, fmod_pos (by omega)]
      · rintro _ rfl
        refine ⟨D, _, rfl, .inl ⟨SqL.of upd_same, fun c hc => ?_⟩⟩
        have em : (r.take (r.map V.int).length).map (fun x => V.int (x % p)) = (modR p r).map V.int := by
          rw [List.length_map, List.take_length, modR, List.map_map]
          rfl
        rw [em] at hc ⊢
        have s2 := same_two hD hc (u := .tup ((modR p r).map V.int))
        have hcr : upd (upd H1 D (.lst ((modR p r).map V.int))) c (.tup ((modR p r).map V.int)) c = some (.tup ((modR p r).map V.int)) := upd_same
        generalize upd (upd H1 D (.lst ((modR p r).map V.int))) c (.tup ((modR p r).map V.int)) = H2 at s2 hcr ⊢
        have hd2 := s2 _ _ hd1
        have key : H2 c = some (.tup (((modR p r).map (Sum.inl : Int → L2.Key)).map kV)) := by
          rw [List.map_map]
          exact hcr
        have lenT : Len n (rs.take i) := fun q hq => hlen q (List.mem_of_mem_take hq)
        refine ⟨_, rfl, _, rfl, d, _, rfl, DGet.t hd2 key, _, rfl, ?_⟩
        rw [valK_kvs]
        refine ite2 (fun c' => ?_) (fun c' => ?_)
        · have hni : modR p r ∉ spanL p n (rs.take i) := by simpa using c'
          refine ⟨_, rfl, _, rfl, _, rfl, p, d, spanL p n (rs.take i), c, modR p r, n, rfl, hd2, hcr, spanL_rows hq.1 lenT, modR_row (by omega) hrl, by omega, by omega, hn, spanL_len hp lenT hpn, fun H3 e3 s3 he3 hee => ?_⟩
          refine ⟨e3, _, _, rfl, s1.trans (s2.trans s3), none_back (s1.trans s2) he3, ?_⟩
          rw [hee, spanL_more hr', spanStep, if_neg hni]
        · have hin : modR p r ∈ spanL p n (rs.take i) := by simpa using c'
          refine ⟨d, _, _, rfl, s1.trans s2, hd, ?_⟩
          rw [hd2, spanL_more hr', spanStep, if_pos hin]
    · rintro σ H1 ⟨d, z4, z5, rfl, s1, hd, hd1⟩
      rw [List.length_map, hll, List.take_length] at hd1
      exact ⟨_, rfl, k _ _ s1 hd hd1⟩
end
end K7

set_option Elab.async false
set_option linter.all false
set_option maxRecDepth 100000
set_option maxHeartbeats 4000000
/-! # Space.__len__; the law's look at a space: is -/
namespace K7
open PySem PySem.Spec PyProof.Rows L2 VX RX
section
variable {P : Program} {w : World} {K : PySem.W.Frag} {mg : Str → Option Value} {base : Heap} {f : Addr} {fd : FuncData}
abbrev sLen : Stmt := inClass (top iSpace) 6
abbrev sEq : Stmt := inClass (top iSpace) 7
/-- __len__ and __eq__ -/
structure Leq (K : PySem.W.Frag) (fdN fdE : FuncData) : Prop where
  hs : PySem.W.findIn K (.ref (He.ga K "Space")) "__len__" = some (some (.ref (He.ma K (He.ga K "Space") "__len__")))
  hf : PySem.W.isFn K (.ref (He.ma K (He.ga K "Space") "__len__")) = true
  fN : FunD K "__len__" "Space.__len__" (defArgs sLen) (defBody sLen) (defScope sLen) [] [] (He.ma K (He.ga K "Space") "__len__") fdN
  first : PySem.W.selfFirst K (He.ga K "Space") = true
  eq : PySem.W.findIn K (.ref (He.ga K "Space")) "__eq__" = some (some (.ref (He.ma K (He.ga K "Space") "__eq__")))
  eqf : PySem.W.isFn K (.ref (He.ma K (He.ga K "Space") "__eq__")) = true
  fE : FunD K "__eq__" "Space.__eq__" (defArgs sEq) (defBody sEq) (defScope sEq) [] [] (He.ma K (He.ga K "Space") "__eq__") fdE
def spLenS (K : PySem.W.Frag) : Sp := fun vs H Q _ => ∃ (x : Addr) (p : Int) (n : Nat) (b : List (List Int)), vs = [.ref x] ∧ IsSp K H x p n b ∧ Q (.int (b.length : Nat)) H
theorem sc_slen : FnScope ["self"] ["self"] (defScope sLen) := ⟨rfl, rfl, rfl, by decide +kernel, rfl, by decide +kernel, by decide +kernel⟩
theorem ok_slen (F : FunD K "__len__" "Space.__len__" (defArgs sLen) (defBody sLen) (defScope sLen) [] [] f fd) (T : Txt K mg) : FnOk P w K mg base CX0 1 f fd ["self"] (spLenS K) := by
  refine F.ok sc_slen (fun vs H Q E h => ?_) (fun cdv A outer s H vs Q E hr h => ?_)
  · obtain ⟨x, p, n, b, rfl, _⟩ := h
    rfl
  · obtain ⟨x, p, n, b, rfl, hx, k⟩ := h
    obtain ⟨dx, t, as, h1, h2, h3⟩ := hx.ob
    refine ⟨_, PSs.nox (pss_one (ps_ret (pe_callB call_len_seq (by rfl) (T.fr "len") boot_len (pa_cons (pe_fld (pv 0) rfl) pa_nil)))), ?_⟩
    have e : ((as.map V.ref).length : Int) = (b.length : Nat) := by rw [List.length_map, h3.length]
    refine ⟨_, rfl, x, _, dx, _, .ref t, rfl, h1, T.cls, T.fw, rfl, t, _, rfl, .inr (SqT.of h2), ?_⟩
    rw [e]
    exact k
abbrev nIs : List Str := ["_law_space", "_law_p", "_law_n", "_law_found", "_law_rows_here", "_law_leads", "_law_row", "_law_item", "_law_k", "_law_j"]
theorem rNe_int {i j : Int} {Q : VK} {H : Hp} (e : i = j) (h : Q (.bl false) H) : rNe (.int i) (.int j) H Q := by
  subst e
  refine ⟨rfl, ?_⟩
  show Q (.bl (!decide (V.int i = V.int i))) H
  rw [decide_eq_true rfl]
  exact h
theorem kvs_pow {p : Int} {l : List (List Int)} {k : Nat} (h : 2 ≤ p) (e : l.length = p.toNat ^ k) : (((kvsOf l).length : Nat) : Int) = p ^ k := by
  rw [kvs_len, e, Int.natCast_pow, Int.toNat_of_nonneg (by omega)]
theorem take_one' {α β : Type} {g : α → β} {xs : List α} {i : Nat} {x : α} (h : xs[i]? = some x) : (xs.take (i + 1)).map g = (xs.take i).map g ++ [g x] := take_more h
theorem cols_list {p : Int} {n : Nat} {b : List (List Int)} (hR : Rref p n b) {i : Nat} {ri : List Int} (h : b[i]? = some ri) : (b.map fun r => V.int (at0 r (lead ri))) = (List.range b.length).map fun c : Nat => V.int (if c = i then 1 else 0) := by
  refine List.ext_getElem (by simp) fun j h1 h2 => ?_
  have hj : j < b.length := by simpa using h1
  obtain ⟨hi, rfl⟩ := List.getElem?_eq_some_iff.mp h
  rw [List.getElem_map, List.getElem_map, List.getElem_range, hR.cols (List.getElem_mem hj) (List.getElem_mem hi)]
  have hp := List.pairwise_iff_getElem.mp hR.inc
  by_cases e : j = i
  · subst e
    rw [if_pos rfl, if_pos rfl]
  · rw [if_neg e, if_neg]
    intro z
    rcases Nat.lt_or_gt_of_ne e with g | g
    · have := hp j i hj hi g
      omega
    · have := hp i j hi hj g
      omega
def spIs (K : PySem.W.Frag) : Sp := fun vs H Q _ => ∃ (x : Addr) (p : Int) (n : Nat) (b : List (List Int)) (d : Addr) (l : List (List Int)), vs = [.ref x, .int p, .int n, .ref d] ∧ IsSp K H x p n b ∧ isP p = true ∧ n ≤ 12 ∧ Rref p n b ∧
  H d = some (.dT (kvsOf l)) ∧ l.length = p.toNat ^ b.length ∧ (∀ r ∈ b, r ∈ l) ∧ ∀ H', Same H H' → Q (.bl true) H'
theorem sc_is : FnScope nIs ["_law_space", "_law_p", "_law_n", "_law_found"] (defScope (top 52)) := ⟨rfl, rfl, rfl, by decide +kernel, rfl, by decide +kernel, by decide +kernel⟩
theorem ok_is {g1 g2 : Addr} {fdP fdL' fdB fdIn fdN fdE fdW : FuncData} {dv : V} (F : FnP K "_law_is" 52 f fd) (T : Txt K mg) (S : Spf K mg g1 g2 fdP fdL' fdB fdIn dv) (Y : Leq K fdN fdE) (FW : FnP K "_law_power" 50 (He.ga K "_law_power") fdW) : FnOk P w K mg base CX0 4 f fd ["_law_space", "_law_p", "_law_n", "_law_found"] (spIs K) := by
  have GP : FnOk P w K mg base CX0 1 _ fdP ["self"] (spGetP K) := ok_getp S.fP T
  have BP : Binds K fdP ["self"] [] := S.fP.bindsN fun _ _ _ _ _ _ us hl => match us, hl with | [_], _ => rfl
  have GL : FnOk P w K mg base CX0 1 _ fdL' ["self"] (spGetL K) := ok_getl S.fL T
  have BL : Binds K fdL' ["self"] [] := S.fL.bindsN fun _ _ _ _ _ _ us hl => match us, hl with | [_], _ => rfl
  have GB : FnOk P w K mg base CX0 1 _ fdB ["self"] (spBasis K) := ok_basis S.fB T
  have BB : Binds K fdB ["self"] [] := S.fB.bindsN fun _ _ _ _ _ _ us hl => match us, hl with | [_], _ => rfl
  have GN : FnOk P w K mg base CX0 1 _ fdN ["self"] (spLenS K) := ok_slen Y.fN T
  have BN : Binds K fdN ["self"] [] := Y.fN.bindsN fun _ _ _ _ _ _ us hl => match us, hl with | [_], _ => rfl
  have RL : FnR P w K mg base CX0 1 (He.ma K (He.ga K "Space") "__len__") (spLenS K) := (GN.raw BN .nil).imp fun vs H Q E h => by rw [List.append_nil]; exact h
  have GW : FnOk P w K mg base CX0 1 _ fdW ["_law_p", "_law_k"] spPower := ok_power FW T
  have BW : Binds K fdW ["_law_p", "_law_k"] [] := FW.bindsN fun _ _ _ _ _ _ us hl => match us, hl with | [_, _], _ => rfl
  obtain ⟨aP, hP⟩ := S.pp
  obtain ⟨aL, hL⟩ := S.pl
  refine F.ok sc_is (fun vs H Q E h => ?_) (fun cdv A outer s H vs Q E hr h => ?_)
  · obtain ⟨x, p, n, b, d, l, rfl, _⟩ := h
    rfl
  · obtain ⟨x, p, n, b, d, l, rfl, hx, hp, hn, hR, hd, hlen, hin, k⟩ := h
    have nd := sc_is.nd
    have hr1 : Room 1 _ := hr.mono (by decide)
    have hr2 : Room 2 _ := hr.mono (by decide)
    have hu := hu_of hr
    have hu0 := hr.units0
    have bi : bootBuiltins "isinstance" = some (Value.builtin "isinstance") := by decide +kernel
    have bt : bootBuiltins "tuple" = some (Value.type "tuple") := by decide +kernel
    refine ⟨_, PSs.nox (pss_cons (ps_set (i := 4) nd rfl (.inr rfl) (pe_meth0 (pv 0) T.cls S.mb GB hr1 BB .nil pass0)) (pss_cons (ps_if (PW.pt (pw_or (pt_cmpR op_ne (pe_prop (pv 0) T.cls hP GP hr2 BP .nil pass0 rfl) (pv 1) (nomark _)) (pw_or (pt_cmpR op_ne (pe_prop (pv 0) T.cls hL GL hr2 BL .nil pass0 rfl) (pv 2) (nomark _)) (pw_or (pt_cmpR op_ne (pe_callB (call_lenO (E := E0) RL Y.hs Y.hf pass0 hr2) (by rfl) (T.fr "len") boot_len (pa_cons (pv 0) pa_nil)) (pe_callB call_len_seq (by rfl) (T.fr "len") boot_len (pa_cons (pv 4) pa_nil)) (nomark _)) (pw_or1 (pt_cmpR op_ne (pe_callB call_len_dT (by rfl) (T.fr "len") boot_len (pa_cons (pv 3) pa_nil)) (pe_call GW hr1 (by rfl) (T.df "_law_power" 50) FW.kp BW .nil pass0 (pa_cons (pv 1) (pa_cons (pe_callB call_len_seq (by rfl) (T.fr "len") boot_len (pa_cons (pv 4) pa_nil)) pa_nil))) (nomark _))))))) (pss_one (ps_ret pe_bl)) pss_nil) (pss_cons (ps_set (i := 5) nd rfl (.inr rfl) (pe_lst pa_nil)) (pss_cons (ps_for PassesOwn.never rfl (pi_list (pv 4)) (pg_name (i := 6) nd rfl (.inr rfl)) (pss_cons (ps_if (PW.pt (pw_or (pt_not (pt_val (pe_callB (id := "isinstance") (r := rIsi K) call_isi (by rfl) (T.fr "isinstance") bi (pa_cons (pv 6) (pa_cons (pe_bltn (v := .ty "tuple") (u := .type "tuple") (by rfl) (T.fr "tuple") bt rfl) pa_nil))))) (pw_or (pt_cmp (pc_dnotin hu (pv 6) (pv 3)) rfl) (pw_or1 (pt_cmpR (op_neSame hu0) (pe_lc (own := [("_law_item", 7)]) (g := gName 7) (by rfl) nd (pi_tup (pv 6)) (blkOk_by (own := [("_law_item", 7)]) (N := nIs) (sc := defScope (top 52)) (by decide +kernel)) (fun _ _ _ _ _ => pg_name (i := 7) nd rfl (Or.inl rfl)) (fun _ _ _ _ _ => pts_one (pt_not (pt_chain op_le op_lt pe_int (pv 7) (pv 1)))) (fun _ _ _ _ _ => pv 7)) (pe_lst pa_nil) (nomark _)))))) (pss_one (ps_ret pe_bl)) pss_nil) (pss_one (ps_expr (pe_bm PySem.F.plainAttrs_list PySem.F.slot_list_append PySem.F.type_list_append mt_append (pv 5) (pa_cons (pe_ix (r := rIxL K) ix_list (pe_lc (own := [("_law_k", 8)]) (g := gName 8) (by rfl) nd (pi_range1 (by rfl) (T.fr "range") (pa_cons (pv 2) pa_nil)) (blkOk_by (own := [("_law_k", 8)]) (N := nIs) (sc := defScope (top 52)) (by decide +kernel)) (fun _ _ _ _ _ => pg_name (i := 8) nd rfl (Or.inl rfl)) (fun _ _ _ _ _ => pts_one (pt_cmpR op_ne (pe_ix (r := rIxT K) ix_tup (pv 6) (pv 8) (fun _ _ => rfl)) pe_int (nomark _))) (fun _ _ _ _ _ => pv 8)) pe_int (fun _ _ => rfl)) pa_nil)))))) (pss_cons (ps_for PassesOwn.never rfl (pi_range1 (by rfl) (T.fr "range") (pa_cons (pe_callB call_len_seq (by rfl) (T.fr "len") boot_len (pa_cons (pv 4) pa_nil)) pa_nil)) (pg_name (i := 8) nd rfl (.inr rfl)) (pss_one (ps_if (pt_cmpR (op_neSame hu0) (pe_lc (own := [("_law_j", 9)]) (g := gName 9) (by rfl) nd (pi_range1 (by rfl) (T.fr "range") (pa_cons (pe_callB call_len_seq (by rfl) (T.fr "len") boot_len (pa_cons (pv 4) pa_nil)) pa_nil)) (blkOk_by (own := [("_law_j", 9)]) (N := nIs) (sc := defScope (top 52)) (by decide +kernel)) (fun _ _ _ _ _ => pg_name (i := 9) nd rfl (Or.inl rfl)) (fun _ _ _ _ _ => pts_nil) (fun _ _ _ _ _ => (pe_ix (r := rIxT K) ix_tup (pe_ix (r := rIxL K) ix_list (pv 4) (pv 9) (fun _ _ => rfl)) (pe_ix (r := rIxL K) ix_list (pv 5) (pv 8) (fun _ _ => rfl)) (fun _ _ => rfl)))) (pe_lc (own := [("_law_j", 9)]) (g := gName 9) (by rfl) nd (pi_range1 (by rfl) (T.fr "range") (pa_cons (pe_callB call_len_seq (by rfl) (T.fr "len") boot_len (pa_cons (pv 4) pa_nil)) pa_nil)) (blkOk_by (own := [("_law_j", 9)]) (N := nIs) (sc := defScope (top 52)) (by decide +kernel)) (fun _ _ _ _ _ => pg_name (i := 9) nd rfl (Or.inl rfl)) (fun _ _ _ _ _ => pts_nil) (fun _ _ _ _ _ => pe_callTy (r := fun xs H Q => (∃ i, xs = [.int i] ∧ Q (.int i) H) ∨ ∃ k, xs = [.bl k] ∧ Q (.int (if k then 1 else 0)) H) call_int1 (by rfl) (T.fr "int") boot_int (pa_cons (pe_cmpR op_eq (pv 9) (pv 8) (nomark _)) pa_nil))) (nomark _)) (pss_one (ps_ret pe_bl)) pss_nil))) (pss_one (ps_ret (pe_cmpR (op_eqSame hu0) (pe_lc (own := [("_law_k", 8)]) (g := gName 8) (by rfl) nd (pi_range2 (by rfl) (T.fr "range") (pa_cons pe_int (pa_cons (pe_callB call_len_seq (by rfl) (T.fr "len") boot_len (pa_cons (pv 5) pa_nil)) pa_nil))) (blkOk_by (own := [("_law_k", 8)]) (N := nIs) (sc := defScope (top 52)) (by decide +kernel)) (fun _ _ _ _ _ => pg_name (i := 8) nd rfl (Or.inl rfl)) (fun _ _ _ _ _ => pts_one (pt_cmpR op_ge (pe_ix (r := rIxL K) ix_list (pv 5) (pe_op op_sub (pv 8) pe_int) (fun _ _ => rfl)) (pe_ix (r := rIxL K) ix_list (pv 5) (pv 8) (fun _ _ => rfl)) (nomark _))) (fun _ _ _ _ _ => pv 8)) (pe_lst pa_nil) (nomark _))))))))), ?_⟩
    have hq := isP_pos hp
    have h0 : 0 < p := by omega
    have hcard := hR.card
    obtain ⟨dx, t, as, h1, h2, h3⟩ := id hx.ob
    refine ⟨_, rfl, x, dx, _, rfl, h1, rfl, x, p, n, b, rfl, hx, fun H1 rh bs s1 hrh0 hrh hbs => ?_⟩
    have hx1 := hx.same s1
    have o1 := s1 _ _ h1
    have hd1 := s1 _ _ hd
    have hbl := hbs.length
    have hbl2 : ((bs.map V.ref).length : Int) = (b.length : Nat) := by rw [List.length_map, hbl]
    refine ⟨_, rfl, x, dx, _, rfl, o1, x, p, n, b, rfl, hx1, _, rfl, rNe_int rfl ⟨_, rfl, iteF ?_⟩⟩
    refine ⟨_, rfl, x, dx, _, rfl, o1, x, p, n, b, rfl, hx1, _, rfl, rNe_int rfl ⟨_, rfl, iteF ?_⟩⟩
    refine ⟨_, rfl, x, dx, _, rfl, o1, x, p, n, b, rfl, hx1, _, rfl, by omega, by omega, _, rfl, rh, _, rfl, .inl (SqL.of hrh), rNe_int hbl2.symm ⟨_, rfl, iteF ?_⟩⟩
    refine ⟨_, rfl, d, _, rfl, hd1, _, rfl, _, rfl, rh, _, rfl, .inl (SqL.of hrh), p, b.length, by rw [hbl2]; rfl, h0, by omega, by omega, rNe_int (kvs_pow hq.1 hlen) ⟨_, rfl, iteF ?_⟩⟩
    refine ⟨(by show 0 ≤ sizeLine; decide), fun L hL => ?_⟩
    have LG : upd H1 L (.lst []) L = some (.lst ((b.take 0).map fun r => V.int (lead r : Nat))) := upd_same
    have SG : Same H1 (upd H1 L (.lst [])) := same_new hL
    generalize upd H1 L (.lst []) = G0 at LG SG ⊢
    refine ⟨_, rfl, rh, rfl, ⟨_, SqL.of (SG _ _ hrh)⟩, for_list (xs := bs.map V.ref) (fun i σ H' => ∃ z6, σ = [some (.ref x), some (.int p), some (.int n), some (.ref d), some (.ref rh), some (.ref L), z6, none, none, none] ∧ Same H1 H' ∧ H' L = some (.lst ((b.take i).map fun r => V.int (lead r : Nat)))) ⟨none, rfl, SG, LG⟩ (fun i σ H' _ z => ?_) ?_ ?_⟩
    · obtain ⟨_, _, s, _⟩ := z
      exact SqL.of (s _ _ hrh)
    · rintro i v σ H2 hv ⟨z6, rfl, s2, hL2⟩
      obtain ⟨a, ha, rfl⟩ := refs_at hv
      obtain ⟨r, hr', hra⟩ := hbs.get ha
      have hmem : r ∈ b := List.mem_of_getElem? hr'
      have hrow := hR.rows r hmem
      have hlt := hR.lt r hmem
      have hrl := hrow.1
      have ha2 : H2 a = some (.tup (r.map V.int)) := s2 _ _ hra
      refine ⟨_, rfl, .ref a, .ty "tuple", _, _, true, rfl, .ty _, .base (.tup ha2), kit_ty (by decide +kernel), true, rfl, iteF ?_⟩
      have key : H2 a = some (.tup ((r.map (Sum.inl : Int → L2.Key)).map kV)) := by
        rw [List.map_map]
        exact ha2
      refine ⟨_, rfl, _, rfl, d, _, rfl, DGet.t (s2 _ _ hd1) key, _, rfl, ?_⟩
      rw [valK_kvs, decide_eq_true (hin r hmem)]
      refine iteF ?_
      refine ⟨_, rfl, a, rfl, ⟨_, SqT.of ha2⟩, fun D1 hD1 => lc_it (walk_tup (K := K) (a := a) (xs := r.map V.int)) (fun i H' => H' = upd H2 D1 (.lst [])) rfl (fun i H' _ z => SqT.of (by rw [z, upd_ne (ne_of_none ha2 hD1)]; exact ha2)) ?_ ?_⟩
      · rintro i v Ha Hb hi rfl ⟨rfl, hv⟩
        obtain ⟨y, hy, rfl⟩ := ints_at hv
        have yb := hrow.2 y (List.mem_of_getElem? hy)
        refine ⟨rfl, _, rfl, _, _, rfl, rfl, _, rfl, ite2 (fun _ => ⟨_, rfl, _, _, rfl, rfl, _, rfl, ite2 (fun c => ?_) (fun _ => rfl)⟩) (fun c => absurd (decide_eq_true yb.1) c)⟩
        rw [decide_eq_true yb.2] at c
        cases c
      · rintro _ rfl
        refine ⟨(by show 0 ≤ sizeLine; decide), fun e1 he1 => ?_⟩
        have s3 := same_new (o := .lst []) hD1
        have s4 := s3.trans (same_new (o := .lst []) he1)
        refine ⟨D1, e1, [], rfl, rfl, SqL.of ((same_new he1) _ _ upd_same), SqL.of upd_same, (fun v hv => nomatch hv), _, rfl, iteF ?_⟩
        have hL4 := s4 _ _ hL2
        have ha4 := s4 _ _ ha2
        have w4 := s2.trans s4
        have LD : H2 L = some (.lst ((b.take i).map fun r => V.int (lead r : Nat))) := hL2
        generalize upd (upd H2 D1 (.lst [])) e1 (.lst []) = H4 at s4 hL4 ha4 w4 ⊢
        refine ⟨_, rfl, .inl ⟨rfl, _, SqL.of hL4⟩, _, rfl, _, rfl, by omega, by omega, fun D2 hD2 => lc_it (walk_range (lo := 0) (n := ((n : Nat) : Int).toNat)) (fun i H' => H' = upd H4 D2 (.lst (((List.range i).filter fun c => decide (at0 r c ≠ 0)).map fun c : Nat => V.int c))) rfl (fun i H' _ z => trivial) ?_ ?_⟩
        · rintro i v Ha Hb hi rfl ⟨rfl, rfl⟩
          have hi' : i < n := by omega
          have za : (0 : Int) + (i : Int) = (i : Nat) := by omega
          refine ⟨rfl, _, rfl, _, rfl, a, _, _, _, rfl, rfl, SqT.of (by rw [upd_ne (ne_of_none ha4 hD2)]; exact ha4), (by rw [za]; exact atI_row (by omega)), rfl, _, rfl, ?_⟩
          rw [dec_int, List.range_succ, List.filter_append, List.map_append]
          refine ite2 (fun c => ?_) (fun c => ?_)
          · have c' : at0 r i ≠ 0 := by simpa using c
            refine ⟨_, rfl, _, upd_same, lt_line (by rw [List.length_map]; exact Nat.le_trans (List.length_filter_le _ _) (by rw [List.length_range]; omega)), ?_⟩
            rw [upd_upd, List.filter_cons_of_pos (by simpa using c')]
            show upd H4 D2 (.lst (_ ++ [V.int (0 + (i : Int))])) = _
            rw [za]
            rfl
          · have c' : at0 r i = 0 := by simpa using c
            rw [List.filter_cons_of_neg (by simp [c']), List.filter_nil, List.map_nil, List.append_nil]
        · rintro _ rfl
          have hf : ((List.range ((n : Nat) : Int).toNat).filter fun c => decide (at0 r c ≠ 0))[0]? = some (lead r) := by
            rw [← List.head?_eq_getElem?, List.head?_filter, List.find?_range_eq_some]
            refine ⟨by simpa using lead_ne (by omega), by simp; omega, fun j hj => by simpa using lead_zero hj⟩
          have hLL := (same_new (o := .lst (((List.range ((n : Nat) : Int).toNat).filter fun c => decide (at0 r c ≠ 0)).map fun c : Nat => V.int c)) hD2) _ _ hL4
          refine ⟨D2, _, 0, _, rfl, rfl, SqL.of upd_same, (atI_nat (j := 0) (v := V.int (lead r : Nat)) (by rw [List.getElem?_map, hf]; rfl)), L, _, _, rfl, rfl, hLL, lt_line (by rw [List.length_map]; exact Nat.le_trans (List.length_take_le' _ _) (by omega)), ?_⟩
          refine ⟨_, rfl, fun c o z => ?_, ?_⟩
          · rw [upd_ne (ne_of_none z hL)]
            exact (same_new hD2) _ _ (w4 _ _ z)
          · rw [upd_same, take_one' hr']
    · rintro σ H2 ⟨z6, rfl, s2, hL2⟩
      rw [List.length_map, hbl, List.take_length] at hL2
      have hrh2 := s2 _ _ hrh
      have bs2 := hbs.same s2
      have hbn : ((bs.map V.ref).length : Int).toNat = b.length := by omega
      refine ⟨_, rfl, rh, _, rfl, .inl (SqL.of hrh2), _, rfl, by omega, by omega, for_range (lo := 0) (n := ((bs.map V.ref).length : Int).toNat) (fun i σ H' => ∃ z8, σ = [some (.ref x), some (.int p), some (.int n), some (.ref d), some (.ref rh), some (.ref L), z6, none, z8, none] ∧ Same H2 H') ⟨none, rfl, Same.refl _⟩ ?_ ?_⟩
      · rintro i σ H3 hi ⟨z8, rfl, s3⟩
        have hi' : i < b.length := by omega
        have hri : b[i]? = some b[i] := List.getElem?_eq_getElem hi'
        generalize b[i] = ri at hri
        have hL3 := s3 _ _ hL2
        have hrh3 := s3 _ _ hrh2
        have zi : (0 : Int) + (i : Int) = (i : Nat) := by omega
        refine ⟨_, rfl, rh, _, rfl, .inl (SqL.of hrh3), _, rfl, by omega, by omega, fun D3 hD3 => lc_it (walk_range (lo := 0) (n := ((bs.map V.ref).length : Int).toNat)) (fun j H' => H' = upd H3 D3 (.lst ((b.take j).map fun r => V.int (at0 r (lead ri))))) rfl (fun _ _ _ _ => trivial) ?_ ?_⟩
        · rintro j v Ha Hb hj rfl ⟨rfl, rfl⟩
          have hj' : j < b.length := by omega
          have zj : (0 : Int) + (j : Int) = (j : Nat) := by omega
          obtain ⟨aj, haj⟩ : ∃ a, bs[j]? = some a := ⟨bs[j]'(by omega), List.getElem?_eq_getElem (by omega)⟩
          obtain ⟨rj, hrj, hrja⟩ := bs2.get haj
          have hmj := List.mem_of_getElem? hrj
          have hmi := List.mem_of_getElem? hri
          have h3a : H3 aj = some (.tup (rj.map V.int)) := s3 _ _ hrja
          refine ⟨rfl, yes_if ?_⟩
          refine ⟨_, rfl, _, rfl, rh, _, _, .ref aj, rfl, rfl, SqL.of (by rw [upd_ne (ne_of_none hrh3 hD3)]; exact hrh3), (by rw [zj]; exact atI_nat (by rw [List.getElem?_map, haj]; rfl)), _, rfl, _, rfl, L, _, _, .int (lead ri : Nat), rfl, rfl, SqL.of (by rw [upd_ne (ne_of_none hL3 hD3)]; exact hL3), (by rw [zi]; exact atI_nat (by rw [List.getElem?_map, hri]; rfl)), aj, _, _, _, rfl, rfl, SqT.of (by rw [upd_ne (ne_of_none h3a hD3)]; exact h3a), atI_row (by rw [(hR.rows rj hmj).1]; exact hR.lt ri hmi), _, upd_same, lt_line (by rw [List.length_map]; exact Nat.le_trans (List.length_take_le' _ _) (by omega)), ?_⟩
          rw [upd_upd, take_one' hrj]
        · rintro _ rfl
          have s4 := same_new (o := .lst ((b.take ((bs.map V.ref).length : Int).toNat).map fun r => V.int (at0 r (lead ri)))) hD3
          have d3 : upd H3 D3 (.lst ((b.take ((bs.map V.ref).length : Int).toNat).map fun r => V.int (at0 r (lead ri)))) D3 = some (.lst (b.map fun r => V.int (at0 r (lead ri)))) := by rw [upd_same, hbn, List.take_length]
          generalize upd H3 D3 (.lst ((b.take ((bs.map V.ref).length : Int).toNat).map fun r => V.int (at0 r (lead ri)))) = H4 at s4 d3 ⊢
          have hrh4 := s4 _ _ hrh3
          refine ⟨_, rfl, rh, _, rfl, .inl (SqL.of hrh4), _, rfl, by omega, by omega, fun D4 hD4 => lc_it (walk_range (lo := 0) (n := ((bs.map V.ref).length : Int).toNat)) (fun j H' => H' = upd H4 D4 (.lst ((List.range j).map fun c : Nat => V.int (if c = i then 1 else 0)))) rfl (fun _ _ _ _ => trivial) ?_ ?_⟩
          · rintro j v Ha Hb hj rfl ⟨rfl, rfl⟩
            refine ⟨rfl, yes_if ?_⟩
            refine ⟨_, rfl, _, rfl, rfl, .inr ⟨_, rfl, _, upd_same, lt_line (by rw [List.length_map, List.length_range]; omega), ?_⟩⟩
            rw [upd_upd, List.range_succ, List.map_append]
            show upd H4 D4 (.lst (_ ++ [V.int (if decide (V.int (0 + (j : Int)) = V.int (0 + (i : Int))) = true then 1 else 0)])) = upd H4 D4 (.lst (_ ++ [V.int (if j = i then 1 else 0)]))
            rw [dec_int]
            by_cases e : j = i
            · subst e
              rw [if_pos (by simp), if_pos rfl]
            · rw [if_neg (by simp; omega), if_neg e]
          · rintro _ rfl
            have s5 := same_new (o := .lst ((List.range ((bs.map V.ref).length : Int).toNat).map fun c : Nat => V.int (if c = i then 1 else 0))) hD4
            refine ⟨D3, D4, _, rfl, rfl, SqL.of (s5 _ _ d3), SqL.of (by rw [upd_same, hbn, cols_list hR hri]), (fun v hv => by
              obtain ⟨r, _, rfl⟩ := List.mem_map.mp hv
              exact .inl rfl), _, rfl, iteF ⟨_, rfl, s3.trans (s4.trans s5)⟩⟩
      · rintro σ H3 ⟨z8, rfl, s3⟩
        have hL3 := s3 _ _ hL2
        have ll : (b.map fun r => V.int (lead r : Nat)).length = b.length := List.length_map _
        refine ⟨_, rfl, L, _, rfl, .inl (SqL.of hL3), _, _, rfl, ⟨by decide, by decide, by omega, by omega⟩, fun D5 hD5 => lc_it (walk_range (lo := 1) (n := ((((b.map fun r => V.int (lead r : Nat)).length : Nat) : Int) - 1).toNat)) (fun j H' => H' = upd H3 D5 (.lst [])) rfl (fun _ _ _ _ => trivial) ?_ ?_⟩
        · rintro j v Ha Hb hj rfl ⟨rfl, rfl⟩
          have hj' : j + 1 < b.length := by omega
          have e1 : (1 : Int) + (j : Int) - 1 = (j : Nat) := by omega
          have e2 : (1 : Int) + (j : Int) = ((j + 1 : Nat) : Int) := by omega
          have g1 : b[j]? = some (b[j]'(by omega)) := List.getElem?_eq_getElem _
          have g2 : b[j + 1]? = some b[j + 1] := List.getElem?_eq_getElem _
          have inc : lead (b[j]'(by omega)) < lead b[j + 1] := List.pairwise_iff_getElem.mp hR.inc j (j + 1) (by omega) hj' (by omega)
          refine ⟨rfl, _, rfl, _, rfl, _, _, rfl, rfl, L, _, _, _, rfl, rfl, SqL.of (by rw [upd_ne (ne_of_none hL3 hD5)]; exact hL3), (by rw [e1]; exact atI_nat (by rw [List.getElem?_map, g1]; rfl)), _, rfl, _, rfl, L, _, _, _, rfl, rfl, SqL.of (by rw [upd_ne (ne_of_none hL3 hD5)]; exact hL3), (by rw [e2]; exact atI_nat (by rw [List.getElem?_map, g2]; rfl)), _, _, rfl, rfl, _, rfl, ite2 (fun c => ?_) (fun _ => rfl)⟩
          have c' := of_decide_eq_true c
          omega
        · rintro _ rfl
          have s4 := same_new (o := .lst []) hD5
          refine ⟨(by show 0 ≤ sizeLine; decide), fun e5 he5 => ⟨D5, e5, [], rfl, rfl, SqL.of ((same_new he5) _ _ upd_same), SqL.of upd_same, (fun v hv => nomatch hv), k _ ((s1.trans (s2.trans s3)).trans (s4.trans (same_new he5)))⟩⟩
end
end K7

set_option Elab.async false
set_option linter.all false
set_option maxRecDepth 100000
set_option maxHeartbeats 4000000
/-! # Space.__eq__; the law's refused -/
namespace K7
open PySem PySem.Spec PyProof.Rows L2 VX RX
section
variable {P : Program} {w : World} {K : PySem.W.Frag} {mg : Str → Option Value} {base : Heap} {f : Addr} {fd : FuncData}
/-- what isinstance and except look at -/
structure Tyo (K : PySem.W.Frag) : Prop where
  ha : PySem.W.findIn K (.ref (He.ga K "Space")) "__class__" = some (some (.builtin "object.__class__"))
  hn : PySem.W.specialIn K (.builtin "object.__class__") "__get__" = some (some (.builtin "getset_descriptor.__get__"))
  htk : PySem.W.takesIn K (.builtin "object.__class__") = some true
  hm : PySem.W.mroIn K (He.ga K "Space") (.type "object") = some true
  exm : PySem.W.exmOne K (.ref (He.ga K "BadMatrix")) (.ref (He.ga K "BadMatrix")) = some true
theorem kit_self {C : Addr} : PySem.W.kitOne K (.ref C) (.ref C) = some true := if_pos (beq_self_eq_true _)
def SamS (K : PySem.W.Frag) (a b : Addr) (H : Hp) : Prop := ∃ (p : Int) (n : Nat) (bb : List (List Int)), IsSp K H a p n bb ∧ IsSp K H b p n bb
theorem sc_seq : FnScope ["self", "other"] ["self", "other"] (defScope sEq) := ⟨rfl, rfl, rfl, by decide +kernel, rfl, by decide +kernel, by decide +kernel⟩
theorem AreRows.prs {H : Hp} : ∀ {as cs : List Addr} {b : List (List Int)}, AreRows H as b → AreRows H cs b → Prs (DTup K DFlat) (as.map V.ref) (cs.map V.ref) H
  | [], _, _, .nil, .nil => Prs.nil
  | _ :: _, [], _, h1, h2 => by
    cases h2
    cases h1
  | a :: as, c :: cs, r :: b, .cons h1 t1, .cons h2 t2 => Prs.cons ⟨a, c, _, _, rfl, rfl, SqT.of h1, SqT.of h2, rfl, fun i x y hx hy => by
      rw [hx] at hy
      obtain rfl := Option.some.inj hy
      obtain ⟨z, _, rfl⟩ := ints_at hx
      exact ⟨rfl, rfl, by simp [eqV]⟩⟩ (AreRows.prs t1 t2)
theorem ok_seq (F : FunD K "__eq__" "Space.__eq__" (defArgs sEq) (defBody sEq) (defScope sEq) [] [] f fd) (T : Txt K mg) (Y : Tyo K) : FnOk P w K mg base CX0 3 f fd ["self", "other"] (spEq (SamS K)) := by
  refine F.ok sc_seq (fun vs H Q E h => ?_) (fun cdv A outer s H vs Q E hr h => ?_)
  · obtain ⟨a, b, rfl, _⟩ := h
    rfl
  · obtain ⟨a, b, rfl, ⟨p, n, bb, h1, h2⟩, k⟩ := h
    obtain ⟨dx, t, as, ho, ht, hr1⟩ := h1.ob
    obtain ⟨dy, u, cs, ho', hu, hr2⟩ := h2.ob
    have bi : bootBuiltins "isinstance" = some (Value.builtin "isinstance") := by decide +kernel
    refine ⟨_, PSs.nox (pss_one (ps_ret (pe_and (pe_callB (id := "isinstance") (r := rIsi K) call_isi (by rfl) (T.fr "isinstance") bi (pa_cons (pv 1) (pa_cons (pe_glob (v := .ref (He.ga K "Space")) (by rfl) T.space rfl) pa_nil))) (pe_and (pe_cmpR op_eq (pe_fld (pv 0) rfl) (pe_fld (pv 1) rfl) (nomark _)) (pe_and (pe_cmpR op_eq (pe_fld (pv 0) rfl) (pe_fld (pv 1) rfl) (nomark _)) (pe_one (pe_cmpR (op_eqG (rcG_tup (mon_tup mon_flat) (eqG_tup mon_flat eqG_flat)) hr) (pe_fld (pv 0) rfl) (pe_fld (pv 1) rfl) (nomark _)))))))), ?_⟩
    refine ⟨_, rfl, .ref b, .ref (He.ga K "Space"), _, _, true, rfl, .own _, .base (.ins ho' T.cls Y.ha Y.hn Y.htk Y.hm), kit_self, true, rfl, iteT ?_⟩
    refine ⟨_, rfl, a, _, dx, _, _, rfl, ho, T.cls, T.fp, rfl, _, rfl, b, _, dy, _, _, rfl, ho', T.cls, T.fp, rfl, rfl, true, by rw [decide_eq_true rfl], iteT ?_⟩
    refine ⟨_, rfl, a, _, dx, _, _, rfl, ho, T.cls, T.fl, rfl, _, rfl, b, _, dy, _, _, rfl, ho', T.cls, T.fl, rfl, rfl, true, by rw [decide_eq_true rfl], iteT ?_⟩
    exact ⟨_, rfl, a, _, dx, _, .ref t, rfl, ho, T.cls, T.fw, rfl, _, rfl, b, _, dy, _, .ref u, rfl, ho', T.cls, T.fw, rfl, ⟨t, u, _, _, rfl, rfl, SqT.of ht, SqT.of hu, AreRows.prs hr1 hr2⟩, fun H' e => k H' e⟩
def spRefused (K : PySem.W.Frag) : Sp := fun vs H Q _ => ∃ (x : Addr) (v : V) (p : Int) (n : Nat) (b : List (List Int)), vs = [.ref x, v] ∧ IsSp K H x p n b ∧ isP p = true ∧ n ≤ 12 ∧ Rref p n b ∧ BadM H n v ∧ ∀ H', Same H H' → Q (.bl true) H'
theorem sc_refused : FnScope ["_law_space", "_law_rows_here"] ["_law_space", "_law_rows_here"] (defScope (top 54)) := ⟨rfl, rfl, rfl, by decide +kernel, rfl, by decide +kernel, by decide +kernel⟩
theorem ok_refused {g1 g2 : Addr} {fdP fdL' fdB fdIn fdI : FuncData} {dv : V} (F : FnP K "_law_refused" 54 f fd) (T : Txt K mg) (S : Spf K mg g1 g2 fdP fdL' fdB fdIn dv) (Y : Tyo K) (FI : FnP K "image" iImage (He.ga K "image") fdI) (GI : FnOk P w K mg base (L2.CX P w) 9 (He.ga K "image") fdI ["space", "matrix"] (spImage K)) : FnOk P w K mg base CX0 10 f fd ["_law_space", "_law_rows_here"] (spRefused K) := by
  have BI : Binds K fdI ["space", "matrix"] [] := FI.bindsN fun _ _ _ _ _ _ us hl => match us, hl with | [_, _], _ => rfl
  refine F.ok sc_refused (fun vs H Q E h => ?_) (fun cdv A outer s H vs Q E hr h => ?_)
  · obtain ⟨x, v, p, n, b, rfl, _⟩ := h
    rfl
  · obtain ⟨x, v, p, n, b, rfl, hx, hp, hn, hR, hb, k⟩ := h
    refine ⟨_, PSs.nox (pss_cons (ps_try_only rfl rfl ⟨rfl, by decide, .inl S.bm⟩ takes0 (fun W pn xe tk _ => pss_one (ps_expr (pe_callS GI hr rfl (T.df "image" iImage) FI.kp BI (fun σ => passAt tk σ) (pa_cons (pv 0) (pa_cons (pv 1) pa_nil))))) (fun a oe cls d pn _ _ => pss_one (ps_ret pe_bl))) (pss_one (ps_ret pe_bl))), ?_⟩
    refine ⟨_, rfl, _, rfl, x, v, p, n, b, rfl, hx, hp, hn, hR, .inl ⟨hb, fun H1 s1 => ⟨true, Y.exm, fun _ a0 _ => k _ s1, fun q => nomatch q⟩⟩⟩
end
end K7

set_option Elab.async false
set_option linter.all false
set_option maxRecDepth 100000
set_option maxHeartbeats 4000000
/-! # for the law: cuts, what repr tells, values that are no matrix -/
namespace VX
open PySem PySem.Spec PyProof.Rows L2
/-- a statement, what holds behind it named -/
def sCut (t : TS) : TS := fun D σ H => ∃ Pv : L2.St → Hp → Prop, t { D with nx := Pv } σ H ∧ ∀ σ' H', Pv σ' H' → D.nx σ' H'
theorem ps_cut {X : Cx} {st : Stmt} {t : TS} (h : PS X st t) : PS X st (sCut t) := by
  refine ⟨fun pins s σ H D I ⟨Pv, q, k⟩ => wpAny_mono (h.run pins s σ H { D with nx := Pv } I q) (fun f s1 z => ?_) fun _ _ z => z⟩
  cases f with
  | next => obtain ⟨σ', H', J, z⟩ := z; exact ⟨σ', H', J, k _ _ z⟩
  | brk => exact z
  | cont => exact z
  | ret u => exact z
def tCut (t : TE) : TE := fun σ H Q => ∃ Pv : V → Hp → Prop, t σ H Pv ∧ ∀ v H', Pv v H' → Q v H'
theorem pe_cut {X : Cx} {e : Expr} {t : TE} (h : PE X e t) : PE X e (tCut t) := by
  refine ⟨fun pins s σ H Q I ⟨Pv, q, k⟩ => wpAny_mono (h.run pins s σ H Pv I q) (fun v s1 z => ?_) fun _ _ z => z⟩
  obtain ⟨x, H', J, r, z⟩ := z
  exact ⟨x, H', J, r, k _ _ z⟩
end VX
namespace K7
open PySem PySem.Spec PyProof.Rows L2 VX RX
section
variable {K : PySem.W.Frag}
theorem rNe_str {x : Str} {Q : VK} {H : Hp} (h : Q (.bl false) H) : rNe (.str x) (.str x) H Q := by
  refine ⟨rfl, ?_⟩
  show Q (.bl (!decide (V.str x = V.str x))) H
  rw [decide_eq_true rfl]
  exact h
theorem AreLsts.same {H H' : Hp} {b : Addr} (s : Same H H') {as : List Addr} {rs : List (List Int)} (h : AreLsts H b as rs) : AreLsts H' b as rs := h.kept (Kept.of s)
theorem AreRows.keptB {H H' : Hp} {b : Addr} (k : Kept b H H') (hb : ∃ xs, H b = some (.lst xs)) : ∀ {as : List Addr} {rs : List (List Int)}, AreRows H as rs → AreRows H' as rs
  | _, _, .nil => .nil
  | _, _, .cons h t => .cons (k _ _ h fun e => by
      obtain ⟨xs, hx⟩ := hb
      rw [e] at h
      rw [show H b = _ from h] at hx
      cases hx) (AreRows.keptB k hb t)
theorem IsSp.kept {H H' : Hp} {b : Addr} (k : Kept b H H') (hb : ∃ xs, H b = some (.lst xs)) {x : Addr} {p : Int} {n : Nat} {B : List (List Int)} (h : IsSp K H x p n B) : IsSp K H' x p n B := by
  obtain ⟨dx, t, as, h1, h2, h3⟩ := h.ob
  obtain ⟨xs, hx⟩ := hb
  refine ⟨dx, t, as, k _ _ h1 fun e => ?_, k _ _ h2 fun e => ?_, h3.keptB k ⟨xs, hx⟩⟩
  · rw [e, hx] at h1; cases h1
  · rw [e, hx] at h2; cases h2
/-! ### repr of a table -/
def rowD (r : List Int) : PyData := .list (r.map PyData.int)
def tabD (rs : List (List Int)) : PyData := .list (rs.map rowD)
theorem dp_ints {H : Hp} : ∀ r : List Int, DpAll K H (r.map V.int) (r.map PyData.int)
  | [] => .nil
  | x :: r => .cons (.int x) (dp_ints r)
theorem dp_rows {H : Hp} {b : Addr} : ∀ {ls : List Addr} {rs : List (List Int)}, AreLsts H b ls rs → DpAll K H (ls.map V.ref) (rs.map rowD)
  | _, _, .nil => .nil
  | _, _, .cons h _ t => .cons (.lst (SqL.of h) (dp_ints _)) (dp_rows t)
theorem show_ints : ∀ r : List Int, (∀ x ∈ r, x.natAbs < 2 ^ 80) → PyData.showableAll (r.map PyData.int) = true
  | [], _ => by simp only [List.map_nil, PyData.showableAll]
  | x :: r, h => by
    have hx := h x (.head _)
    have l : x.natAbs.log2 < 1920 := by
      by_cases z : x.natAbs = 0
      · rw [z]; decide
      · exact Nat.lt_of_lt_of_le ((Nat.log2_lt z).mpr hx) (by decide)
    simp only [List.map_cons, PyData.showableAll, PyData.showable, decide_eq_true l, show_ints r fun y hy => h y (.tail _ hy), Bool.and_self]
theorem show_rows : ∀ rs : List (List Int), (∀ r ∈ rs, ∀ x ∈ r, x.natAbs < 2 ^ 80) → PyData.showableAll (rs.map rowD) = true
  | [], _ => by simp only [List.map_nil, PyData.showableAll]
  | r :: rs, h => by
    simp only [List.map_cons, PyData.showableAll, rowD, PyData.showable, show_ints r (h r (.head _)), Bool.true_and]
    exact show_rows rs fun y hy => h y (.tail _ hy)
theorem dep_ints : ∀ r : List Int, PyData.depthAll (r.map PyData.int) ≤ 1
  | [] => by simp only [List.map_nil, PyData.depthAll]; omega
  | x :: r => by
    have := dep_ints r
    simp only [List.map_cons, PyData.depthAll, PyData.depth]
    omega
theorem dep_rows : ∀ rs : List (List Int), PyData.depthAll (rs.map rowD) ≤ 4
  | [] => by simp only [List.map_nil, PyData.depthAll]; omega
  | r :: rs => by
    have h1 := dep_rows rs
    have h2 := dep_ints r
    simp only [List.map_cons, PyData.depthAll, rowD, PyData.depth] at h1 ⊢
    omega
theorem shown_len : ∀ ds : List PyData, (PyData.shownAll ds).length = ds.length
  | [] => by simp only [PyData.shownAll, List.length_nil]
  | d :: ds => by simp only [PyData.shownAll, List.length_cons, shown_len ds]
theorem len_int {x : Int} (h : x.natAbs < 2 ^ 80) : (PyData.shown (.int x)).length ≤ 90 := by
  simp only [PyData.shown]
  have l : x.natAbs.log2 < 81 := by
    by_cases z : x.natAbs = 0
    · rw [z]; decide
    · exact Nat.lt_of_lt_of_le ((Nat.log2_lt z).mpr h) (by decide)
  have := int_text_length_le (k := 81) (by decide) l
  have e : (Str.ofString (toString x)).length = (toString x).length := PySem.ofString_length _
  omega
theorem len_ints : ∀ r : List Int, (∀ x ∈ r, x.natAbs < 2 ^ 80) → ((PyData.shownAll (r.map PyData.int)).map (·.length)).sum ≤ 90 * r.length
  | [], _ => by simp only [List.map_nil, PyData.shownAll]; simp
  | x :: r, h => by
    have h1 := len_ints r fun y hy => h y (.tail _ hy)
    have h2 := len_int (h x (.head _))
    simp only [List.map_cons, PyData.shownAll, List.sum_cons, List.length_cons]
    omega
theorem len_row {r : List Int} (h : ∀ x ∈ r, x.natAbs < 2 ^ 80) : (PyData.shown (rowD r)).length ≤ 92 * r.length + 3 := by
  have h1 := len_ints r h
  have h2 := listText_len_le (PyData.shownAll (r.map PyData.int))
  rw [shown_len, List.length_map] at h2
  simp only [rowD, PyData.shown]
  omega
theorem len_rows {n : Nat} : ∀ rs : List (List Int), Len n rs → (∀ r ∈ rs, ∀ x ∈ r, x.natAbs < 2 ^ 80) → ((PyData.shownAll (rs.map rowD)).map (·.length)).sum ≤ (92 * n + 3) * rs.length
  | [], _, _ => by simp only [List.map_nil, PyData.shownAll]; simp
  | r :: rs, hl, h => by
    have h1 := len_rows rs (fun y hy => hl y (.tail _ hy)) fun y hy => h y (.tail _ hy)
    have h2 := len_row (h r (.head _))
    rw [hl r (.head _)] at h2
    simp only [List.map_cons, PyData.shownAll, List.sum_cons, List.length_cons, Nat.mul_add]
    omega
theorem shown_tab {H : Hp} {TB b : Addr} {ls : List Addr} {rs : List (List Int)} {n : Nat} (hT : H TB = some (.lst (ls.map V.ref))) (ha : AreLsts H b ls rs) (hl : Len n rs) (hr : rs.length = n) (hn : n ≤ 6) (h : ∀ r ∈ rs, ∀ x ∈ r, x.natAbs < 2 ^ 80) : Shown K H (.ref TB) (tabD rs) := by
  refine ⟨.dp (.lst (SqL.of hT) (dp_rows ha)), ?_, ?_, ?_⟩
  · simp only [tabD, PyData.showable, show_rows rs h]
  · have := dep_rows rs
    simp only [tabD, PyData.depth]
    omega
  · have h1 := len_rows rs hl h
    have h2 := listText_len_le (PyData.shownAll (rs.map rowD))
    rw [shown_len, List.length_map] at h2
    have h3 : (92 * n + 3) * rs.length ≤ (92 * 6 + 3) * 6 := Nat.mul_le_mul (by omega) (by omega)
    simp only [tabD, PyData.shown]
    have h4 : (listText (PyData.shownAll (rs.map rowD))).length ≤ 100000 := by omega
    exact Nat.le_of_lt (lt_line h4)
/-! ### values that are no matrix -/
theorem RowV.same {H H' : Hp} {n : Nat} (s : Same H H') {x : V} {b : Bool} (h : RowV H n x b) : RowV H' n x b := by
  obtain ⟨o, h1, h2⟩ := h
  exact ⟨o, h1.same s, h2⟩
theorem RowsV.same {H H' : Hp} {n : Nat} (s : Same H H') : ∀ {xs : List V} {bs : List Bool}, RowsV H n xs bs → RowsV H' n xs bs
  | _, _, .nil => .nil
  | _, _, .cons h t => .cons (h.same s) (RowsV.same s t)
theorem BadM.same {H H' : Hp} {n : Nat} {v : V} (s : Same H H') (h : BadM H n v) : BadM H' n v := by
  obtain ⟨o, h1, h2⟩ := h
  refine ⟨o, h1.same s, h2.imp id fun ⟨xs, bs, e, r, z⟩ => ⟨xs, bs, e, r.same s, z⟩⟩
theorem rowsV_of {H : Hp} {n : Nat} : ∀ {xs : List V}, (∀ x ∈ xs, ∃ b, RowV H n x b) → ∃ bs, RowsV H n xs bs
  | [], _ => ⟨[], .nil⟩
  | x :: xs, h => by
    obtain ⟨b, hb⟩ := h x (.head _)
    obtain ⟨bs, hbs⟩ := rowsV_of fun y hy => h y (.tail _ hy)
    exact ⟨b :: bs, .cons hb hbs⟩
/-- a list of another length -/
theorem bad_len {H : Hp} {n : Nat} {a : Addr} {xs : List V} (h : H a = some (.lst xs)) (hx : ∀ x ∈ xs, ∃ b, RowV H n x b) (ne : xs.length ≠ n) (hl : xs.length ≤ 1000) : BadM H n (.ref a) := by
  obtain ⟨bs, hbs⟩ := rowsV_of hx
  exact ⟨_, .lst h, .inr ⟨xs, bs, rfl, hbs, hl, by rw [decide_eq_false ne, Bool.false_and]⟩⟩
theorem bad_row {H : Hp} {n : Nat} {a : Addr} {xs : List V} {x : V} (h : H a = some (.lst xs)) (hx : ∀ x ∈ xs, ∃ b, RowV H n x b) (hl : xs.length ≤ 1000) (m : x ∈ xs) (hb : ∀ b, RowV H n x b → b = false) : BadM H n (.ref a) := by
  obtain ⟨bs, hbs⟩ := rowsV_of hx
  refine ⟨_, .lst h, .inr ⟨xs, bs, rfl, hbs, hl, ?_⟩⟩
  obtain ⟨i, hi⟩ := List.mem_iff_getElem?.mp m
  obtain ⟨b, hb1, hb2⟩ := hbs.get hi
  have := hb b hb2
  subst this
  have hf : bs.all id = false := by
    rw [Bool.eq_false_iff]
    intro z
    have := List.all_eq_true.mp z false (List.mem_of_getElem? hb1)
    cases this
  rw [hf, Bool.and_false]
theorem rowV_ints {H : Hp} {n : Nat} {a : Addr} {r : List Int} (h : H a = some (.lst (r.map V.int))) (hl : r.length ≤ 1000) : ∃ b, RowV H n (.ref a) b :=
  ⟨_, _, .lst h, .inr ⟨_, _, rfl, Cells.ints r, (by rw [List.length_map]; exact hl), rfl⟩⟩
theorem rowV_lst {H : Hp} {n : Nat} {b : Addr} {ls : List Addr} {rs : List (List Int)} (ha : AreLsts H b ls rs) (hl : Len n rs) (hn : n ≤ 100) : ∀ x ∈ ls.map V.ref, ∃ c, RowV H n x c := fun x hx => by
  obtain ⟨a, ha', rfl⟩ := List.mem_map.mp hx
  obtain ⟨i, hi⟩ := List.mem_iff_getElem?.mp ha'
  obtain ⟨r, hr, hra⟩ := ha.get hi
  exact rowV_ints hra (by rw [hl r (List.mem_of_getElem? hr)]; omega)
theorem cells_bl (n : Nat) : Cells (List.replicate n (V.bl true)) (List.replicate n false) := by
  induction n with
  | zero => exact .nil
  | succ n ih => exact .cons (.bl true) ih
theorem bls_false {H : Hp} {n m : Nat} {a : Addr} (h : H a = some (.lst (List.replicate m (V.bl true)))) (hm : 0 < m) : ∀ b, RowV H n (.ref a) b → b = false := fun b ⟨o, h1, h2⟩ => by
  cases h1 with
  | lst h' =>
    rw [h] at h'
    cases h'
    rcases h2 with ⟨e, _⟩ | ⟨ys, bs, e, c, _, rfl⟩
    · cases e
    · obtain rfl := Option.some.inj e
      obtain ⟨b0, hb0, hc⟩ := c.get (i := 0) (x := .bl true) (by rw [List.getElem?_replicate, if_pos hm])
      cases hc
      have hf : bs.all id = false := by
        rw [Bool.eq_false_iff]
        intro z
        have := List.all_eq_true.mp z false (List.mem_of_getElem? hb0)
        cases this
      rw [hf, Bool.and_false]
  | tup h' => rw [h] at h'; cases h'
theorem rowV_bls {H : Hp} {n m : Nat} {a : Addr} (h : H a = some (.lst (List.replicate m (V.bl true)))) (hm : m ≤ 1000) : ∃ b, RowV H n (.ref a) b :=
  ⟨_, _, .lst h, .inr ⟨_, _, rfl, cells_bl m, by rw [List.length_replicate]; exact hm, rfl⟩⟩
theorem non_false {H : Hp} {n : Nat} : ∀ b, RowV H n .non b → b = false := fun b ⟨o, h1, h2⟩ => by
  cases h1
  rcases h2 with ⟨_, e⟩ | ⟨ys, bs, e, _⟩
  · exact e
  · cases e
theorem rowV_non {H : Hp} {n : Nat} : ∃ b, RowV H n .non b := ⟨false, none, .non, .inl ⟨rfl, rfl⟩⟩
theorem flat_one {α : Type} (v : α) : ∀ n : Nat, (List.replicate n [v]).flatten = List.replicate n v
  | 0 => rfl
  | n + 1 => by rw [List.replicate_succ, List.flatten_cons, flat_one v n, List.replicate_succ]; rfl
theorem bad_non {H : Hp} {n : Nat} : BadM H n .non := ⟨none, .non, .inl rfl⟩
theorem bad_str {H : Hp} {n : Nat} {z : Str} : BadM H n (.str z) := ⟨none, .str z, .inl rfl⟩
theorem cut_last (xs : List V) : cutV xs none (some (-1)) = xs.take (xs.length - 1) := by
  unfold cutV
  rw [HT.sIx_none, List.drop_zero]
  congr 1
  show (if (-1 : Int) < 0 then ((-1 : Int) + (xs.length : Int)).toNat else min (-1 : Int).toNat xs.length) - 0 = xs.length - 1
  rw [if_pos (by decide)]
  omega
end
end K7

set_option Elab.async false
set_option linter.all false
set_option maxRecDepth 100000
set_option maxHeartbeats 8000000
/-! # the law -/
namespace K7
open PySem PySem.Spec PyProof.Rows L2 VX RX
section
variable {P : Program} {w : World} {K : PySem.W.Frag} {mg : Str → Option Value} {base : Heap} {f : Addr} {fd : FuncData}
structure Lwf (K : PySem.W.Frag) (fdT fdBx fdC fdFr fdVe fdRo fdPl fdGr fdPw fdSp fdIs fdSe fdRf fdIm fdSq fdSt : FuncData) : Prop where
  ft : FnP K "_law_take" 44 (He.ga K "_law_take") fdT
  fbox : FnP K "_law_box" 43 (He.ga K "_law_box") fdBx
  fcell : FnP K "_law_cell" 42 (He.ga K "_law_cell") fdC
  ffr : FnP K "_law_frame" 45 (He.ga K "_law_frame") fdFr
  fvec : FnP K "_law_vector" 46 (He.ga K "_law_vector") fdVe
  frows : FnP K "_law_rows" 47 (He.ga K "_law_rows") fdRo
  fplus : FnP K "_law_plus" 48 (He.ga K "_law_plus") fdPl
  fgrown : FnP K "_law_grown" 49 (He.ga K "_law_grown") fdGr
  fpow : FnP K "_law_power" 50 (He.ga K "_law_power") fdPw
  fspan : FnP K "_law_span" 51 (He.ga K "_law_span") fdSp
  fis : FnP K "_law_is" 52 (He.ga K "_law_is") fdIs
  fsent : FnP K "_law_sent" 53 (He.ga K "_law_sent") fdSe
  fref : FnP K "_law_refused" 54 (He.ga K "_law_refused") fdRf
  fimg : FnP K "image" iImage (He.ga K "image") fdIm
  fsq : FnP K "is_square" iSquare (He.ga K "is_square") fdSq
  fst : FnP K "sent" iSent (He.ga K "sent") fdSt
theorem seqIx {i : Int} {n : Nat} (h0 : 0 ≤ i) (h1 : i < (n : Nat)) : seqIndex? i n = some i.toNat := by
  unfold seqIndex?
  simp
  omega
theorem cxE0 {X : Cx} : Passes (L2.CX P w) X E0 := fun _ _ _ _ _ _ _ h => by
  obtain ⟨_, _, _, _, _, _, _, _, _, _, _, _, e⟩ := h
  exact e.elim
def gMix (us ws : List Value) : List Value := match us, ws with
  | [u], [v] => [u, v]
  | _, _ => []
def gMixV (us ws : List V) : List V := match us, ws with
  | [u], [v] => [u, v]
  | _, _ => []
theorem kb_img (F : FnP K "image" iImage f fd) : KBinds K fd ["space", "matrix"] ["matrix"] gMix gMixV := by
  refine ⟨fun s us ws X h => ?_, fun {vs us zs ws} r r2 => ?_⟩
  · match us, ws, h with
    | [u], [v], _ =>
      obtain ⟨oc, od, dV, kV, doc, pm, an, cdv, ct, osl, rfl, lk, hcd, hD, hK⟩ := F.ex
      rcases hD with ⟨_, rfl⟩ | ⟨e, _⟩
      · exact .of_eq rfl
      · exact absurd rfl e
    | [], _, h => cases h
    | _ :: _ :: _, _, h => cases h
    | [_], [], h => cases h
    | [_], _ :: _ :: _, h => cases h
  · cases r with
    | nil => exact .nil
    | cons r rr => cases rr with
      | nil => cases r2 with
        | nil => exact .nil
        | cons q qq => cases qq with
          | nil => exact .cons r (.cons q .nil)
          | cons _ _ => exact .nil
      | cons _ _ => cases r2 <;> exact .nil
abbrev nL : List Str := ["_law_script", "_law_k", "_law_box_here", "_law_p", "_law_n", "_law_rows_here", "_law_space", "_law_j", "_law_table", "_law_left", "_law_spots", "_law_spot", "_law_factor", "_law_i", "_law_kept", "_law_due", "_law_vector_here", "_law_told", "_law_row", "_law_short", "_law_wide", "_law_wrong"]
abbrev rLenS (K : PySem.W.Frag) : List V → Hp → VK → Prop := fun xs H Q => ∃ p ys, xs = [V.ref p] ∧ (SqL K H p ys ∨ SqT K H p ys) ∧ Q (.int ((ys.length : Nat) : Int)) H
abbrev rTupOf (K : PySem.W.Frag) : List V → Hp → VK → Prop := fun xs H Q => ∃ p ys, xs = [V.ref p] ∧ ((SqL K H p ys ∧ ∀ l, H l = none → Q (.ref l) (upd H l (.tup ys))) ∨ SqT K H p ys ∧ Q (.ref p) H)
def spLaw (K : PySem.W.Frag) : Sp := fun vs H Q _ => ∃ (l : Addr) (ns : List Int), vs = [.ref l] ∧ SqL K H l (ns.map V.int) ∧ ∀ H', Q (.bl true) H'
theorem sc_law : FnScope nL ["_law_script"] (defScope (top 55)) := ⟨rfl, rfl, rfl, by decide +kernel, rfl, by decide +kernel, by decide +kernel⟩
theorem ok_law {g1 g2 : Addr} {fdP fdL' fdB fdIn fdNn fdE : FuncData} {dv : V} {fd1 fd2 fdI fdV fdO fdL fdA fdR fdTi fdJ fdD fdS fdCk : FuncData} {fdT fdBx fdC fdFr fdVe fdRo fdPl fdGr fdPw fdSp fdIs fdSe fdRf fdIm fdSq fdSt : FuncData} (F : FnP K "law" 55 f fd) (T : Txt K mg)
    (R : Rowfs K fd1 fd2 fdI fdV fdO fdL fdA fdR fdTi fdJ fdD fdS fdCk) (S : Spf K mg g1 g2 fdP fdL' fdB fdIn dv) (Y : Leq K fdNn fdE) (U : Tyo K) (Z : Lwf K fdT fdBx fdC fdFr fdVe fdRo fdPl fdGr fdPw fdSp fdIs fdSe fdRf fdIm fdSq fdSt) : GFn P w K mg base 11 f fd ["_law_script"] (spLaw K) := by
  have GT : FnOk P w K mg base CX0 1 _ fdT ["_law_box_here", "_law_many"] (spTake) := ok_take Z.ft T
  have BT : Binds K fdT ["_law_box_here", "_law_many"] [] := Z.ft.bindsN fun _ _ _ _ _ _ us hl => match us, hl with | [_, _], _ => rfl
  have GBx : FnOk P w K mg base CX0 2 _ fdBx ["_law_script", "_law_k"] (spBox K) := ok_box Z.fbox T Z.fcell
  have BBx : Binds K fdBx ["_law_script", "_law_k"] [] := Z.fbox.bindsN fun _ _ _ _ _ _ us hl => match us, hl with | [_, _], _ => rfl
  have GFr : FnOk P w K mg base CX0 2 _ fdFr ["_law_box_here", "_law_most"] (spFrame) := ok_frame Z.ffr T Z.ft
  have BFr : Binds K fdFr ["_law_box_here", "_law_most"] [] := Z.ffr.bindsN fun _ _ _ _ _ _ us hl => match us, hl with | [_, _], _ => rfl
  have GV : FnOk P w K mg base CX0 2 _ fdVe ["_law_box_here", "_law_p", "_law_n"] (spVec) := ok_vec Z.fvec T Z.ft
  have BV : Binds K fdVe ["_law_box_here", "_law_p", "_law_n"] [] := Z.fvec.bindsN fun _ _ _ _ _ _ us hl => match us, hl with | [_, _, _], _ => rfl
  have GRo : FnOk P w K mg base CX0 3 _ fdRo ["_law_box_here", "_law_p", "_law_n", "_law_most"] (spRows) := ok_rows Z.frows T Z.ft Z.fvec
  have BRo : Binds K fdRo ["_law_box_here", "_law_p", "_law_n", "_law_most"] [] := Z.frows.bindsN fun _ _ _ _ _ _ us hl => match us, hl with | [_, _, _, _], _ => rfl
  have GSp : FnOk P w K mg base CX0 3 _ fdSp ["_law_p", "_law_n", "_law_rows_here"] (spSpan) := ok_span Z.fspan T Z.fgrown Z.fplus
  have BSp : Binds K fdSp ["_law_p", "_law_n", "_law_rows_here"] [] := Z.fspan.bindsN fun _ _ _ _ _ _ us hl => match us, hl with | [_, _, _], _ => rfl
  have GSe : FnOk P w K mg base CX0 2 _ fdSe ["_law_p", "_law_vector_here", "_law_rows_here"] (spLSent) := ok_lsent Z.fsent T Z.fplus
  have BSe : Binds K fdSe ["_law_p", "_law_vector_here", "_law_rows_here"] [] := Z.fsent.bindsN fun _ _ _ _ _ _ us hl => match us, hl with | [_, _, _], _ => rfl
  have GIs : FnOk P w K mg base CX0 4 _ fdIs ["_law_space", "_law_p", "_law_n", "_law_found"] (spIs K) := ok_is Z.fis T S Y Z.fpow
  have BIs : Binds K fdIs ["_law_space", "_law_p", "_law_n", "_law_found"] [] := Z.fis.bindsN fun _ _ _ _ _ _ us hl => match us, hl with | [_, _, _, _], _ => rfl
  have GIm : FnOk P w K mg base (L2.CX P w) 9 _ fdIm ["space", "matrix"] (spImage K) := ok_image Z.fimg T R S Z.fsq Z.fst
  have BIm : Binds K fdIm ["space", "matrix"] [] := Z.fimg.bindsN fun _ _ _ _ _ _ us hl => match us, hl with | [_, _], _ => rfl
  have GRf : FnOk P w K mg base CX0 10 _ fdRf ["_law_space", "_law_rows_here"] (spRefused K) := ok_refused Z.fref T S U Z.fimg GIm
  have BRf : Binds K fdRf ["_law_space", "_law_rows_here"] [] := Z.fref.bindsN fun _ _ _ _ _ _ us hl => match us, hl with | [_, _], _ => rfl
  have GIn : FnOk P w K mg base CX0 7 _ fdIn ["self", "prime", "length", "vectors"] (spInit K) := ok_init S.fI T R
  have BIn := init_binds S
  have GEq : FnOk P w K mg base CX0 3 _ fdE ["self", "other"] (spEq (SamS K)) := ok_seq Y.fE T U
  have BEq : Binds K fdE ["self", "other"] [] := Y.fE.bindsN fun _ _ _ _ _ _ us hl => match us, hl with | [_, _], _ => rfl
  have KIm := kb_img Z.fimg

  refine GFn.of F sc_law (fun {vs H Q E} h => ?_) (fun cdv A outer s H vs Q E hg hr h => ?_)
  · obtain ⟨l, ns, rfl, _⟩ := h
    rfl
  · obtain ⟨l, ns, rfl, hs, k⟩ := h
    have nd := sc_law.nd
    have hr1 : Room 1 _ := hr.mono (by decide)
    have hr2 : Room 2 _ := hr.mono (by decide)
    have hr3 : Room 3 _ := hr.mono (by decide)
    have hr4 : Room 4 _ := hr.mono (by decide)
    have hr8 : Room 8 _ := hr.mono (by decide)
    have hr9 : Room 9 _ := hr.mono (by decide)
    have hu := hu_of hr
    have bl : bootBuiltins "len" = some (Value.builtin "len") := boot_len
    have hu64 := hr.units
    refine ⟨_, (pss_cons (ps_for PassesOwn.never rfl (pi_range1 (by rfl) (T.fr "range") (pa_cons (pe_callB (call_max2 rfl) (by rfl) (T.fr "max") (by decide +kernel) (pa_cons pe_int (pa_cons (pe_callB (call_min2 rfl) (by rfl) (T.fr "min") (by decide +kernel) (pa_cons pe_int (pa_cons (pe_callB call_len_seq (by rfl) (T.fr "len") boot_len (pa_cons (pv 0) pa_nil)) pa_nil))) pa_nil))) pa_nil)) (pg_name (i := 1) nd rfl (.inl rfl)) (pss_cons (ps_set (i := 2) nd rfl (.inr rfl) ((pe_call GBx hr2 (by rfl) (T.df "_law_box" 43) Z.fbox.kp BBx .nil pass0 (pa_cons (pv 0) (pa_cons (pv 1) pa_nil))))) (pss_cons (ps_asg (pe_call GFr hr2 (by rfl) (T.df "_law_frame" 45) Z.ffr.kp BFr .nil pass0 (pa_cons (pv 2) (pa_cons (pe_int) pa_nil))) (pg_unl rfl (pgs_cons (pg_name (i := 3) nd rfl (.inr rfl)) (pgs_cons (pg_name (i := 4) nd rfl (.inr rfl)) pgs_nil)))) (pss_cons (ps_set (i := 5) nd rfl (.inl rfl) ((pe_call GRo hr3 (by rfl) (T.df "_law_rows" 47) Z.frows.kp BRo .nil pass0 (pa_cons (pv 2) (pa_cons (pv 3) (pa_cons (pv 4) (pa_cons (pe_int) pa_nil))))))) (pss_cons (ps_set (i := 6) nd rfl (.inl rfl) (pe_make T.mks GIn hr8 (by rfl) T.space BIn .nil pass0 (pa_cons (pv 3) (pa_cons (pv 4) (pa_cons (pv 5) pa_nil))))) (pss_cons (ps_setLc (i := 8) (own := [("_law_j", 7)]) (g := gName 7) (by rfl) nd rfl rfl (sw_true rfl rfl rfl (by decide +kernel)) (pi_range1 (by rfl) (T.fr "range") (pa_cons (pv 4) pa_nil)) (blkOk_by (own := [("_law_j", 7)]) (N := nL) (sc := defScope (top 55)) (by decide +kernel)) (fun _ _ _ _ _ => pg_name (i := 7) nd rfl (Or.inl rfl)) (fun _ _ _ _ _ => pts_nil) (fun _ _ _ _ _ => (pe_call GV hr2 (by rfl) (T.df "_law_vector" 46) Z.fvec.kp BV .nil pass0 (pa_cons (pv 2) (pa_cons (pv 3) (pa_cons (pv 4) pa_nil)))))) (pss_cons (ps_cut (ps_if (pt_cmpR op_eq ((pe_call GT hr1 (by rfl) (T.df "_law_take" 44) Z.ft.kp BT .nil pass0 (pa_cons (pv 2) (pa_cons (pe_int) pa_nil)))) (pe_int) (nomark _)) (pss_cons (ps_set (i := 9) nd rfl (.inr rfl) (pe_listRg rfl (by rfl) (T.fr "list") (prg_1 (by rfl) (T.fr "range") (pv 4)))) (pss_cons (ps_setLc (i := 10) (own := [("_law_j", 7)]) (g := gName 7) (te := tBM K "list" rPopAt (tVar 9) (tCons (tCall spTake [] E0 (tCons (tVar 2) (tCons (tCB (rLenS K) (tCons (tVar 9) tNil)) tNil))) tNil)) (by rfl) nd rfl rfl (sw_true rfl rfl rfl (by decide +kernel)) (pi_range1 (by rfl) (T.fr "range") (pa_cons (pv 4) pa_nil)) (blkOk_by (own := [("_law_j", 7)]) (N := nL) (sc := defScope (top 55)) (by decide +kernel)) (fun _ _ _ _ _ => pg_name (i := 7) nd rfl (Or.inl rfl)) (fun _ _ _ _ _ => pts_nil) (fun _ _ _ _ _ => pe_bm (r := rPopAt) PySem.F.plainAttrs_list PySem.F.slot_list_pop PySem.F.type_list_pop mt_popAt (pv 9) (pa_cons (pe_call GT hr1 (by rfl) (T.df "_law_take" 44) Z.ft.kp BT .nil pass0 (pa_cons (pv 2) (pa_cons ((pe_callB (id := "len") (r := rLenS K) call_len_seq (by rfl) (T.fr "len") bl (pa_cons (pv 9) pa_nil))) pa_nil))) pa_nil))) (pss_cons (ps_set (i := 8) nd rfl (.inl rfl) (pe_lst pa_nil)) (pss_one (ps_for PassesOwn.never rfl (pi_list (pv 10)) (pg_name (i := 11) nd rfl (.inr rfl)) (pss_cons (ps_set (i := 12) nd rfl (.inr rfl) (pe_op op_add pe_int (pe_call GT hr1 (by rfl) (T.df "_law_take" 44) Z.ft.kp BT .nil pass0 (pa_cons (pv 2) (pa_cons (pe_op op_sub (pv 3) pe_int) pa_nil))))) (pss_one (ps_expr (pe_bm PySem.F.plainAttrs_list PySem.F.slot_list_append PySem.F.type_list_append mt_append (pv 8) (pa_cons (pe_lc (own := [("_law_i", 13)]) (g := gName 13) (by rfl) nd (pi_range1 (by rfl) (T.fr "range") (pa_cons (pv 4) pa_nil)) (blkOk_by (own := [("_law_i", 13)]) (N := nL) (sc := defScope (top 55)) (by decide +kernel)) (fun _ _ _ _ _ => pg_name (i := 13) nd rfl (Or.inl rfl)) (fun _ _ _ _ _ => pts_nil) (fun _ _ _ _ _ => pe_op op_mul (pv 12) (pe_callTy (r := fun xs H Q => (∃ i, xs = [.int i] ∧ Q (.int i) H) ∨ ∃ k, xs = [.bl k] ∧ Q (.int (if k then 1 else 0)) H) call_int1 (by rfl) (T.fr "int") boot_int (pa_cons (pe_cmpR op_eq (pv 11) (pv 13) (nomark _)) pa_nil)))) pa_nil)))))))))) pss_nil)) (pss_cons (ps_set (i := 14) nd rfl (.inl rfl) ((pe_callB (call_repr hg hu64) (by rfl) (T.fr "repr") (by decide +kernel) (pa_cons (pv 8) pa_nil)))) (pss_cons (ps_set (i := 15) nd rfl (.inl rfl) (pe_dnewT)) (pss_cons (ps_for PassesOwn.never rfl (pi_list (pe_callTy (call_list_dT rfl) (by rfl) (T.fr "list") (by decide +kernel) (pa_cons (pe_call GSp hr3 (by rfl) (T.df "_law_span" 51) Z.fspan.kp BSp .nil pass0 (pa_cons (pv 3) (pa_cons (pv 4) (pa_cons (pv 5) pa_nil)))) pa_nil))) (pg_name (i := 16) nd rfl (.inl rfl)) (pss_one (ps_dput hu (pv 15) (pe_call GSe hr2 (by rfl) (T.df "_law_sent" 53) Z.fsent.kp BSe .nil pass0 (pa_cons (pv 3) (pa_cons (pv 16) (pa_cons (pv 8) pa_nil)))) pe_bl rfl))) (pss_cons (ps_set (i := 17) nd rfl (.inl rfl) ((pe_callK GIm hr9 (by rfl) (T.df "image" iImage) Z.fimg.kp KIm cxE0 (pa_cons (pv 6) pa_nil) (pk_cons (pv 8) pk_nil)))) (pss_cons (ps_if (PW.pt (pw_or (pt_not (pt_val (pe_call GIs hr4 (by rfl) (T.df "_law_is" 52) Z.fis.kp BIs .nil pass0 (pa_cons (pv 17) (pa_cons (pv 3) (pa_cons (pv 4) (pa_cons (pv 15) pa_nil))))))) (pw_or1 (pt_not (pt_cmpR (op_eqG (rcG_ins (E := E0) GEq Y.eq Y.eqf BEq pass0) hr3) ((pe_call GIm hr9 (by rfl) (T.df "image" iImage) Z.fimg.kp BIm .nil cxE0 (pa_cons (pv 6) (pa_cons ((pe_callTy call_tuple_of (by rfl) (T.fr "tuple") (by decide +kernel) (pa_cons ((pe_lc (own := [("_law_row", 18)]) (g := gName 18) (by rfl) nd (pi_list (pv 8)) (blkOk_by (own := [("_law_row", 18)]) (N := nL) (sc := defScope (top 55)) (by decide +kernel)) (fun _ _ _ _ _ => pg_name (i := 18) nd rfl (Or.inl rfl)) (fun _ _ _ _ _ => pts_nil) (fun _ _ _ _ _ => (pe_callTy (r := rTupOf K) call_tuple_of (by rfl) (T.fr "tuple") (by decide +kernel) (pa_cons (pv 18) pa_nil))))) pa_nil))) pa_nil)))) (pv 17) (nomark _)))))) (pss_one (ps_ret pe_bl)) pss_nil) (pss_cons (ps_if (PW.pt (pw_or (pt_cmpR op_ne ((pe_callB (call_repr hg hu64) (by rfl) (T.fr "repr") (by decide +kernel) (pa_cons (pv 8) pa_nil))) (pv 14) (nomark _)) (pw_or1 (pt_not (pt_val (pe_call GIs hr4 (by rfl) (T.df "_law_is" 52) Z.fis.kp BIs .nil pass0 (pa_cons (pv 6) (pa_cons (pv 3) (pa_cons (pv 4) (pa_cons ((pe_call GSp hr3 (by rfl) (T.df "_law_span" 51) Z.fspan.kp BSp .nil pass0 (pa_cons (pv 3) (pa_cons (pv 4) (pa_cons (pv 5) pa_nil))))) pa_nil)))))))))) (pss_one (ps_ret pe_bl)) pss_nil) (pss_cons (ps_set (i := 19) nd rfl (.inl rfl) (pe_cut (pe_ifExp (pt_cmpR op_gt (pv 4) (pe_int) (nomark _)) (pe_slice sl_list (pv 8) po_none (po_some (pe_un un_neg pe_int))) (pe_lst (pa_cons ((pe_lst pa_nil)) pa_nil))))) (pss_cons (ps_set (i := 20) nd rfl (.inl rfl) (pe_op op_cat (pe_lc (own := [("_law_row", 18)]) (g := gName 18) (by rfl) nd (pi_list (pv 8)) (blkOk_by (own := [("_law_row", 18)]) (N := nL) (sc := defScope (top 55)) (by decide +kernel)) (fun _ _ _ _ _ => pg_name (i := 18) nd rfl (Or.inl rfl)) (fun _ _ _ _ _ => pts_nil) (fun _ _ _ _ _ => pe_op op_cat (pv 18) (pe_lst (pa_cons (pe_int) pa_nil)))) (pe_lst (pa_cons ((pe_lst (pa_cons (pe_int) pa_nil))) pa_nil)))) (pss_cons (ps_for PassesOwn.never rfl (pi_list (pe_lst (pa_cons (pe_op op_cat (pv 8) (pe_lst (pa_cons (pe_op op_rep (pe_lst (pa_cons (pe_int) pa_nil)) (pv 4)) pa_nil))) (pa_cons (pv 19) (pa_cons (pv 20) (pa_cons (pe_non) (pa_cons (pe_str) pa_nil))))))) (pg_name (i := 21) nd rfl (.inl rfl)) (pss_one (ps_if (pt_not (pt_val (pe_call GRf hr (by rfl) (T.df "_law_refused" 54) Z.fref.kp BRf .nil pass0 (pa_cons (pv 6) (pa_cons (pv 21) pa_nil))))) (pss_one (ps_ret pe_bl)) pss_nil))) (pss_cons (ps_cut (ps_if (PW.pt (pw_and (pt_cmpR op_gt (pv 4) (pe_int) (nomark _)) (pw_and1 (pt_not (pt_val (pe_call GRf hr (by rfl) (T.df "_law_refused" 54) Z.fref.kp BRf .nil pass0 (pa_cons (pv 6) (pa_cons (pe_op op_cat (pe_slice sl_list (pv 8) po_none (po_some (pe_un un_neg pe_int))) (pe_lst (pa_cons (pe_op op_rep (pe_lst (pa_cons (pe_bl) pa_nil)) (pv 4)) pa_nil))) pa_nil)))))))) (pss_one (ps_ret pe_bl)) pss_nil)) (pss_one (ps_if (PW.pt (pw_and (pt_cmpR op_gt (pv 4) (pe_int) (nomark _)) (pw_and1 (pt_not (pt_val (pe_call GRf hr (by rfl) (T.df "_law_refused" 54) Z.fref.kp BRf .nil pass0 (pa_cons (pv 6) (pa_cons (pe_op op_rep (pe_lst (pa_cons (pe_non) pa_nil)) (pv 4)) pa_nil)))))))) (pss_one (ps_ret pe_bl)) pss_nil))))))))))))))))))) (pss_one (ps_ret pe_bl))), ?_⟩
    refine ⟨_, rfl, l, _, rfl, .inl hs, _, _, rfl, _, _, rfl, ?_⟩
    generalize hc : (if (if ((ns.map V.int).length : Int) < 2 then ((ns.map V.int).length : Int) else 2) > 1 then (if ((ns.map V.int).length : Int) < 2 then ((ns.map V.int).length : Int) else 2) else 1) = cnt
    have hc1 : 0 ≤ cnt ∧ cnt ≤ 2 := by
      rw [← hc]
      split <;> split <;> omega
    refine ⟨cnt, rfl, by omega, by omega, for_range (lo := 0) (n := cnt.toNat) (fun i σ H' => Same H H' ∧ ∃ y1 y2 y3 y4 y5 y6 y7 y8 y9 y10 y11 y12 y13 y14 y15 y16 y17 y18 y19 y20 y21, σ = [some (V.ref l), y1, y2, y3, y4, y5, y6, y7, y8, y9, y10, y11, y12, y13, y14, y15, y16, y17, y18, y19, y20, y21]) ⟨Same.refl _, none, none, none, none, none, none, none, none, none, none, none, none, none, none, none, none, none, none, none, none, none, rfl⟩ ?_ ?_⟩
    · rintro i σ H1 hi ⟨sH1, y1, y2, y3, y4, y5, y6, y7, y8, y9, y10, y11, y12, y13, y14, y15, y16, y17, y18, y19, y20, y21, rfl⟩
      refine ⟨_, rfl, _, rfl, l, ns, i, (by simp), Same.seq sH1 hs, fun b hb => ?_⟩
      have bx2 : BoxK (upd H1 b (.lst [.int (cellOf ns i).natAbs, .int 0, .int (40503 * (i : Int) + 911)])) b 0 := ⟨_, _, _, upd_same, by omega, by omega, by omega, by omega, by omega⟩
      have s2 := same_new (o := .lst [.int (cellOf ns i).natAbs, .int 0, .int (40503 * (i : Int) + 911)]) hb
      generalize upd H1 b (.lst [.int (cellOf ns i).natAbs, .int 0, .int (40503 * (i : Int) + 911)]) = H2 at bx2 s2 ⊢
      have kb : ∀ {H'}, Kept b H2 H' → Same H1 H' := fun {H'} kk c o q => kk c o (s2 c o q) (ne_of_none q hb)
      refine ⟨_, rfl, b, 0, 130, rfl, bx2, by omega, by omega, by omega, fun H3 l3 p n k3 b3 hp hn hpn hl30 hl3 => ?_⟩
      have hq := isP_pos hp
      have h0 : 0 < p := by omega
      have II := invF_ok hp
      refine ⟨l3, _, rfl, SqL.of hl3, rfl, _, _, rfl, _, _, rfl, rfl, ?_⟩
      refine ⟨_, rfl, _, rfl, _, rfl, b, 2, p, n, 4, rfl, b3.mono (by omega), by omega, hp, by omega, by omega, fun H4 rl ls0 rs0 k4 b4 hrl0 hrlb hrl har0 hlen0 hrs0 => ?_⟩
      have k24 := k3.trans k4
      refine ⟨_, rfl, _, rfl, _, rfl, fun y dy hy hdy ne => ?_⟩
      have s5 : Same H4 (upd (upd H4 dy (.own y)) y (.ins (He.ga K "Space") dy [])) := same_two hdy (by rw [upd_ne (Ne.symm ne)]; exact hy)
      refine ⟨y, dy, p, n, rl, ls0, rs0, rfl, upd_same, hp, by omega, s5 _ _ hrl, (har0.same s5).ints, hlen0, by omega, fun H5 kept isp => ⟨rfl, ?_⟩⟩
      have s45 : Same H4 H5 := fun u z q => kept u z (s5 _ _ q) (ne_of_none q hy)
      have hmr : ∀ r ∈ rs0.map (modR p), Row p n r := modR_rows h0 hlen0
      have hR : Rref p n (reduced (invF p) p (rs0.map (modR p))) := reduced_ok II hmr
      obtain ⟨st1, st2, st3⟩ := span_told II hlen0
      generalize hB : reduced (invF p) p (rs0.map (modR p)) = B at isp hR st1 st2 st3
      have b5 := b4.same s45
      have hrl5 := s45 _ _ hrl
      have har5 := har0.same s45
      have k25 : Kept b H2 H5 := k24.trans (Kept.of s45)
      -- the table
      refine ⟨_, rfl, _, rfl, by omega, by omega, fun D hD => ?_⟩
      have neD := b5.ne hD
      refine lc_it (walk_range (lo := 0) (n := ((n : Nat) : Int).toNat)) (fun i H' => Kept b H5 H' ∧ BoxK H' b (400 + 13 * i) ∧ ∃ ls rs, H' D = some (.lst (ls.map V.ref)) ∧ rs.length = i ∧ AreLsts H' b ls rs ∧ Len n rs ∧ (∀ r ∈ rs, ∀ x ∈ r, x.natAbs < 2 ^ 80) ∧ ∀ a ∈ ls, a ≠ D) ⟨Kept.of (same_new hD), (b5.mono (by omega)).same (same_new hD), [], [], upd_same, rfl, .nil, (fun _ h => nomatch h), (fun _ h => nomatch h), (fun _ h => nomatch h)⟩ (fun i H' _ z => trivial) ?_ ?_
      · rintro i x Ha Hb hi ⟨kp, bx, ls, rs, hd, hl, har, hlen, h80, hne⟩ ⟨rfl, rfl⟩
        refine ⟨rfl, yes_if ?_⟩
        refine ⟨_, rfl, _, rfl, _, rfl, b, _, p, n, rfl, bx, by omega, hp, by omega, fun H6 l6 xs kp3 bx3 hl0 hl6 hxs hx80 => ?_⟩
        have lb : l6 ≠ b := bx.ne hl0
        have lD : l6 ≠ D := fun z => by rw [z, hd] at hl0; cases hl0
        have hll := har.length
        refine ⟨ls.map V.ref, kp3 _ _ hd neD, lt_line (by rw [List.length_map]; omega), fun c o q nb => ?_, ?_, ls ++ [l6], rs ++ [xs], ?_, by rw [List.length_append, List.length_singleton]; omega, ?_, ?_, ?_, ?_⟩
        · rw [upd_ne (ne_of_none q hD)]
          exact kp3 _ _ (kp _ _ q nb) nb
        · obtain ⟨x1, w1, z1, hx, r⟩ := bx3.mono (M := 400 + 13 * (i + 1)) (by omega)
          exact ⟨x1, w1, z1, by rw [upd_ne (Ne.symm neD)]; exact hx, r⟩
        · rw [upd_same, List.map_append]; rfl
        · refine ((har.kept kp3).append (.cons hl6 lb .nil)).updN fun a ha => ?_
          rcases List.mem_append.mp ha with ha | ha
          · exact hne a ha
          · rw [List.mem_singleton.mp ha]; exact lD
        · intro r hr'
          rcases List.mem_append.mp hr' with hr' | hr'
          · exact hlen r hr'
          · rw [List.mem_singleton.mp hr']; exact hxs
        · intro r hr'
          rcases List.mem_append.mp hr' with hr' | hr'
          · exact h80 r hr'
          · rw [List.mem_singleton.mp hr']; exact hx80
        · intro a ha
          rcases List.mem_append.mp ha with ha | ha
          · exact hne a ha
          · rw [List.mem_singleton.mp ha]; exact lD
      rintro H6 ⟨k6, b6, ls6, rs6, hd6, hl6, har6, hlen6, h806, hne6⟩
      have hnn : ((n : Nat) : Int).toNat = n := Int.toNat_natCast n
      rw [hnn] at hl6
      have b6 := b6.mono (show _ ≤ 600 by omega)
      -- the drawn shuffle
      refine ⟨fun σ' G => ∃ TB ls rs z9 z10 z11 z12, σ' = [some (V.ref l), some (.int (0 + (i : Nat))), some (.ref b), some (.int p), some (.int n), some (.ref rl), some (.ref y), y7, some (.ref TB), z9, z10, z11, z12, y13, y14, y15, y16, y17, y18, y19, y20, y21] ∧ Kept b H5 G ∧ G TB = some (.lst (ls.map V.ref)) ∧ rs.length = n ∧ AreLsts G b ls rs ∧ Len n rs ∧ ∀ r ∈ rs, ∀ x ∈ r, x.natAbs < 2 ^ 80, ?_, ?_⟩
      · refine ⟨_, rfl, ?_⟩
        dsimp -proj only [tCons, tC, tNil, List.append_nil]
        refine take_use (m := 3) b6 (by omega) (by decide) (by decide) fun d H7 d0 d1 k7 b7 _ => ?_
        have k57 := k6.trans k7
        have hd7 := k7 _ _ hd6 neD
        have har7 := har6.kept k7
        refine ⟨rfl, _, rfl, ite2 (fun c => ?_) (fun c => ⟨D, ls6, rs6, _, _, _, _, rfl, k57, hd7, hl6, har7, hlen6, h806⟩)⟩
        refine ⟨_, rfl, _, rfl, RgOk.of_le (by omega) (by omega) (by omega) (by omega), fun L hL => ?_⟩
        have s8 := same_new (o := .lst (rgV 0 (n : Nat))) hL
        have L8 : upd H7 L (.lst (rgV 0 (n : Nat))) L = some (.lst (rgV 0 (n : Nat))) := upd_same
        have b8 := b7.same s8
        have lL : (rgV 0 (n : Nat)).length = n := by simp [rgV]
        have iL : ∀ v ∈ rgV 0 (n : Nat), ∃ z, v = V.int z := fun v hv => by
          obtain ⟨j, _, rfl⟩ := List.mem_map.mp hv
          exact ⟨_, rfl⟩
        have Lb : L ≠ b := b7.ne hL
        generalize upd H7 L (.lst (rgV 0 (n : Nat))) = H8 at s8 L8 b8 ⊢
        refine ⟨_, rfl, _, rfl, by omega, by omega, fun D2 hD2 => ?_⟩
        have D2b := b8.ne hD2
        have D2L : D2 ≠ L := fun z => by rw [z, L8] at hD2; cases hD2
        have D27 : H7 D2 = none := none_back s8 hD2
        refine lc_it (walk_range (lo := 0) (n := ((n : Nat) : Int).toNat)) (fun i H' => Kept b H7 H' ∧ BoxK H' b (700 + 2 * i) ∧ (∃ xs : List V, H' L = some (.lst xs) ∧ xs.length = n - i ∧ ∀ v ∈ xs, ∃ z, v = V.int z) ∧ ∃ ss : List V, H' D2 = some (.lst ss) ∧ ss.length = i ∧ ∀ v ∈ ss, ∃ z, v = V.int z)
          ⟨Kept.of (s8.trans (same_new hD2)), (b8.mono (by omega)).same (same_new hD2), ⟨_, (same_new hD2) _ _ L8, by omega, iL⟩, [], upd_same, rfl, (fun _ h => nomatch h)⟩ (fun i H' _ z => trivial) ?_ ?_
        · rintro i x Ha Hb hi ⟨kp, bx, ⟨xs, hxL, hxl, hxi⟩, ss, hsD, hsl, hsi⟩ ⟨rfl, rfl⟩
          refine ⟨rfl, yes_if ?_⟩
          refine ⟨_, rfl, .inl ⟨rfl, _, SqL.of hxL⟩, _, rfl, _, rfl, L, xs, rfl, .inl (SqL.of hxL), ?_⟩
          dsimp -proj only [tCons, tC, tNil, List.append_nil]
          refine take_use (m := ((xs.length : Nat) : Int)) bx (by omega) (by omega) (by omega) fun d2 Hc d20 d21 kp2 bx2 _ => ?_
          have hL2 := kp2 _ _ hxL Lb
          have hlt : d2.toNat < xs.length := by omega
          have hy : xs[d2.toNat]? = some xs[d2.toNat] := List.getElem?_eq_getElem hlt
          refine ⟨L, xs, d2, d2.toNat, _, rfl, rfl, hL2, by omega, by omega, seqIx d20 d21, hy, ss, ?_, lt_line (by omega), fun c o q nb => ?_, ?_, ⟨xs.eraseIdx d2.toNat, ?_, ?_, fun v hv => hxi v (List.mem_of_mem_eraseIdx hv)⟩, ss ++ [xs[d2.toNat]], upd_same, by rw [List.length_append, List.length_singleton, hsl], fun v hv => ?_⟩
          · rw [upd_ne D2L]
            exact kp2 _ _ hsD D2b
          · rw [upd_ne (ne_of_none q D27), upd_ne (ne_of_none q hL)]
            exact kp2 _ _ (kp _ _ q nb) nb
          · obtain ⟨x1, w1, z1, hx, r⟩ := bx2.mono (M := 700 + 2 * (i + 1)) (by omega)
            exact ⟨x1, w1, z1, by rw [upd_ne (Ne.symm D2b), upd_ne (Ne.symm Lb)]; exact hx, r⟩
          · rw [upd_ne (Ne.symm D2L), upd_same]
          · rw [List.length_eraseIdx_of_lt hlt]; omega
          · rcases List.mem_append.mp hv with hv | hv
            · exact hsi v hv
            · rw [List.mem_singleton.mp hv]
              exact hxi _ (List.getElem_mem hlt)
        rintro H9 ⟨k9, b9, ⟨xsL, hL9, _, _⟩, ss, hs9, hsl, hsi⟩
        refine ⟨(by show 0 ≤ sizeLine; decide), fun TB hTB => ?_⟩
        have s10 := same_new (o := .lst []) hTB
        have T10 : upd H9 TB (.lst []) TB = some (.lst (([] : List Addr).map V.ref)) := upd_same
        have b10 := b9.same s10
        have TBb := b9.ne hTB
        have hs10 := s10 _ _ hs9
        have TD2 : D2 ≠ TB := fun z => by rw [z, hTB] at hs9; cases hs9
        generalize upd H9 TB (.lst []) = H10 at s10 T10 b10 hs10 ⊢
        refine ⟨_, rfl, D2, rfl, ⟨_, SqL.of hs10⟩, for_list (xs := ss) (fun i' σ H' => ∃ z11 z12 ls rs, σ = [some (V.ref l), some (.int (0 + (i : Nat))), some (.ref b), some (.int p), some (.int n), some (.ref rl), some (.ref y), y7, some (.ref TB), some (.ref L), some (.ref D2), z11, z12, y13, y14, y15, y16, y17, y18, y19, y20, y21] ∧ Kept b H9 H' ∧ BoxK H' b (800 + 2 * i') ∧ H' TB = some (.lst (ls.map V.ref)) ∧ AreLsts H' b ls rs ∧ rs.length = i' ∧ Len n rs ∧ (∀ r ∈ rs, ∀ x ∈ r, x.natAbs < 2 ^ 80) ∧ ∀ a ∈ ls, a ≠ TB)
          ⟨_, _, [], [], rfl, Kept.of s10, b10.mono (by omega), T10, .nil, rfl, (fun _ h => nomatch h), (fun _ h => nomatch h), (fun _ h => nomatch h)⟩ (fun i σ H' _ z => ?_) ?_ ?_⟩
        · obtain ⟨_, _, _, _, _, kp, _⟩ := z
          exact SqL.of (kp _ _ hs9 D2b)
        · rintro i' v σ H11 hv ⟨z11, z12, ls, rs, rfl, kp, bx, hT, har, hrl', hlen, h80, hne⟩
          obtain ⟨z, rfl⟩ := hsi v (List.mem_of_getElem? hv)
          have hin : i' < n := by
            have := (List.getElem?_eq_some_iff.mp hv).1
            omega
          refine ⟨_, rfl, _, rfl, _, _, rfl, rfl, ?_⟩
          dsimp -proj only [tCons, tC, tNil, List.append_nil]
          refine take_use (m := p - 1) bx (by omega) (by omega) (by omega) fun d3 Hc d30 d31 kp2 bx2 _ => ?_
          have hTc := kp2 _ _ hT TBb
          refine ⟨_, _, rfl, rfl, ?_⟩
          refine ⟨_, rfl, .inl ⟨rfl, _, SqL.of hTc⟩, _, rfl, _, rfl, by omega, by omega, fun E1 hE1 => lc_it (walk_range (lo := 0) (n := ((n : Nat) : Int).toNat)) (fun j H' => H' = upd Hc E1 (.lst (((List.range j).map fun c : Nat => (1 + d3) * (if z = (c : Int) then 1 else 0)).map V.int))) rfl (fun _ _ _ _ => trivial) ?_ ?_⟩
          · rintro j x Ha Hb hj rfl ⟨rfl, rfl⟩
            refine ⟨rfl, yes_if ?_⟩
            refine ⟨_, rfl, _, rfl, _, rfl, rfl, .inr ⟨_, rfl, _, _, rfl, rfl, .inl ⟨by omega, by omega⟩, _, upd_same, lt_line (by rw [List.length_map, List.length_map, List.length_range]; omega), ?_⟩⟩
            rw [upd_upd, List.range_succ, List.map_append, List.map_append]
            show upd Hc E1 (.lst (_ ++ [V.int ((1 + d3) * (if decide (V.int z = V.int (0 + (j : Int))) = true then 1 else 0))])) = upd Hc E1 (.lst (_ ++ [V.int ((1 + d3) * (if z = (j : Int) then 1 else 0))]))
            rw [dec_int]
            by_cases e : z = (j : Int)
            · rw [if_pos (by simp [e]), if_pos e]
            · rw [if_neg (by simp [e]), if_neg e]
          · rintro _ rfl
            rw [hnn]
            have s12 := same_new (o := .lst (((List.range n).map fun c : Nat => (1 + d3) * (if z = (c : Int) then 1 else 0)).map V.int)) hE1
            have E12 : upd Hc E1 (.lst (((List.range n).map fun c : Nat => (1 + d3) * (if z = (c : Int) then 1 else 0)).map V.int)) E1 = some (.lst (((List.range n).map fun c : Nat => (1 + d3) * (if z = (c : Int) then 1 else 0)).map V.int)) := upd_same
            have lenE : ((List.range n).map fun c : Nat => (1 + d3) * (if z = (c : Int) then 1 else 0)).length = n := by rw [List.length_map, List.length_range]
            have smE : ∀ x ∈ (List.range n).map fun c : Nat => (1 + d3) * (if z = (c : Int) then 1 else 0), x.natAbs < 2 ^ 80 := fun x hx => by
              obtain ⟨c, _, rfl⟩ := List.mem_map.mp hx
              split
              · rw [Int.mul_one]; omega
              · rw [Int.mul_zero]; decide
            generalize (List.range n).map (fun c : Nat => (1 + d3) * (if z = (c : Int) then 1 else 0)) = rowE at s12 E12 lenE smE ⊢
            have hTE := s12 _ _ hTc
            have b12 := bx2.same s12
            have E1b : E1 ≠ b := bx2.ne hE1
            have E1T : E1 ≠ TB := fun q => by rw [q, hTc] at hE1; cases hE1
            have k12 : Kept b H9 (upd Hc E1 (.lst (rowE.map V.int))) := (kp.trans kp2).trans (Kept.of s12)
            have har12 := (har.kept kp2).same s12
            generalize upd Hc E1 (.lst (rowE.map V.int)) = H12 at s12 E12 hTE b12 k12 har12 ⊢
            have hll := har.length
            refine ⟨TB, _, _, rfl, rfl, hTE, lt_line (by rw [List.length_map]; omega), ?_⟩
            refine ⟨_, _, ls ++ [E1], rs ++ [rowE], rfl, fun c o q nb => ?_, ?_, by rw [upd_same, List.map_append]; rfl, ?_, by rw [List.length_append, List.length_singleton, hrl'], fun r hr' => ?_, fun r hr' => ?_, fun a ha => ?_⟩
            · rw [upd_ne (ne_of_none q hTB)]
              exact k12 _ _ q nb
            · obtain ⟨x1, w1, z1, hx, r⟩ := b12.mono (M := 800 + 2 * (i' + 1)) (by omega)
              exact ⟨x1, w1, z1, by rw [upd_ne (Ne.symm TBb)]; exact hx, r⟩
            · refine (har12.append (.cons E12 E1b .nil)).updN fun a ha => ?_
              rcases List.mem_append.mp ha with ha | ha
              · exact hne a ha
              · rw [List.mem_singleton.mp ha]; exact E1T
            · rcases List.mem_append.mp hr' with hr' | hr'
              · exact hlen r hr'
              · rw [List.mem_singleton.mp hr']; exact lenE
            · rcases List.mem_append.mp hr' with hr' | hr'
              · exact h80 r hr'
              · rw [List.mem_singleton.mp hr']; exact smE
            · rcases List.mem_append.mp ha with ha | ha
              · exact hne a ha
              · rw [List.mem_singleton.mp ha]; exact E1T
        · rintro σ H12 ⟨z11, z12, ls, rs, rfl, kp, bx, hT, har, hrl', hlen, h80, hne⟩
          exact ⟨TB, ls, rs, _, _, _, _, rfl, (k57.trans k9).trans kp, hT, by omega, har, hlen, h80⟩
      · rintro σ' G0 ⟨TB, ls, rs, z9, z10, z11, z12, rfl, kG, hTB, hrn, har, hlen, h80⟩
        have b5at := b5.at
        have ispG : IsSp K G0 y p n B := isp.kept kG b5at
        have hrlG : G0 rl = some (.lst (ls0.map V.ref)) := kG _ _ hrl5 hrlb
        have har0G := har5.kept kG
        have SG : Same H1 G0 := kb (k25.trans kG)
        have hll := har.length
        have shn := fun {G : Hp} (s : Same G0 G) => shown_tab (K := K) (H := G) (s _ _ hTB) (har.same s) hlen hrn hn h80
        -- kept, due
        refine ⟨_, rfl, _, _, rfl, shn (Same.refl _), ?_⟩
        refine fun due hdue => ?_
        have s1 := same_new (o := .dT []) hdue
        have due1 : upd G0 due (.dT []) due = some (.dT (kvsOf [])) := upd_same
        generalize upd G0 due (.dT []) = G1 at s1 due1 ⊢
        -- the sums sent
        refine ⟨_, rfl, _, rfl, _, rfl, p, n, rl, b, ls0, rs0, rfl, s1 _ _ hrlG, har0G.same s1, hlen0, hp, hn, hpn, fun G2 e s2' he0 he => ?_⟩
        refine ⟨e, kvsOf (spanL p n rs0), rfl, Rd.of he, fun q bs hq' hks => ?_⟩
        have hrows := rows_keys hks
        have due2 := s2' _ _ due1
        have s3 := same_new (o := .lst (bs.map V.ref)) hq'
        have q3 : upd G2 q (.lst (bs.map V.ref)) q = some (.lst (bs.map V.ref)) := upd_same
        have due3 := s3 _ _ due2
        have rows3 := hrows.same s3
        have qd : q ≠ due := fun z => by rw [z, due2] at hq'; cases hq'
        have dn0 : due ≠ TB := fun z => by rw [z, hTB] at hdue; cases hdue
        have s03 : Same G0 (upd G2 q (.lst (bs.map V.ref))) := (s1.trans s2').trans s3
        generalize upd G2 q (.lst (bs.map V.ref)) = G3 at s3 q3 due3 rows3 s03 ⊢
        have hbl := rows3.length
        have szl := spanL_len hp hlen0 hpn
        have spr := spanL_rows hq.1 hlen0
        refine ⟨q, rfl, ⟨_, SqL.of q3⟩, for_list (xs := bs.map V.ref) (fun i' σ H' => ∃ z16, σ = [some (V.ref l), some (.int (0 + (i : Nat))), some (.ref b), some (.int p), some (.int n), some (.ref rl), some (.ref y), y7, some (.ref TB), z9, z10, z11, z12, y13, some (.str (tabD rs).shown), some (.ref due), z16, y17, y18, y19, y20, y21] ∧ (∀ c o, G3 c = some o → c ≠ due → H' c = some o) ∧ H' due = some (.dT (kvsOf ((((spanL p n rs0).take i').map fun v => sentP p v rs).foldl ins [])))) ⟨_, rfl, (fun _ _ h _ => h), due3⟩ (fun i' σ H' _ z => ?_) ?_ ?_⟩
        · obtain ⟨_, _, kp, _⟩ := z
          exact SqL.of (kp _ _ q3 qd)
        · rintro i' v σ H' hv ⟨z16, rfl, kp, hdu⟩
          obtain ⟨a, ha, rfl⟩ := refs_at hv
          obtain ⟨r, hr', hra⟩ := rows3.get ha
          have hrow := spr r (List.mem_of_getElem? hr')
          have hi3 : i' < (spanL p n rs0).length := (List.getElem?_eq_some_iff.mp hr').1
          have sK : Same G0 H' := fun c o z => kp _ _ (s03 _ _ z) (ne_of_none z hdue)
          have ad : a ≠ due := fun z => by rw [z] at hra; rw [show G3 due = _ from hra] at due3; cases due3
          refine ⟨_, rfl, _, rfl, _, rfl, _, rfl, p, a, r, TB, ls, rs, n, rfl, kp _ _ hra ad, sK _ _ hTB, (har.same sK).ints, ⟨hrow, hq.1, by omega, by omega⟩, hrn, hlen, fun H3' c s4 hc => ?_⟩
          have key : H3' c = some (.tup (((sentP p r rs).map (Sum.inl : Int → L2.Key)).map kV)) := by
            rw [List.map_map]
            exact hc
          refine ⟨due, _, rfl, DPut.t (s4 _ _ hdu) key (by
            rw [kvs_len]
            have h1 := insAll_len (((spanL p n rs0).take i').map fun v => sentP p v rs) []
            rw [List.length_map, List.length_take] at h1
            exact Nat.lt_of_le_of_lt h1 (Nat.lt_of_le_of_lt (show [].length + min i' _ ≤ 1000000 by simp only [List.length_nil]; omega) (by decide))), _, rfl, fun u o z nu => ?_, ?_⟩
          · rw [upd_ne nu]
            exact s4 _ _ (kp _ _ z nu)
          · rw [upd_same, putK_kvs, take_one' hr', List.foldl_append]
            rfl
        rintro σ G4 ⟨z16, rfl, kp4, due4⟩
        rw [List.length_map, hbl, List.take_length] at due4
        have s04 : Same G0 G4 := fun c o z => kp4 _ _ (s03 _ _ z) (ne_of_none z hdue)
        generalize hdl : ((spanL p n rs0).map fun v => sentP p v rs).foldl ins [] = dl at due4
        have dlnd : dl.Nodup := by rw [← hdl]; exact insAll_nodup _ _ List.nodup_nil
        have dlm : ∀ w, w ∈ dl ↔ ∃ v ∈ spanL p n rs0, w = sentP p v rs := fun w => by
          rw [← hdl, mem_insAll]
          simp only [List.not_mem_nil, false_or, List.mem_map]
          exact ⟨fun ⟨v, hv, e⟩ => ⟨v, hv, e.symm⟩, fun ⟨v, hv, e⟩ => ⟨v, hv, e.symm⟩⟩
        obtain ⟨im1, im2⟩ := image_told II hlen0 dlnd dlm
        rw [hB] at im1 im2
        have hB2 : ∀ r ∈ B.map fun r => sentP p r rs, Row p n r := fun r hr => by
          obtain ⟨s, hs', rfl⟩ := List.mem_map.mp hr
          exact sentP_row h0 (hR.rows s hs').1
        have hR2 : Rref p n (reduced (invF p) p (B.map fun r => sentP p r rs)) := reduced_ok II hB2
        -- told
        refine ⟨_, rfl, _, rfl, y, .ref TB, p, n, B, rfl, ispG.same s04, hp, by omega, hR, .inr ⟨TB, ls, rs, rfl, .inl (s04 _ _ hTB), (har.same s04).ints, hrn, hlen, fun G5 y2 s45' _ isp2 => ?_⟩⟩
        generalize hB2e : reduced (invF p) p (B.map fun r => sentP p r rs) = B2 at im1 im2 hR2 isp2
        refine ⟨_, rfl, _, rfl, _, rfl, _, rfl, y2, p, n, B2, due, dl, rfl, isp2, hp, by omega, hR2, s45' _ _ due4, im1, im2, fun G6 s6 => ⟨true, rfl, iteF ?_⟩⟩
        have s06 := (s04.trans s45').trans s6
        have isp26 := isp2.same s6
        refine ⟨_, rfl, _, rfl, TB, rfl, ⟨_, SqL.of (s06 _ _ hTB)⟩, fun D hD => lc_it (walk_list (K := K) (a := TB) (xs := ls.map V.ref)) (fun i' H' => Same G6 H' ∧ ∃ cs : List Addr, H' D = some (.lst (cs.map V.ref)) ∧ cs.length = i' ∧ AreRows H' cs (rs.take i')) ⟨same_new hD, [], upd_same, rfl, .nil⟩ (fun i' H' _ z => SqL.of (z.1 _ _ (s06 _ _ hTB))) ?_ ?_⟩
        · rintro i' v Ha Hb hi ⟨sa, cs, hcs, hcl, hrows'⟩ ⟨rfl, hv⟩
          obtain ⟨a, ha, rfl⟩ := refs_at hv
          obtain ⟨r, hr', hra⟩ := har.get ha
          refine ⟨rfl, yes_if ?_⟩
          have hlla : i' < ls.length := by simpa using hi
          refine ⟨_, rfl, a, _, rfl, .inl ⟨SqL.of (sa _ _ (s06 _ _ hra)), fun t ht => ⟨cs.map V.ref, (same_new ht) _ _ hcs, lt_line (by rw [List.length_map]; omega), Same.grow (sa.trans (same_new ht)) hD, cs ++ [t], by rw [upd_same, List.map_append]; rfl, by rw [List.length_append, List.length_singleton, hcl], ?_⟩⟩⟩
          have hcs' := (same_new (o := .tup (r.map V.int)) ht) _ _ hcs
          have := ((hrows'.same (same_new ht)).append (.cons (show IsRow (upd Hb t (.tup (r.map V.int))) t r from upd_same) .nil)).upd (o := .lst (cs.map V.ref ++ [V.ref t])) hcs'
          rw [show rs.take (i' + 1) = rs.take i' ++ [r] by rw [List.take_succ, hr']; rfl]
          exact this
        rintro G7 ⟨s67, cs, hcs, hcl, hrows'⟩
        rw [List.length_map, hll, List.take_length] at hrows'
        refine ⟨D, _, rfl, .inl ⟨SqL.of hcs, fun t ht => ?_⟩⟩
        have s78 := same_new (o := .tup (cs.map V.ref)) ht
        have s08 := (s06.trans s67).trans s78
        refine ⟨y, .ref t, p, n, B, rfl, ispG.same s08, hp, by omega, hR, .inr ⟨t, cs, rs, rfl, .inr upd_same, (hrows'.same s78).ints, hrn, hlen, fun G9 y3 s89 _ isp3 => ?_⟩⟩
        have hB3 : IsSp K G9 y3 p n B2 := by rw [← hB2e]; exact isp3
        have s69 := (s67.trans s78).trans s89
        have s09 := s08.trans s89
        have isp29 := isp26.same s69
        obtain ⟨dx3, _, _, o3, _, _⟩ := hB3.ob
        obtain ⟨dx2, _, _, o2, _, _⟩ := isp29.ob
        refine ⟨_, rfl, ⟨y3, y2, _, _, _, _, rfl, rfl, o3, o2, p, n, B2, hB3, isp29⟩, fun GA sA => ⟨_, rfl, iteF ?_⟩⟩
        have s0A : Same G0 GA := s09.trans sA
        -- repr again, the space again
        refine ⟨_, rfl, _, _, rfl, shn s0A, _, rfl, rNe_str ⟨_, rfl, iteF ?_⟩⟩
        refine ⟨_, rfl, _, rfl, _, rfl, _, rfl, _, rfl, _, rfl, p, n, rl, b, ls0, rs0, rfl, s0A _ _ hrlG, har0G.same s0A, hlen0, hp, hn, hpn, fun GB e2 sB he20 he2 => ?_⟩
        refine ⟨y, p, n, B, e2, spanL p n rs0, rfl, ispG.same (s0A.trans sB), hp, by omega, hR, he2, st1, st3, fun GC sC => ⟨true, rfl, iteF ?_⟩⟩
        have s0C : Same G0 GC := (s0A.trans sB).trans sC
        have hTC := s0C _ _ hTB
        have harC := har.same s0C
        have rvC := rowV_lst harC hlen (by omega : n ≤ 100)
        have one0 : ∀ {H : Hp} {a : Addr}, H a = some (.lst []) → ∀ x ∈ [V.ref a], ∃ c, RowV H n x c := fun {H a} h x hx => by
          rw [List.mem_singleton.mp hx]
          exact rowV_ints (r := []) h (by simp)
        -- short
        refine ⟨fun v H' => Same GC H' ∧ BadM H' n v, ⟨_, rfl, _, _, rfl, rfl, _, rfl, ite2 (fun c => ?_) (fun c => ?_)⟩, ?_⟩
        · have hn1 : 0 < n := by
            have := of_decide_eq_true c
            omega
          refine ⟨_, rfl, 1, rfl, _, rfl, TB, _, rfl, SqL.of hTC, fun e3 he3 => ⟨same_new he3, ?_⟩⟩
          rw [cut_last]
          refine bad_len upd_same (fun x hx => ?_) (by rw [List.length_take, List.length_map]; omega) (by rw [List.length_take, List.length_map]; omega)
          obtain ⟨c, hc'⟩ := rvC x (List.mem_of_mem_take hx)
          exact ⟨c, hc'.same (same_new he3)⟩
        · have hn0 : n = 0 := by
            by_cases z : n = 0
            · exact z
            · exact absurd (decide_eq_true (show (n : Int) > 0 by omega)) c
          refine ⟨(by show 0 ≤ sizeLine; decide), fun e3 he3 => ⟨(by show 1 ≤ sizeLine; decide), fun e4 he4 => ⟨same_two he3 he4, bad_len upd_same (fun x hx => ?_) (by simp; omega) (by simp)⟩⟩⟩
          rw [List.mem_singleton.mp hx]
          exact rowV_ints (r := []) ((same_new he4) _ _ upd_same) (by simp)
        rintro vs HD ⟨sD, bad1⟩
        have s0D := s0C.trans sD
        have hTD := s0D _ _ hTB
        have harD := har.same s0D
        -- wide
        refine ⟨_, rfl, TB, rfl, ⟨_, SqL.of hTD⟩, fun D3 hD3 => lc_it (walk_list (K := K) (a := TB) (xs := ls.map V.ref)) (fun i' H' => Same HD H' ∧ ∃ xs : List V, H' D3 = some (.lst xs) ∧ xs.length = i' ∧ ∀ x ∈ xs, x ≠ .ref D3 ∧ ∃ c, RowV H' n x c) ⟨same_new hD3, [], upd_same, rfl, (fun _ h => nomatch h)⟩ (fun i' H' _ z => SqL.of (z.1 _ _ hTD)) ?_ ?_⟩
        · rintro i' v Ha Hb hi ⟨sa, xs, hxs, hxl, hxr⟩ ⟨rfl, hv⟩
          obtain ⟨a, ha, rfl⟩ := refs_at hv
          obtain ⟨r, hr', hra⟩ := harD.get ha
          have hrl' := hlen r (List.mem_of_getElem? hr')
          have hia : i' < ls.length := by simpa using hi
          refine ⟨rfl, yes_if ?_⟩
          refine ⟨_, rfl, (by show 1 ≤ sizeLine; decide), fun g1 hg1 => ⟨a, g1, _, _, rfl, rfl, (same_new hg1) _ _ (sa _ _ hra), upd_same, Nat.le_of_lt (lt_line (by rw [List.length_map, List.length_singleton]; omega)), fun g2 hg2 => ?_⟩⟩
          have sg := (same_new (o := .lst [V.int 0]) hg1).trans (same_new (o := .lst (r.map V.int ++ [V.int 0])) hg2)
          have g22 : upd (upd Hb g1 (.lst [V.int 0])) g2 (.lst (r.map V.int ++ [V.int 0])) g2 = some (.lst ((r ++ [0]).map V.int)) := by rw [upd_same, List.map_append]; rfl
          generalize upd (upd Hb g1 (.lst [V.int 0])) g2 (.lst (r.map V.int ++ [V.int 0])) = Hg at sg g22 ⊢
          have hxg := sg _ _ hxs
          have sN : Same HD (upd Hg D3 (.lst (xs ++ [V.ref g2]))) := Same.grow (sa.trans sg) hD3
          have rvU : ∀ {x c}, RowV Hg n x c → x ≠ .ref D3 → RowV (upd Hg D3 (.lst (xs ++ [V.ref g2]))) n x c := fun {x c} h ne => by
            obtain ⟨o, h1, h2⟩ := h
            refine ⟨o, ?_, h2⟩
            cases h1 with
            | lst h => exact .lst (by rw [upd_ne fun e => ne (by rw [e])]; exact h)
            | tup h => exact .tup (by rw [upd_ne fun e => ne (by rw [e])]; exact h)
            | non => exact .non
            | str z => exact .str z
          have g2D : g2 ≠ D3 := fun z => by
            have := (same_new (o := .lst [V.int 0]) hg1) _ _ hxs
            rw [z, this] at hg2
            cases hg2
          refine ⟨xs, hxg, lt_line (by omega), sN, xs ++ [.ref g2], upd_same, by rw [List.length_append, List.length_singleton, hxl], fun x hx => ?_⟩
          rcases List.mem_append.mp hx with hx | hx
          · obtain ⟨ne, c, hc'⟩ := hxr x hx
            exact ⟨ne, c, rvU (hc'.same sg) ne⟩
          · rw [List.mem_singleton.mp hx]
            have ne : V.ref g2 ≠ .ref D3 := fun z => g2D (by cases z; rfl)
            obtain ⟨c, hc'⟩ := rowV_ints (n := n) g22 (by rw [List.length_append, List.length_singleton]; omega)
            exact ⟨ne, c, rvU hc' ne⟩
        rintro HE ⟨sE, xs, hxs, hxl, hxr⟩
        rw [List.length_map, hll, hrn] at hxl
        refine ⟨(by show 1 ≤ sizeLine; decide), fun g1 hg1 => ⟨(by show 1 ≤ sizeLine; decide), fun g2 hg2 => ⟨D3, g2, xs, _, rfl, rfl, same_two hg1 hg2 _ _ hxs, upd_same, Nat.le_of_lt (lt_line (by rw [List.length_singleton]; omega)), fun W hW => ?_⟩⟩⟩
        have sF := (same_two hg1 hg2 (o := .lst [V.int 1]) (u := .lst [V.ref g1])).trans (same_new (o := .lst (xs ++ [V.ref g1])) hW)
        have badW : BadM (upd (upd (upd HE g1 (.lst [V.int 1])) g2 (.lst [V.ref g1])) W (.lst (xs ++ [V.ref g1]))) n (.ref W) := by
          refine bad_len upd_same (fun x hx => ?_) (by rw [List.length_append, List.length_singleton]; omega) (by rw [List.length_append, List.length_singleton]; omega)
          rcases List.mem_append.mp hx with hx | hx
          · obtain ⟨_, c, hc'⟩ := hxr x hx
            exact ⟨c, hc'.same sF⟩
          · rw [List.mem_singleton.mp hx]
            exact rowV_ints (r := [1]) ((same_new hW) _ _ ((same_new hg2) _ _ upd_same)) (by simp)
        have s0F := (s0D.trans sE).trans sF
        have bad1F := bad1.same (sE.trans sF)
        generalize upd (upd (upd HE g1 (.lst [V.int 1])) g2 (.lst [V.ref g1])) W (.lst (xs ++ [V.ref g1])) = HF at sF badW s0F bad1F ⊢
        -- five that are wrong
        have hTF := s0F _ _ hTB
        refine ⟨_, rfl, (by show 1 ≤ sizeLine; decide), fun a1 ha1 => ?_⟩
        refine ⟨_, rfl, a1, _, _, rfl, rfl, upd_same, by omega, by omega, ?_, fun a2 ha2 => ?_⟩
        · rw [hnn]
          show 1 * n ≤ sizeLine
          exact Nat.le_of_lt (lt_line (by omega))
        refine ⟨(by show 1 ≤ sizeLine; decide), fun a3 ha3 => ?_⟩
        refine ⟨TB, a3, _, _, rfl, rfl, (same_new ha3) _ _ ((same_new ha2) _ _ ((same_new ha1) _ _ hTF)), upd_same, Nat.le_of_lt (lt_line (by rw [List.length_map, List.length_singleton]; omega)), fun a4 ha4 => ?_⟩
        rw [hnn, flat_one] at ha3 ha4 ⊢
        have q1 := same_new (o := .lst [V.int 0]) ha1
        have q2 := same_new (o := .lst (List.replicate n (V.int 0))) ha2
        have q3 := same_new (o := .lst [V.ref a2]) ha3
        have q4 := same_new (o := .lst (ls.map V.ref ++ [V.ref a2])) ha4
        have e4 : upd (upd (upd (upd HF a1 (.lst [V.int 0])) a2 (.lst (List.replicate n (V.int 0)))) a3 (.lst [V.ref a2])) a4 (.lst (ls.map V.ref ++ [V.ref a2])) a4 = some (.lst (ls.map V.ref ++ [V.ref a2])) := upd_same
        have e2 := (q3.trans q4) _ _ (upd_same (H := upd HF a1 (.lst [V.int 0])) (a := a2) (o := .lst (List.replicate n (V.int 0))))
        have sX := (q1.trans q2).trans (q3.trans q4)
        generalize upd (upd (upd (upd HF a1 (.lst [V.int 0])) a2 (.lst (List.replicate n (V.int 0)))) a3 (.lst [V.ref a2])) a4 (.lst (ls.map V.ref ++ [V.ref a2])) = HX at e4 e2 sX ⊢
        have bad4 : BadM HX n (.ref a4) := by
          refine bad_len e4 (fun x hx => ?_) (by rw [List.length_append, List.length_singleton, List.length_map]; omega) (by rw [List.length_append, List.length_singleton, List.length_map]; omega)
          rcases List.mem_append.mp hx with hx | hx
          · exact rowV_lst (har.same (s0F.trans sX)) hlen (by omega) x hx
          · rw [List.mem_singleton.mp hx]
            exact rowV_ints (r := List.replicate n 0) (by rw [e2, List.map_replicate]) (by rw [List.length_replicate]; omega)
        refine ⟨_, rfl, _, rfl, (by show 5 ≤ sizeLine; decide), fun lw hlw => ?_⟩
        have sY := same_new (o := .lst [V.ref a4, vs, .ref W, .non, .str "x"]) hlw
        have allbad : ∀ x ∈ [V.ref a4, vs, .ref W, .non, .str "x"], BadM (upd HX lw (.lst [V.ref a4, vs, .ref W, .non, .str "x"])) n x := fun x hx => by
          simp only [List.mem_cons, List.not_mem_nil, or_false] at hx
          rcases hx with rfl | rfl | rfl | rfl | rfl
          · exact bad4.same sY
          · exact bad1F.same (sX.trans sY)
          · exact badW.same (sX.trans sY)
          · exact bad_non
          · exact bad_str
        have elw : upd HX lw (.lst [V.ref a4, vs, .ref W, .non, .str "x"]) lw = some (.lst [V.ref a4, vs, .ref W, .non, .str "x"]) := upd_same
        have s0Y := (s0F.trans sX).trans sY
        refine ⟨lw, rfl, ⟨_, SqL.of elw⟩, ?_⟩
        generalize upd HX lw (.lst [V.ref a4, vs, .ref W, .non, .str "x"]) = HY at sY allbad elw s0Y ⊢
        refine for_it (walk_list (K := K) (a := lw) (xs := [V.ref a4, vs, .ref W, .non, .str "x"])) (fun j σ H' => Same HY H' ∧ ∃ z21, σ = [some (V.ref l), some (.int (0 + (i : Nat))), some (.ref b), some (.int p), some (.int n), some (.ref rl), some (.ref y), y7, some (.ref TB), z9, z10, z11, z12, y13, some (.str (tabD rs).shown), some (.ref due), z16, some (.ref y2), y18, some vs, some (.ref W), z21]) ⟨Same.refl _, _, rfl⟩ (fun j σ H' _ q => SqL.of (q.1 _ _ elw)) ?_ ?_
        · rintro j x σ Hx H9 hj ⟨sL, z21, rfl⟩ ⟨rfl, hx⟩
          exact ⟨_, rfl, _, rfl, y, x, p, n, B, rfl, ispG.same (s0Y.trans sL), hp, by omega, hR, (allbad x (List.mem_of_getElem? hx)).same sL, fun Gz sz => ⟨true, rfl, iteF ⟨sL.trans sz, _, rfl⟩⟩⟩
        rintro σ HZ ⟨sL, z21, rfl⟩
        have hTZ := (s0Y.trans sL) _ _ hTB
        refine ⟨fun σ' H' => Same HZ H' ∧ σ' = [some (V.ref l), some (.int (0 + (i : Nat))), some (.ref b), some (.int p), some (.int n), some (.ref rl), some (.ref y), y7, some (.ref TB), z9, z10, z11, z12, y13, some (.str (tabD rs).shown), some (.ref due), z16, some (.ref y2), y18, some vs, some (.ref W), z21], ⟨_, rfl, _, _, rfl, rfl, _, rfl, ite2 (fun c => ?_) (fun c => iteF ⟨Same.refl _, rfl⟩)⟩, ?_⟩
        · have hn1 : 0 < n := by
            have := of_decide_eq_true c
            omega
          refine ⟨_, rfl, _, rfl, 1, rfl, _, rfl, TB, _, rfl, SqL.of hTZ, fun b1 hb1 => ⟨(by show 1 ≤ sizeLine; decide), fun b2 hb2 => ?_⟩⟩
          refine ⟨_, rfl, b2, _, _, rfl, rfl, upd_same, by omega, by omega, ?_, fun b3 hb3 => ?_⟩
          · rw [hnn]
            show 1 * n ≤ sizeLine
            exact Nat.le_of_lt (lt_line (by omega))
          rw [hnn, flat_one]
          refine ⟨(by show 1 ≤ sizeLine; decide), fun b4 hb4 => ?_⟩
          have v1 := same_new (o := .lst (cutV (ls.map V.ref) none (some (-1)))) hb1
          have v2 := same_new (o := .lst [V.bl true]) hb2
          have v3 := same_new (o := .lst (List.replicate n (V.bl true))) hb3
          have v4 := same_new (o := .lst [V.ref b3]) hb4
          have f1 := (v2.trans (v3.trans v4)) _ _ upd_same
          have f3 := v4 _ _ upd_same
          have lc : (cutV (ls.map V.ref) none (some (-1))).length ≤ 100 := by rw [cut_last, List.length_take, List.length_map]; omega
          refine ⟨b1, b4, _, _, rfl, rfl, f1, upd_same, Nat.le_of_lt (lt_line (by rw [List.length_singleton]; omega)), fun b5 hb5 => ?_⟩
          have v5 := same_new (o := .lst (cutV (ls.map V.ref) none (some (-1)) ++ [V.ref b3])) hb5
          have vv := (v1.trans v2).trans ((v3.trans v4).trans v5)
          refine ⟨y, .ref b5, p, n, B, rfl, ispG.same ((s0Y.trans sL).trans vv), hp, by omega, hR, bad_row (x := .ref b3) upd_same (fun x hx => ?_) (by rw [List.length_append, List.length_singleton]; omega) (List.mem_append_right _ (List.mem_singleton.mpr rfl)) (bls_false (v5 _ _ f3) hn1), fun Gz sz => ⟨true, rfl, iteF ⟨vv.trans sz, rfl⟩⟩⟩
          rcases List.mem_append.mp hx with hx | hx
          · rw [cut_last] at hx
            exact rowV_lst (har.same ((s0Y.trans sL).trans vv)) hlen (by omega) x (List.mem_of_mem_take hx)
          · rw [List.mem_singleton.mp hx]
            exact rowV_bls (v5 _ _ f3) (by omega)
        rintro σ HW ⟨sW, rfl⟩
        refine ⟨_, rfl, _, _, rfl, rfl, _, rfl, ite2 (fun c => ?_) (fun c => iteF ⟨?_, _, _, _, _, _, _, _, _, _, _, _, _, _, _, _, _, _, _, _, _, _, rfl⟩)⟩
        · have hn1 : 0 < n := by
            have := of_decide_eq_true c
            omega
          refine ⟨_, rfl, (by show 1 ≤ sizeLine; decide), fun b2 hb2 => ?_⟩
          refine ⟨_, rfl, b2, _, _, rfl, rfl, upd_same, by omega, by omega, ?_, fun b3 hb3 => ?_⟩
          · rw [hnn]
            show 1 * n ≤ sizeLine
            exact Nat.le_of_lt (lt_line (by omega))
          rw [hnn, flat_one]
          have v1 := same_new (o := .lst [V.non]) hb2
          have v2 := same_new (o := .lst (List.replicate n V.non)) hb3
          have vv := v1.trans v2
          refine ⟨y, .ref b3, p, n, B, rfl, ispG.same (((s0Y.trans sL).trans sW).trans vv), hp, by omega, hR, bad_row (x := .non) upd_same (fun x hx => ?_) (by rw [List.length_replicate]; omega) (List.mem_replicate.mpr ⟨by omega, rfl⟩) non_false, fun Gz sz => ⟨true, rfl, iteF ⟨(sH1.trans SG).trans (((s0Y.trans sL).trans sW).trans (vv.trans sz)), _, _, _, _, _, _, _, _, _, _, _, _, _, _, _, _, _, _, _, _, _, rfl⟩⟩⟩
          rw [List.eq_of_mem_replicate hx]
          exact rowV_non
        · exact ((sH1.trans SG).trans ((s0Y.trans sL).trans sW))
    · rintro σ H1 ⟨sH1, y1, y2, y3, y4, y5, y6, y7, y8, y9, y10, y11, y12, y13, y14, y15, y16, y17, y18, y19, y20, y21, rfl⟩
      exact k H1
end
end K7

set_option Elab.async false
set_option linter.all false
set_option maxRecDepth 100000
set_option maxHeartbeats 0
/-! ## the facts of the top -/
namespace K7
open PySem PySem.Spec PyProof.Rows L2 VX RX
abbrev sC (K : PySem.W.Frag) : Addr := He.ga K "Space"
def dvA (K : PySem.W.Frag) : Addr := He.dflAt ("Space", some "__init__") 0 K
def prG (K : PySem.W.Frag) (m : Str) : Addr := match PySem.W.recIn K (He.ma K (sC K) m) "property" with
  | some (.ref g :: _) => g
  | _ => 0
def dD (x : Str) (i : Nat) : He5.DefA := ⟨fun K => He.ga K x, x, x, defArgs (top i), defBody (top i), defScope (top i), [], []⟩
def dM (m : Str) (st : Stmt) (dfl : List He.Dv) : He5.DefA := ⟨fun K => He.ma K (sC K) m, m, ("Space." : Str) ++ m, defArgs st, defBody st, defScope st, dfl, []⟩
def dP (m : Str) (st : Stmt) : He5.DefA := ⟨fun K => prG K m, m, ("Space." : Str) ++ m, defArgs st, defBody st, defScope st, [], []⟩
def mets : List He5.DefA := [dM "__init__" sInit [.adr dvA], dM "__len__" sLen [], dM "__eq__" sEq [], dM "basis" sBasis [], dP "prime" sP, dP "length" sL]
def fn : List He5.DefA := defs.map (fun p => dD p.1 p.2) ++ mets
def glos : List Str := ["PRIMES", "Space", "BadMatrix"]
def more : List He.Fa := [.int "LONGEST" 12, .cls "Space", .noat "Space" "_prime", .noat "Space" "_length", .noat "Space" "_rows", .mkr "Space", .meth "Space" "basis", .exc "BadMatrix", .exm "BadMatrix" "BadMatrix" true]
def fa : List He.Fa := (glos.map He.Fa.glo) ++ (defs.map fun p => He.Fa.glo p.1) ++ free.map He.Fa.free ++ more
/-- an empty tuple stands at a -/
def nilB (K : PySem.W.Frag) (a : Addr) : Bool := match K.lookup a with
  | some ⟨.type c, _, .seq its _, _⟩ => decide (c = "tuple") && decide (its.size = 0)
  | _ => false
theorem nilB_ok {K : PySem.W.Frag} {a : Addr} (h : nilB K a = true) (H : Hp) : SqT K H a [] := by
  unfold nilB at h
  cases q : K.lookup a with
  | none => rw [q] at h; cases h
  | some o =>
    obtain ⟨oc, od, dt, osl⟩ := o
    rw [q] at h
    cases oc with
    | type c =>
      cases dt with
      | seq its n =>
        obtain ⟨h1, h2⟩ := He.ba (show (decide (c = "tuple") && decide (its.size = 0)) = true from h)
        have e : its = #[] := Array.eq_empty_of_size_eq_zero (of_decide_eq_true h2)
        subst e
        exact .inr ⟨_, #[], n, q, congrArg Value.type (of_decide_eq_true h1), rfl, by simp, .nil⟩
      | _ => cases h
    | _ => cases dt <;> cases h
def prB (K : PySem.W.Frag) (m : Str) : Bool := He.eqO (PySem.W.findIn K (.ref (sC K)) m) (some (some (.ref (He.ma K (sC K) m)))) && (He.eqO (PySem.W.specialIn K (.ref (He.ma K (sC K) m)) "__get__") (some (some (.builtin "property.__get__"))) && (decide (PySem.W.takesIn K (.ref (He.ma K (sC K) m)) = some true) &&
  (match PySem.W.recIn K (He.ma K (sC K) m) "property" with
    | some (.ref _ :: _) => true
    | _ => false)))
theorem prB_ok {K : PySem.W.Frag} {m : Str} (h : prB K m = true) : PropOf K (sC K) m (He.ma K (sC K) m) (prG K m) := by
  obtain ⟨h1, h⟩ := He.ba h
  obtain ⟨h2, h⟩ := He.ba h
  obtain ⟨h3, h4⟩ := He.ba h
  refine ⟨He.eqO_ok h1, He.eqO_ok h2, of_decide_eq_true h3, ?_⟩
  unfold prG
  split at h4
  · rename_i g r e
    exact ⟨r, by rw [e]⟩
  · cases h4
def leB (K : PySem.W.Frag) : Bool := He.eqO (PySem.W.findIn K (.ref (sC K)) "__len__") (some (some (.ref (He.ma K (sC K) "__len__")))) && (PySem.W.isFn K (.ref (He.ma K (sC K) "__len__")) && (PySem.W.selfFirst K (sC K) &&
  (He.eqO (PySem.W.findIn K (.ref (sC K)) "__eq__") (some (some (.ref (He.ma K (sC K) "__eq__")))) && PySem.W.isFn K (.ref (He.ma K (sC K) "__eq__")))))
def tyB (K : PySem.W.Frag) : Bool := He.eqO (PySem.W.findIn K (.ref (sC K)) "__class__") (some (some (.builtin "object.__class__"))) && (He.eqO (PySem.W.specialIn K (.builtin "object.__class__") "__get__") (some (some (.builtin "getset_descriptor.__get__"))) &&
  (decide (PySem.W.takesIn K (.builtin "object.__class__") = some true) && decide (PySem.W.mroIn K (sC K) (.type "object") = some true)))
def ex (K : PySem.W.Frag) : Bool := (He.tupB K "PRIMES" [.int 2, .int 3, .int 5, .int 7, .int 11, .int 13] && nilB K (dvA K)) && ((prB K "prime" && prB K "length") && (leB K && tyB K))
theorem fa_in {K : PySem.W.Frag} (c : He5.SaysA fa fn K) : ∀ f ∈ fa, f.ok K = true := fun f hf => by
  obtain ⟨i, hi, e⟩ := List.mem_iff_getElem.mp hf
  exact c.fact i (f := f) (by rw [List.getElem?_eq_getElem hi, e])
theorem glo_mk {K : PySem.W.Frag} {h : Heap} {mg : Str → Option Value} (X : K.In h) (G : h.Ns mainGlobals mg) (c : He5.SaysA fa fn K) (x : Str) (hx : x ∈ glos) : mg x = some (.ref (He.ga K x)) :=
  He.glo_ok X G (fa_in c _ (List.mem_append_left _ (List.mem_append_left _ (List.mem_append_left _ (List.mem_map.mpr ⟨x, hx, rfl⟩)))))
theorem more_in {K : PySem.W.Frag} (c : He5.SaysA fa fn K) (f : He.Fa) (hf : f ∈ more) : f.ok K = true := fa_in c _ (List.mem_append_right _ hf)
theorem d_in {K : PySem.W.Frag} (c : He5.SaysA fa fn K) (x : Str) (i : Nat) (hp : (x, i) ∈ defs) : ∃ fd, FnP K x i (He.ga K x) fd := by
  obtain ⟨j, hj, e⟩ := List.mem_iff_getElem.mp (show dD x i ∈ fn from List.mem_append_left _ (List.mem_map.mpr ⟨(x, i), hp, rfl⟩))
  exact c.def_ j (d := dD x i) (by rw [List.getElem?_eq_getElem hj, e])
theorem txt_mk {K : PySem.W.Frag} {h : Heap} {mg : Str → Option Value} (X : K.In h) (G : h.Ns mainGlobals mg) (c : He5.SaysA fa fn K) (e : ex K = true) : Txt K mg := by
  obtain ⟨e1, e⟩ := He.ba e
  obtain ⟨t1, n0⟩ := He.ba e1
  exact {
    dfs := fun p hp => He.glo_ok X G (fa_in c _ (List.mem_append_left _ (List.mem_append_left _ (List.mem_append_right _ (List.mem_map.mpr ⟨p, hp, rfl⟩)))))
    prim := glo_mk X G c "PRIMES" (.head _)
    free := fun x hx => He.free_ok X G (fa_in c _ (List.mem_append_left _ (List.mem_append_right _ (List.mem_map.mpr ⟨x, hx, rfl⟩))))
    tup := fun H => He.tupB_ok t1 H
    chk := by obtain ⟨fd, h⟩ := d_in c "check_prime" iChkP (by decide +kernel); exact ⟨fd, h⟩
    chl := by obtain ⟨fd, h⟩ := d_in c "check_length" iChkL (by decide +kernel); exact ⟨fd, h⟩
    longest := He.int_ok X G (more_in c _ (.head _))
    space := glo_mk X G c "Space" (.tail _ (.head _))
    cls := He.cls_ok (more_in c _ (.tail _ (.head _)))
    fp := He.noat_ok (more_in c _ (.tail _ (.tail _ (.head _))))
    fl := He.noat_ok (more_in c _ (.tail _ (.tail _ (.tail _ (.head _)))))
    fw := He.noat_ok (more_in c _ (.tail _ (.tail _ (.tail _ (.tail _ (.head _))))))
    mks := He.mkr_ok (more_in c _ (.tail _ (.tail _ (.tail _ (.tail _ (.tail _ (.head _))))))) }
theorem tyo_mk {K : PySem.W.Frag} (c : He5.SaysA fa fn K) (e : ex K = true) : Tyo K := by
  obtain ⟨e1, e⟩ := He.ba e
  obtain ⟨_, e⟩ := He.ba e
  obtain ⟨_, e⟩ := He.ba e
  obtain ⟨a1, e⟩ := He.ba e
  obtain ⟨a2, e⟩ := He.ba e
  obtain ⟨a3, a4⟩ := He.ba e
  exact ⟨He.eqO_ok a1, He.eqO_ok a2, of_decide_eq_true a3, of_decide_eq_true a4, He.exm_ok (more_in c _ (.tail _ (.tail _ (.tail _ (.tail _ (.tail _ (.tail _ (.tail _ (.tail _ (.head _))))))))))⟩
abbrev R : PySem.W.OpenRow := PySem.W.OpenLaw.row PySem.Challenge.rw_handspaces_k07_images
abbrev hk : PySem.W.Hook := hookMA 6 fa fn ex
def ob (s : PySem.W.SharedT) : He.AlD × Bool := obsMA 6 fa fn ex (HandSHeadRun.getT s)
theorem ob_eq (s : PySem.W.SharedT) : ob s = hk.obs s.abs := obsMA_eq (HandSHeadRun.getT_eq s)
def loose : List Str := (["_wall", "HandError", "BadPrime", "NoInverse", "BadLength", "BadVector", "UnlikeSpaces", "BadMatrix", "BadText", "PRIMES", "zero_row", "common_rows", "all_sums", "LONGEST", "MOST_DIGITS", "check_like", "read_numbers", "spaced", "Space"] : List Str) ++ (defs.map (·.1)).dropLast
set_option maxRecDepth 1000000 in
theorem run (w : World) : HandSHeadRun.RunEq R (PySem.W.view R.prog [55]) hk ob 60000 loose w := by
  intro os
  kernel_rfl
end K7

set_option Elab.async false
set_option linter.all false
set_option maxRecDepth 100000
set_option maxHeartbeats 0
/-! ## the end -/
namespace K7
open PySem PySem.Spec PyProof.Rows L2 VX RX
theorem facts {P : Program} {w : World} {K : PySem.W.Frag} {h : Heap} {mg : Str → Option Value} {f : Addr} (X : K.In h) (G : h.Ns mainGlobals mg) (hfa : mg ("law" : Str) = some (.ref f)) (c : He5.SaysA fa fn K) (e : ex K = true) :
    ∃ fd : FuncData, (∀ (s : Shared) (v : Value), BindsTo s fd ⟨[v], []⟩ [("_law_script", v)]) ∧ ∀ base : Heap, K.In base → base.Ns mainGlobals mg → GFn P w K mg base 11 f fd ["_law_script"] (spLaw K) := by
  have T : Txt K mg := txt_mk X G c e
  have U : Tyo K := tyo_mk c e
  have at_ : ∀ d ∈ fn, ∃ fd, FunD K d.name d.qual d.params d.body d.scope (d.dvs K) (d.kws K) (d.at_ K) fd := fun d hd => by
    obtain ⟨i, hi, e⟩ := List.mem_iff_getElem.mp hd
    exact c.def_ i (d := d) (by rw [List.getElem?_eq_getElem hi, e])
  have D : ∀ p ∈ defs, ∃ fd, FnP K p.1 p.2 (He.ga K p.1) fd := fun p hp => at_ (dD p.1 p.2) (List.mem_append_left _ (List.mem_map.mpr ⟨p, hp, rfl⟩))
  have M : ∀ d ∈ mets, ∃ fd, FunD K d.name d.qual d.params d.body d.scope (d.dvs K) (d.kws K) (d.at_ K) fd := fun d hd => at_ d (List.mem_append_right _ hd)
  have ee := hfa.symm.trans (T.dfs ("law", 55) (by decide +kernel))
  cases ee
  obtain ⟨fd, F⟩ := D ("law", 55) (by decide +kernel)
  have b := FunD.bindsA (ps := ["_law_script"]) F fun _ _ _ _ _ _ us hl => match us, hl with | [_], _ => rfl
  obtain ⟨_, p1⟩ := D ("is_integer", iInt) (by decide +kernel)
  obtain ⟨_, p2⟩ := D ("is_prime", iPrime) (by decide +kernel)
  obtain ⟨_, p3⟩ := D ("inverse", iInv) (by decide +kernel)
  obtain ⟨_, p4⟩ := D ("is_row", iRow) (by decide +kernel)
  obtain ⟨_, p5⟩ := D ("row_of", iRowOf) (by decide +kernel)
  obtain ⟨_, p6⟩ := D ("lead", iLead) (by decide +kernel)
  obtain ⟨_, p7⟩ := D ("added", iAdded) (by decide +kernel)
  obtain ⟨_, p8⟩ := D ("rest_of", iRest) (by decide +kernel)
  obtain ⟨_, p9⟩ := D ("times", iTimes) (by decide +kernel)
  obtain ⟨_, p10⟩ := D ("joined", iJoined) (by decide +kernel)
  obtain ⟨_, p11⟩ := D ("reduced", iReduced) (by decide +kernel)
  obtain ⟨_, p12⟩ := D ("check_size", iSize) (by decide +kernel)
  obtain ⟨_, p13⟩ := D ("checked_row", iChecked) (by decide +kernel)
  obtain ⟨_, q1⟩ := D ("image", iImage) (by decide +kernel)
  obtain ⟨_, q2⟩ := D ("is_square", iSquare) (by decide +kernel)
  obtain ⟨_, q3⟩ := D ("sent", iSent) (by decide +kernel)
  obtain ⟨_, l39⟩ := D ("_law_cell", 42) (by decide +kernel)
  obtain ⟨_, l40⟩ := D ("_law_box", 43) (by decide +kernel)
  obtain ⟨_, l41⟩ := D ("_law_take", 44) (by decide +kernel)
  obtain ⟨_, l42⟩ := D ("_law_frame", 45) (by decide +kernel)
  obtain ⟨_, l43⟩ := D ("_law_vector", 46) (by decide +kernel)
  obtain ⟨_, l44⟩ := D ("_law_rows", 47) (by decide +kernel)
  obtain ⟨_, l45⟩ := D ("_law_plus", 48) (by decide +kernel)
  obtain ⟨_, l46⟩ := D ("_law_grown", 49) (by decide +kernel)
  obtain ⟨_, l47⟩ := D ("_law_power", 50) (by decide +kernel)
  obtain ⟨_, l48⟩ := D ("_law_span", 51) (by decide +kernel)
  obtain ⟨_, l49⟩ := D ("_law_is", 52) (by decide +kernel)
  obtain ⟨_, l50⟩ := D ("_law_sent", 53) (by decide +kernel)
  obtain ⟨_, l51⟩ := D ("_law_refused", 54) (by decide +kernel)
  obtain ⟨_, m1⟩ := M (dM "__init__" sInit [.adr dvA]) (.head _)
  obtain ⟨_, m2⟩ := M (dM "__len__" sLen []) (.tail _ (.head _))
  obtain ⟨_, m3⟩ := M (dM "__eq__" sEq []) (.tail _ (.tail _ (.head _)))
  obtain ⟨_, m4⟩ := M (dM "basis" sBasis []) (.tail _ (.tail _ (.tail _ (.head _))))
  obtain ⟨_, m5⟩ := M (dP "prime" sP) (.tail _ (.tail _ (.tail _ (.tail _ (.head _)))))
  obtain ⟨_, m6⟩ := M (dP "length" sL) (.tail _ (.tail _ (.tail _ (.tail _ (.tail _ (.head _))))))
  obtain ⟨_, e⟩ := He.ba e
  obtain ⟨e2, e⟩ := He.ba e
  obtain ⟨r1, r2⟩ := He.ba e2
  obtain ⟨e, _⟩ := He.ba e
  obtain ⟨w1, e⟩ := He.ba e
  obtain ⟨w2, e⟩ := He.ba e
  obtain ⟨w3, e⟩ := He.ba e
  obtain ⟨w4, w5⟩ := He.ba e
  obtain ⟨x1, x2, x3, x4⟩ := He.exc_ok (more_in c (.exc "BadMatrix") (.tail _ (.tail _ (.tail _ (.tail _ (.tail _ (.tail _ (.tail _ (.head _)))))))))
  have hS : Spf K mg (prG K "prime") (prG K "length") _ _ _ _ (.ref (dvA K)) := ⟨⟨_, prB_ok r1⟩, ⟨_, prB_ok r2⟩, m5, m6, He.meth_ok (more_in c (.meth "Space" "basis") (.tail _ (.tail _ (.tail _ (.tail _ (.tail _ (.tail _ (.head _)))))))), m4, m1, glo_mk X G c "BadMatrix" (by decide +kernel), x1, x2, x3, x4⟩
  have hY : Leq K _ _ := ⟨He.eqO_ok w1, w2, m2, w3, He.eqO_ok w4, w5, m3⟩
  refine ⟨fd, fun s v => b s [v] rfl, fun base _ _ => ?_⟩
  exact ok_law F T ⟨p1, p2, p3, p4, p5, p6, p7, p8, p9, p10, p11, p12, p13⟩ hS hY U ⟨l41, l40, l39, l42, l43, l44, l45, l46, l47, l48, l49, l50, l51, q1, q2, q3⟩
end K7
open PySem PySem.W PySem.Calls PyProof.Rows
set_option maxRecDepth 100000 in
set_option maxHeartbeats 0 in
theorem PySem.Challenge.cw_handspaces_k07_images_holds : PySem.Challenge.rw_handspaces_k07_images.Holds := by
  w_on; o_law
  refine HandSHeadRun.head_any (r := K7.R) (q := view K7.R.prog [55]) (H := K7.hk) (ob := K7.ob) (M := 60000) (loose := K7.loose) (d := HandSHeadRun.topDef K7.R.prog 55) (kwd := []) K7.ob_eq
    (by kernel_rfl) (fun s => by kernel_rfl) K7.run (by kernel_rfl) (by kernel_rfl) (by kernel_rfl) (by rfl) (by first | assumption | decide +kernel) (by decide +kernel) ⟨rfl, rfl, rfl, rfl, rfl, by decide +kernel⟩ ?hw ?hc
  case hw => w_witness2
  case hc =>
    refine VX.walk_g (l := PySem.Challenge.rw_handspaces_k07_images) (n := 63) (k := 11) (x := "_law_script") rfl (by decide) (by kernel_rfl) ⟨rfl, by decide, by decide⟩ ?F
    intro w mg fa h Y G hmg0
    obtain ⟨K, KX, c, e⟩ := Y
    have hmg : mg ("law" : PySem.Str) = some (.ref fa) := by
      have q : (HandSHeadRun.topDef K7.R.prog 55).name = ("law" : PySem.Str) := by kernel_rfl
      rw [← q]
      exact hmg0
    obtain ⟨fd, hb, hF⟩ := K7.facts (P := (PySem.Challenge.rw_handspaces_k07_images).prog) (w := w) KX G hmg c e
    exact ⟨K, fd, K7.spLaw K, KX, hb, fun H a ns hl _ hS => ⟨a, ns, rfl, hS, fun _ => rfl⟩, hF⟩
