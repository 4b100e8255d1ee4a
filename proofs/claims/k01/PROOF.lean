import PyProof.Rows.All
import Wide.All
import OpenK.AllK
import Wide.FinOn
import HandS.ForMost
import HandS.Exc
import HandS.TryOnly
import HandS.ExcOwn
import HandS.WordsExc
import HandS.TryMany
import HandS.ExcInit
import HandS.ExcField
import HandS.ExcIs
import HandS.ExcValue
import HandS.More
import HandS.IsInst
import HandS.DeepEq
import HandS.Style
import HandS.Conv
import HandS.NoneIn
import HandS.Flow
import KE.KIsAll
import KE.KTryMore
import HandS.Defaults
import KE.KStateDown
import Lean
import HandS.Head0
import HandS.Head1
import HandS.Head2
import HandS.HeadEnd
import HandS.HeadHook1
import HandS.HeadHook2
import HandS.Wide
import HandS.LawCells
import PySem.Challenge.RW_handspaces_k01_errors_and_rests
set_option Elab.async false
set_option linter.all false
set_option maxRecDepth 100000
set_option maxHeartbeats 2000000
namespace VX
open PySem PySem.Spec PyProof.Rows L2
/-! ### ints: a power of a greater base -/
def CPw (i j : Int) : Prop := 0 ≤ j ∧ (Builtin.Int.intBits i : Int) * j ≤ 2 ^ 27
theorem op_pw {X : Cx} : OpR X (binaryOp .Pow) (rI CPw fun i j => .int (i ^ j.toNat)) :=
  opI fun _ _ _ _ _ _ _ c q => pow_int c.1 c.2 q
/-! ### repr of data -/
inductive DX (K : PySem.W.Frag) (H : Hp) : V → PyData → Prop where
  | dp {v : V} {d : PyData} (h : Dp K H v d) : DX K H v d
  | dk {a : Addr} {x : Str} {i : Int} (h : H a = some (.dK [(Sum.inr x, .int i)])) : DX K H (.ref a) (.dict [(.str x, .int i)])
structure Shown (K : PySem.W.Frag) (H : Hp) (v : V) (d : PyData) : Prop where
  dx : DX K H v d
  sh : d.showable = true
  dep : d.depth ≤ 8
  sz : d.shown.length ≤ sizeLine
theorem kv_one {kvs : List (Key × V)} {vs : List (Key × Value)} {x : Str} {i : Int} (r : KV kvs vs) (e : kvs = [(Sum.inr x, V.int i)]) : ∃ t, vs = [(Sum.inr x, Value.int i t)] := by
  subst e
  cases r with
  | cons h t =>
    cases t
    rename_i b
    obtain ⟨k, u⟩ := b
    obtain ⟨h1, h2⟩ := h
    obtain ⟨t, h2⟩ := h2
    dsimp only at h1 h2
    subst h1 h2
    exact ⟨t, rfl⟩
theorem DX.reads {X : Cx} {pins : List (Addr × Obj)} {σ : L2.St} {H : Hp} {s : Shared} (I : Inv X pins σ H s) {d : PyData} {v : V} {u : Value} (h : DX X.K H v d) (r : RelV v u) :
    ∃ as, Reads s.heap u d as ∧ (d.hasDict = true → sysModules ∉ as) := by
  cases h with
  | dp h =>
    obtain ⟨as, q⟩ := Dp.reads I d v u h r
    refine ⟨as, q, fun hd => ?_⟩
    exfalso
    have no : ∀ (d : PyData) (v : V), Dp X.K H v d → d.hasDict = false := by
      intro d
      refine PyData.rec (motive_1 := fun d => ∀ v, Dp X.K H v d → d.hasDict = false) (motive_2 := fun ds => ∀ vs, DpAll X.K H vs ds → PyData.hasDictAll ds = false)
        (motive_3 := fun _ => True) (motive_4 := fun _ => True) ?_ ?_ ?_ ?_ ?_ ?_ ?_ ?_ ?_ ?_ ?_ ?_ d
      all_goals first
        | (intros; simp only [PyData.hasDict]; done)
        | (intro xs ih v h; simp only [PyData.hasDict]; cases h with | lst _ ha => exact ih _ ha)
        | (intro xs ih v h; simp only [PyData.hasDict]; cases h with | tup _ ha => exact ih _ ha)
        | (intro xs ih v h; cases h; done)
        | (intro vs h; simp only [PyData.hasDictAll]; done)
        | (intro x xs ih1 ih2 vs h; cases h with | cons h1 h2 => simp only [PyData.hasDictAll, ih1 _ h1, ih2 _ h2, Bool.or_self])
        | (intros; trivial)
    rw [no d v h] at hd
    cases hd
  | @dk a x i h =>
    cases (show u = Value.ref a from r)
    obtain ⟨_, ns, vs, rv, o, es, ep, e, ex, hd, hk, hp, _⟩ := (show ObjOk X.prog X.w H s.heap a (.dK [(Sum.inr x, .int i)]) from I.hok a _ h)
    obtain ⟨t, rfl⟩ := kv_one rv rfl
    obtain ⟨l⟩ := es
    cases hp with
    | @cons en kv tl tk h1 h2 h3 =>
      cases h3
      obtain ⟨t', ek⟩ := Value.isStrOf_shape (x := x) (v := en.key) (show Value.isStrOf x en.key = true from h1)
      have ev : en.val = Value.int i t := h2
      refine ⟨[a] ++ ([] ++ []) ++ ([] ++ []), Reads.dict (as := [] ++ []) (bs := [] ++ []) e ex.1 hd (ReadsAll.cons ?_ .nil) (ReadsAll.cons ?_ .nil), fun _ => ?_⟩
      · show Reads s.heap en.key (.str x) []
        rw [ek]; exact Reads.str x t'
      · show Reads s.heap en.val (.int i) []
        rw [ev]; exact Reads.int i t
      · intro m
        have e' : sysModules = a := by simpa using m
        rw [← e'] at ns
        exact absurd ns (by simp)
theorem call_repr {X : Cx} (hg : X.A.guards = some []) (hu : X.A.units + 64 < cLine) : CallR X (.builtin "repr") (fun xs H Q => ∃ v d, xs = [v] ∧ Shown X.K H v d ∧ Q (.str d.shown) H) := by
  intro pins s σ H xs us Q I r h
  obtain ⟨v, d, rfl, S, q⟩ := h
  obtain ⟨u, rfl, ru⟩ := vals1 r
  obtain ⟨as, R, hs⟩ := S.dx.reads I ru
  have leaf : ∀ {z : Str} {s' : Shared}, s' = { s with toks := s.toks + 1 } → Q (.str z) H → EP X pins σ Q (.str z s.toks) s' := fun {z s'} e q => by
    subst e
    exact ⟨.str z, H, I.tok _, ⟨_, rfl⟩, q⟩
  have sh := S.sh
  have sz := S.sz
  have dp := S.dep
  clear S ru r
  cases R with
  | none => exact P.repr_of_none (leaf rfl (by simpa only [PyData.shown] using q))
  | bool b => exact P.repr_of_bool (leaf rfl (by simpa only [PyData.shown] using q))
  | int i t => exact P.repr_of_int (by simpa [PyData.showable] using sh) (leaf rfl (by simpa only [PyData.shown] using q))
  | str x t => exact P.repr_of_str (leaf rfl (by simpa only [PyData.shown] using q)) (by simpa only [PyData.shown] using sz)
  | list a b c e => exact repr_of_reads' (Reads.list a b c e) sh hs hg (by omega) (fun _ _ z => z) (fun h' u tk k => ⟨.str _, H, I.kept k, ⟨_, rfl⟩, q⟩) sz
  | tuple a b c e => exact repr_of_reads' (Reads.tuple a b c e) sh hs hg (by omega) (fun _ _ z => z) (fun h' u tk k => ⟨.str _, H, I.kept k, ⟨_, rfl⟩, q⟩) sz
  | dict a b c e f => exact repr_of_reads' (Reads.dict a b c e f) sh hs hg (by omega) (fun _ _ z => z) (fun h' u tk k => ⟨.str _, H, I.kept k, ⟨_, rfl⟩, q⟩) sz
/-! ### lists of the very same things -/
def OneV (v : V) : Prop := flatB v = true ∨ ∃ c, v = .ref c
theorem one_eq {A : Around} {s : Shared} {v : V} {u u' : Value} (o : OneV v) (r : RelV v u) (r' : RelV v u') : SeqAt.EqAt A s u u' true := by
  rcases o with o | ⟨c, rfl⟩
  · exact eqAt_same r r' o
  · cases (show u = Value.ref c from r)
    cases (show u' = Value.ref c from r')
    exact SeqAt.EqAt.same _
theorem all_one {A : Around} {s : Shared} : ∀ {xs : List V} {us ws : List Value}, (∀ v ∈ xs, OneV v) → Vals xs us → Vals xs ws → ∀ j (h1 : j < us.length) (h2 : j < ws.length), SeqAt.EqAt A s us[j] ws[j] true
  | [], _, _, _, .nil, .nil, j, h1, _ => absurd h1 (Nat.not_lt_zero j)
  | x :: xs, _, _, o, .cons a b, .cons a' b', 0, _, _ => one_eq (o x List.mem_cons_self) a a'
  | x :: xs, _, _, o, .cons a b, .cons a' b', j + 1, h1, h2 => all_one (fun v hv => o v (List.mem_cons_of_mem _ hv)) b b' j (Nat.lt_of_succ_lt_succ h1) (Nat.lt_of_succ_lt_succ h2)
def rSame (K : PySem.W.Frag) (b : Bool) : R2 := fun x y H Q => ∃ p q xs, x = .ref p ∧ y = .ref q ∧ SqL K H p xs ∧ SqL K H q xs ∧ (∀ v ∈ xs, OneV v) ∧ Q (.bl b) H
theorem op_neSame {X : Cx} (hu : X.A.units < cLine) : OpR X (compareOp .NotEq) (rSame X.K false) := by
  intro pins s σ H x y v u Q I rx ry h
  obtain ⟨p, q, xs, rfl, rfl, hp, hq, ho, hQ⟩ := h
  cases (show v = Value.ref p from rx)
  cases (show u = Value.ref q from ry)
  obtain ⟨us, r1, p1, _⟩ := I.list hp
  obtain ⟨ws, r2, p2, _⟩ := I.list hq
  have hsz : us.toArray.size = ws.toArray.size := by
    rw [List.size_toArray, List.size_toArray, ← r1.length, ← r2.length]
  refine SeqAt.RcNeAt.lists (e := fun _ => true) p1.isList p2.isList hsz hu (fun j h1 h2 => ?_) _ _ _ _ ?_
  · have k := all_one (A := X.A.in1) (s := s) ho r1 r2 j (by simpa using h1) (by simpa using h2)
    simpa using k
  · rw [show ((List.range us.toArray.size).all fun _ => true) = true from List.all_eq_true.mpr fun _ _ => rfl]
    exact ⟨.bl false, H, I, rfl, hQ⟩
theorem op_eqSame {X : Cx} (hu : X.A.units < cLine) : OpR X (compareOp .Eq) (rSame X.K true) := by
  intro pins s σ H x y v u Q I rx ry h
  obtain ⟨p, q, xs, rfl, rfl, hp, hq, ho, hQ⟩ := h
  cases (show v = Value.ref p from rx)
  cases (show u = Value.ref q from ry)
  obtain ⟨us, r1, p1, _⟩ := I.list hp
  obtain ⟨ws, r2, p2, _⟩ := I.list hq
  have hsz : us.toArray.size = ws.toArray.size := by
    rw [List.size_toArray, List.size_toArray, ← r1.length, ← r2.length]
  refine SeqAt.RcAt.lists (e := fun _ => true) p1.isList p2.isList hsz hu (fun j h1 h2 => ?_) _ _ _ _ ?_
  · have k := all_one (A := X.A.in1) (s := s) ho r1 r2 j (by simpa using h1) (by simpa using h2)
    simpa using k
  · rw [show ((List.range us.toArray.size).all fun _ => true) = true from List.all_eq_true.mpr fun _ _ => rfl]
    exact ⟨.bl true, H, I, rfl, hQ⟩
end VX

set_option Elab.async false
set_option linter.all false
set_option maxRecDepth 100000
set_option maxHeartbeats 4000000
/-! exceptions as values -/
namespace VX
open PySem PySem.Spec PyProof.Rows L2
section
variable {X : Cx} {pins : List (Addr × Obj)} {σ : L2.St} {H : Hp} {s s' : Shared}
/-- the same state, the heap grown -/
theorem Inv.up (I : L2.Inv X pins σ H s) (k : ∀ b o, s.heap.get? b = some o → s'.heap.get? b = some o) (ho : s'.os = s.os) (hb : AllBare s'.gens) : L2.Inv X pins σ H s' :=
  I.call' (ch := []) ho (Un.kept k) (I.hok.kept k) hb fun b z => absurd z (by simp)
/-- the same state, the heap grown by one thing that is tracked from now on -/
theorem Inv.upA {a : Addr} {o : HO} (I : L2.Inv X pins σ H s) (k : ∀ b o, s.heap.get? b = some o → s'.heap.get? b = some o) (n : s.heap.get? a = none) (na : H a = none) (new : ObjOk X.prog X.w (upd H a o) s'.heap a o) (ho : s'.os = s.os) (hb : AllBare s'.gens) :
    L2.Inv X pins σ (upd H a o) s' :=
  I.call' (ch := []) ho (Un.laidN k n na) (I.hok.laidN k na new) hb fun b z => absurd z (by simp)
end
/-- an exception that stands at a, of the class cls, its own dict d -/
def ExD (cls : Value) (d : Option Addr) (a : Addr) : HO := .ext fun h => ∃ (oe : Obj) (vs : Array Value), h.get? a = some oe ∧ Zc cls d oe ∧ oe.data = .fields vs
theorem exD_ok {P : Program} {w : World} {H : Hp} {h : Heap} {a : Addr} {cls : Value} {d : Option Addr} {oe : Obj} {vs : Array Value} (e : h.get? a = some oe) (z : Zc cls d oe) (q : oe.data = .fields vs) : ObjOk P w H h a (ExD cls d a) :=
  ⟨⟨oe, vs, e, z, q⟩, ⟨oe, e⟩, fun _ _ ⟨o, v, p, r⟩ k => ⟨o, v, k o p, r⟩⟩
/-- C(..), the exception itself -/
theorem pe_exV {X : Cx} {e : Expr} {t : L2.St → Hp → XK → Prop} (he : PMk X e t) : PE X e (fun σ H Q => t σ H fun cls d H1 => ∀ a, H1 a = none → Q (.ref a) (upd H1 a (ExD cls d a))) := by
  refine ⟨fun pins s σ H Q I h => ?_⟩
  refine thn (he pins s σ H _ I h) fun u s1 hu => ?_
  obtain ⟨a, oe, vs, sI, H', cls, d, rfl, J, k, n, ha, hz, hd, _, na, os, ag, _, q⟩ := hu
  exact ⟨.ref a, _, Inv.upA J k n na (exD_ok ha hz hd) os ag, rfl, q a na⟩
/-- C(..).n -/
theorem pe_exGet {X : Cx} {e : Expr} {n : Str} {pos : Pos} {t : L2.St → Hp → XK → Prop} (he : PMk X e t) (hb : attributeBase e n X.env (eval e X.env) = eval e X.env := by rfl) :
    PE X (.Attribute e n pos) (fun σ H Q => t σ H fun cls d H1 => ∃ (C dd : Addr) (fs : List (Str × V)) (v : V), cls = .ref C ∧ d = some dd ∧ XfC X.K C ∧ PySem.W.findIn X.K (.ref C) n = some none ∧ H1 dd = some (.xd fs) ∧ fs.lookup n = some v ∧ Q v H1) := by
  refine ⟨fun pins s σ H Q I h => ?_⟩
  refine attr_of hb (thn (he pins s σ H _ I h) fun u s1 hu => ?_)
  obtain ⟨a, oe, vs, sI, H', cls, d, rfl, J, k, n0, ha, hz, hd, _, na, os, ag, _, C, dd, fs, v, rfl, rfl, T, hno, hx, hl, q⟩ := hu
  have J1 := Inv.up (s' := s1) J k os ag
  obtain ⟨mA, hns, hr⟩ := (show ObjOk X.prog X.w H' s1.heap dd (.xd fs) from J1.hok dd _ hx)
  obtain ⟨od, ho, hlk⟩ := lookIn_ns hns
  obtain ⟨u, hu, ru⟩ := RelO.some_of (v := v) (o := mA n) (by rw [← hl]; exact hr n)
  have it : PySem.W.InstAt s1.heap a oe C (some od) := ⟨ha, hz.1, by unfold PySem.W.notCls; rw [hd] <;> rfl, by rw [hz.2]; exact ho⟩
  exact HandSPX.exc_get J1.kIn it T.ga T.gg T.exC (PySem.W.findObj_own T.hdC hno rfl (by rw [hlk, hu])) (handed_of ru) ⟨v, H', J1.tok _, ru, q⟩
end VX

set_option Elab.async false
set_option linter.all false
set_option maxRecDepth 100000
set_option maxHeartbeats 4000000
/-! isinstance of an exception that may have its own dict -/
namespace VX
open PySem PySem.Spec PySem.Calls PyProof.Rows PySem.W
section
variable {pg : Program} {wd : World} {B : Around} {Er : Value → Shared → Prop} {st : Shared} {F : Frag} {y D : Addr} {oy : Obj} {od : Option Obj}
theorem bindsAt {C : Addr} {nm : Str} {a g : Value} (hc : (clsIn F C).isSome = true) (h1 : findIn F (.ref C) nm = some (some a)) (h2 : specialIn F a "__get__" = some (some g)) (h3 : takesIn F a = some true) : findObj F C od nm = some (.bind g a) := by
  cases e : clsIn F C with
  | none => rw [e] at hc; cases hc
  | some cd => simp [findObj, e, h1, h2, h3]
structure ExIs (F : Frag) (D : Addr) : Prop where
  xc : L2.ExcC F D
theorem clsSome (h : hasDictIn F D = true) : (clsIn F D).isSome = true := by
  obtain ⟨cd, hc, _⟩ := any_some h
  rw [hc]; rfl
theorem class_of_exc {Q : Option Value → Shared → Prop} (T : L2.ExcC F D) (X : F.In st.heap) (I : InstAt st.heap y oy D od) (h : Q (some (.ref D)) { st with toks := st.toks + 1 }) : wpAny (model pg wd) B (getAttr? (.ref y) "__class__") Q Er st := by
  have fb : findObj F D od "__class__" = some (.bind (.builtin "getset_descriptor.__get__") (.builtin "object.__class__")) := bindsAt (clsSome T.hd) T.ha T.hn T.ht
  obtain ⟨hp, gs, dr, tk, os⟩ := st
  have a0 := I.type (M := model pg wd)
  have a1 := looks_findIn (M := model pg wd) X T.hg
  have a2 := looks_findIn (M := model pg wd) X T.hk
  have a3 := looks_find (M := model pg wd) X I fb
  have sb : Looks (model pg wd) hp (isInstance (.ref y) (.type "BaseException")) true := a0.andThen (looks_subIn X T.hs)
  have ne : (Value.builtin "BaseException.__getattribute__" == Value.builtin "object.__getattribute__") = false := by decide +kernel
  have nf : (onTheHeap (Value.ref D) && Value.builtin "BaseException.__getattribute__" == Value.builtin "object.__getattribute__") = false := by rw [ne]; rfl
  unfold getAttr? getAttrBy? getAttrBy
  refine wpAny_bind (wpAny_mkText (wpAny_bind (wpAny_attempt (wpAny_holding (wpAny_bind (a0.at (wpAny_bind (a1.at ?z1))))))))
  case z1 =>
    show wpAny _ _ (if (onTheHeap (Value.ref D) && Value.builtin "BaseException.__getattribute__" == Value.builtin "object.__getattribute__") = true then _ else _) _ _ _
    rw [nf, if_neg Bool.false_ne_true]; unfold getAttrByItsOwn hookBefore
    refine wpAny_bind ?z2
    case z2 =>
      rw [if_pos (show onTheHeap (Value.ref D) = true from rfl)]; refine a2.at (wpAny_bind (wpAny_attempt (wpAny_holding ?z3)))
      case z3 =>
        unfold callGetattribute; rw [show (false && onTheHeap (Value.builtin "BaseException.__getattribute__")) = false from rfl, if_neg Bool.false_ne_true]
        unfold boundAndCalled; rw [PySem.F.excAttr_ValueError.ga.bind (.ref y)]
        refine wpAny_bind (wpAny_pure ?z4)
        case z4 =>
          show wpAny _ _ (call (.builtin "BaseException.__getattribute__") [.ref y, .str "__class__" tk]) _ _ _
          refine wpAny_call (codeAny_call_builtin PySem.F.excAttr_ValueError.ga.plain PySem.F.entry_bexc_ga ?z5)
          case z5 =>
            refine @check_slot (model pg wd) _ _ ⟨hp, gs, dr, tk + 1, os⟩ "BaseException.__getattribute__" "BaseException" "__getattribute__" (.ref y) [.str "__class__" tk] [] _ (by decide +kernel) (by decide +kernel) sb (PySem.F.args_bexc_ga (.ref y) (.str "__class__" tk)) ?z6
            case z6 =>
              unfold Builtin.«object.__getattribute__»
              refine wpAny_bind (wpAny_of_eq (a := ((Value.ref y : Value), [Value.str "__class__" tk])) (by first | rfl | (simp only [slotArgs]; rfl)) (wpAny_bind (wpAny_pure (wpAny_bind (a0.at (wpAny_bind (a3.at ?z7)))))))
              case z7 =>
                show wpAny _ _ (holding [Value.builtin "object.__class__"] (call (.builtin "getset_descriptor.__get__") [.builtin "object.__class__", .ref y, .ref D]) >>= ret) _ _ _
                refine wpAny_bind (wpAny_holding (wpAny_call (class_get (s := ⟨hp, gs, dr, tk + 1, os⟩) (ox := oy) (od := od) X I T.hm (wpAny_pure ?z8))))
                case z8 =>
                  show wpAny _ _ (handedOut (.ref D)) _ _ _
                  rw [handedOut_of (v := .ref D) rfl]
                  first | exact wpAny_pure (wpAny_pure h) | exact wpAny_pure h | exact wpAny_pure (wpAny_bind (wpAny_pure (wpAny_pure h)))
theorem kitx_exd (T : L2.ExcC F D) : KitX F (.ref y) (.ref D) (fun h => ∃ oy od, InstAt h y oy D od) where
  ty := fun _ _ _ ⟨_, _, I⟩ => I.type
  it := fun M h X _ A Q E s k q => by
    have z := clsSome T.hd
    unfold clsIn at z
    split at z
    · rename_i hk
      unfold isType loadHead
      exact wpAny_bind (wpAny_loadPart (k _ _ (X _ _ hk)) (wpAny_pure q))
    · cases z
  ne := fun h tp dd its n sl X htp => by
    cases e : (Value.ref D == Value.ref tp) with
    | false => rfl
    | true =>
      have e2 : D = tp := Value.ref.inj (beq_iff_eq.mp e)
      subst e2
      have z := clsSome T.hd
      unfold clsIn at z
      split at z
      · rename_i hk
        exact nomatch (X _ _ hk).symm.trans htp
      · cases z
  ca := fun X ⟨_, _, I⟩ q => class_of_exc T X I q
end
end VX
namespace VX
open PySem PySem.Spec PyProof.Rows L2
/-- isinstance(e, c) of such an exception -/
def rIsX (K : PySem.W.Frag) : List V → Hp → VK → Prop := fun xs H Q => ∃ (a D : Addr) (d : Option Addr) (c : V) (cv : Value) (b : Bool), xs = [.ref a, c] ∧ ExcC K D ∧ H a = some (ExD (.ref D) d a) ∧ (∀ dd, d = some dd → ∃ o, H dd = some o) ∧ ClsV c cv ∧ PySem.W.kitOne K (.ref D) cv = some b ∧ Q (.bl b) H
theorem call_isX {X : Cx} : CallR X (.builtin "isinstance") (rIsX X.K) := by
  intro pins s σ H xs us Q I r h
  obtain ⟨a, D, d, c, cv, b, rfl, T, ha, hd, hc, e, q⟩ := h
  obtain ⟨u1, u2, rfl, r1, r2⟩ := vals2 r
  have e2 := hc.eq r2
  subst e2
  cases (show u1 = Value.ref a from r1)
  have ok : ObjOk X.prog X.w H s.heap a (.ext fun h => ∃ (oe : Obj) (vs : Array Value), h.get? a = some oe ∧ Zc (.ref D) d oe ∧ oe.data = .fields vs) := I.hok a _ ha
  obtain ⟨⟨oe, vs, ho, hz, hf⟩, _, _⟩ := ok
  have J : ∃ od, PySem.W.InstAt s.heap a oe D od := by
    have nc : PySem.W.notCls oe = true := by unfold PySem.W.notCls; rw [hf] <;> rfl
    cases d with
    | none => exact ⟨none, ho, hz.1, nc, by rw [hz.2]; trivial⟩
    | some dd =>
      obtain ⟨o, hdd⟩ := hd dd rfl
      obtain ⟨ob, hob⟩ := objOk_get (I.hok dd o hdd)
      exact ⟨some ob, ho, hz.1, nc, by rw [hz.2]; exact hob⟩
  obtain ⟨od, J⟩ := J
  exact PySem.W.kia_one (kitx_exd T) I.kIn ⟨oe, od, J⟩ e (fun z => nomatch z) fun tk => ⟨.bl b, H, I.tok tk, rfl, q⟩
end VX

set_option Elab.async false
set_option linter.all false
set_option maxRecDepth 100000
set_option maxHeartbeats 4000000
/-! C(f = v), C an exception's class with its own __init__ -/
namespace VX
open PySem PySem.Calls PySem.HandSPX
section
variable {M : Model} {pg : Program} {wd : World} {B : Around} {Er : Value → Shared → Prop} {R : Result → Shared → Prop} {hh : Heap} {gs : Array GenState} {dr : Drawn} {tk : Nat} {os : OsState}
variable {nm q : Str} {C N : Addr} {bs bm bB : List Value} {hd : Bool} {sn : List Str} {sub : List Value} {ab : Bool} {col : Option Bool} {dd : Option Addr} {m0 m1 m2 m3 m5 : Option Value} {T nid iid : String} {kw : List (Str × Value)}
theorem chkNewK (F : ExcBaseFacts T nid iid bB) (hT : ∀ Y : String, bm.contains (.type Y) = bB.contains (.type Y)) {Q : Unit → Shared → Prop} (hC : hh.get? C = some (excClassObj nm q C N bs bm hd sn sub ab col dd m0 m1 m2 m3 m5 nid)) (hq : Q () ⟨hh, gs, dr, tk, os⟩) :
    wpAny M B (checkBuiltinCall nid ⟨[.ref C], kw⟩) Q Er ⟨hh, gs, dr, tk, os⟩ := by
  have hc : (Value.ref C :: bm).contains (.type T) = true := by rw [List.contains_cons, hT, F.hasB, Bool.or_true]
  have hs := F.noStar
  simp only [checkBuiltinCall, F.newKind, F.newSplit, F.newRow]
  repeat (first | refine wpAny_loadPart_at hC ?_ | (refine wpAny_isSubtype_exc hC ?_; rw [hc]) | refine wpAny_staticBase_exc hC ?_ | refine wpAny_madeBy_exc hC ?_ | simp only [bne_self_eq_false, Bool.false_eq_true, if_false] | wp_step)
  exact hq
end
section
variable {pg : Program} {wd : World} {B : Around} {Er : Value → Shared → Prop} {R : Result → Shared → Prop} {hh : Heap} {gs : Array GenState} {dr : Drawn} {tk : Nat} {os : OsState}
variable {nm q : Str} {C N : Addr} {bs bm bB : List Value} {hd : Bool} {sn : List Str} {sub : List Value} {ab : Bool} {col : Option Bool} {dd : Option Addr} {m0 m1 m2 m3 m5 : Option Value} {T nid iid : String} {kw : List (Str × Value)}
/-- the heap behind C.__new__(C, f = v) -/
abbrev born (hh : Heap) (C : Addr) : Heap := (hh.push (W.kdv_tup [])).push (excO C hh.objs.size)
theorem newK (F : ExcBaseFacts T nid iid bB) (hT : ∀ Y : String, bm.contains (.type Y) = bB.contains (.type Y)) (hC : hh.get? C = some (excClassObj nm q C N bs bm hd sn sub ab col dd m0 m1 m2 m3 m5 nid))
    (hq : R (.ok (.ret (.ref (hh.objs.size + 1)))) ⟨born hh C, gs, dr, tk, os⟩) : codeAny (model pg wd) B (.builtin nid ⟨[.ref C], kw⟩) R ⟨hh, gs, dr, tk, os⟩ := by
  have he := F.ends
  have cB : (Value.ref C :: bm).contains (.type T) = true := by rw [List.contains_cons, hT, F.hasB, Bool.or_true]
  have cA : (Value.ref C :: bm).contains (.type "AttributeError") = false := by rw [List.contains_cons, hT, F.noAttr]; rfl
  have cN : (Value.ref C :: bm).contains (.type "NameError") = false := by rw [List.contains_cons, hT, F.noName]; rfl
  refine codeAny_builtinAt F.entry ?_
  unfold Builtin.«BaseException.__new__»
  refine wpAt_bind ?_
  show wpAt _ _ _ (stack >>= _) _ _ _
  refine wpAt_bind (wpAt_stack fun p below => wpAt_of_wpAny ?_)
  wp_walk
  refine wpAt_of_wpAny ?_
  rw [F.owner]
  repeat (first | with_reducible refine wpAny_madeHere_exc F.canon hC ?_ | with_reducible refine wpAny_loadPart_at hC ?_ | (with_reducible refine wpAny_isSubtype_exc hC ?_; first | rw [cB] | rw [cA] | rw [cN]) | wp_step)
  show R _ _
  rw [Heap.size_push]
  exact hq
theorem typeCallK (F : ExcBaseFacts T nid iid bB) (hT : ∀ Y : String, bm.contains (.type Y) = bB.contains (.type Y)) {fI : Addr} {Q : Fin → Shared → Prop} (hC : hh.get? C = some (excClassObj nm q C N bs bm hd sn sub ab col dd m0 m1 m2 m3 m5 nid))
    (hi : W.Looks (model pg wd) hh (typeLookup (.ref C) "__init__") (some (.ref fI))) (hb : ∀ o, W.Looks (model pg wd) hh (bindSpecial (.ref fI) o) (.ref fI, [o]))
    (hq : codeAny (model pg wd) B (.call (.ref fI) ⟨[.ref (hh.objs.size + 1)], kw⟩) (fun r s' => match r with | .ok (.ret v) => v = .none ∧ Q (.done (.ret (.ref (hh.objs.size + 1)))) s' | .ok _ => False | .error e => Er e s') ⟨born hh C, gs, dr, tk, os⟩) :
    wpAny (model pg wd) B (Builtin.«type.__call__» ⟨[.ref C], kw⟩) Q Er ⟨hh, gs, dr, tk, os⟩ := by
  repeat (first | with_reducible refine wpAny_loadPart_at hC ?_ | with_reducible refine wpAny_madeBy_exc hC ?_ | wp_step)
  refine codeAny_call_builtin_code (Code.quiet_builtin _ F.quiet) (chkNewK F hT hC (newK F hT hC ?_))
  show wpAny _ _ _ _ _ _
  have k : ∀ b o, hh.get? b = some o → (born hh C).get? b = some o := fun b o e => Heap.get?_push_of_some _ (Heap.get?_push_of_some _ e)
  have hC1 := k _ _ hC
  have hg : (born hh C).get? (hh.objs.size + 1) = some (excO C hh.objs.size) := by heap_get
  have cC : (Value.ref C :: bm).contains (.ref C) = true := by simp
  have i1 := hi.keeps k
  have b1 := (hb (.ref (hh.objs.size + 1))).keeps k
  unfold isInstance
  repeat (first | with_reducible refine wpAny_loadPart_at hg ?_ | (with_reducible refine wpAny_isSubtype_exc hC1 ?_; rw [cC]) | wp_step)
  show wpAny _ _ (typeLookup (.ref C) _) _ _ _
  refine i1.at ?_
  refine wpAny_holding (wpAny_bind (b1.at (wpAny_bind (wpAny_call (codeAny_mono hq fun r s' z => ?_)))))
  rcases r with e | (v | _ | _ | _) <;> first | exact z | exact z.elim | skip
  obtain ⟨rfl, z⟩ := z
  first
    | exact wpAny_pure (wpAny_pure z)
    | (wp_walk; exact z)
theorem callK (F : ExcBaseFacts T nid iid bB) (hT : ∀ Y : String, bm.contains (.type Y) = bB.contains (.type Y)) {fI : Addr} (hC : hh.get? C = some (excClassObj nm q C N bs bm hd sn sub ab col dd m0 m1 m2 m3 m5 nid))
    (hi : W.Looks (model pg wd) hh (typeLookup (.ref C) "__init__") (some (.ref fI))) (hb : ∀ o, W.Looks (model pg wd) hh (bindSpecial (.ref fI) o) (.ref fI, [o]))
    (hq : codeAny (model pg wd) (B.under (.builtin "type.__call__" ⟨[.ref C], kw⟩)) (.call (.ref fI) ⟨[.ref (hh.objs.size + 1)], kw⟩) (W.InitBack (hh.objs.size + 1) R) ⟨born hh C, gs, dr, tk, os⟩) :
    codeAny (model pg wd) B (.call (.ref C) ⟨[], kw⟩) R ⟨hh, gs, dr, tk, os⟩ := by
  have f1 := tc_lookup
  have f2 := tc_bind (.ref C)
  have tT : (⟨hh, gs, dr, tk, os⟩ : Shared).TypeIs (.ref C) "type" := ⟨_, hC, rfl⟩
  have ck : wpAny (model pg wd) B.in1 (checkBuiltinCall "type.__call__" ⟨[.ref C], kw⟩) (fun _ s => s = ⟨hh, gs, dr, tk, os⟩) (fun _ _ => False) ⟨hh, gs, dr, tk, os⟩ := by
    have f3 := tc_sub
    simp only [checkBuiltinCall, tc_kind, tc_split]
    repeat (any_goals (first | assumption | rfl | with_reducible refine wpAny_loadPart_at hC ?_ | with_reducible refine wpAny_onRaise ?_ | with_reducible refine wpAny_map ?_ | wp_step))
  refine codeAny_of_tree ?_
  show wpAny _ _ (callAny (.ref C) _) _ _ _
  repeat (any_goals (first | assumption | with_reducible refine wpAny_loadPart_at hC ?_ | wp_step))
  refine ⟨rfl, codeAny_call_builtin_at (Code.quiet_builtin _ (by decide +kernel)) entry_typeCall (wpAny_mono ck (fun _ s' e => ?_) fun _ _ z => False.elim z)⟩
  subst e
  refine typeCallK F hT hC hi hb (codeAny_mono hq fun r s' z => ?_)
  rcases r with e | (v | _ | _ | _) <;> exact z
end
end VX
namespace VX
open PySem PySem.Spec PyProof.Rows L2
/-- C(f = v), C's own __init__ keeping sp -/
def tMkK (C : Addr) (sp : Sp) (ta : TA) : L2.St → Hp → XK → Prop := fun σ H Q => ta σ H fun zs H1 => zs.length = 1 ∧ ∀ a, H1 a = none → sp (.ref a :: zs) (upd H1 a (exo a C none))
  (fun v H2 => v = .non ∧ ∃ (d : Addr) (fs : List (Str × V)), H2 a = some (exo a C (some d)) ∧ H2 d = some (exd d fs) ∧ H1 d = none ∧ Q (.ref C) (some d) (upd (del H2 a) d (.xd fs))) (fun _ _ _ => False)
theorem pmk_oexK {X : Cx} {CX : CXT} {x f : Str} {C fI : Addr} {k : Nat} {fd : FuncData} {sp : Sp} {p kpos pos : Pos} {e : Expr} {ta : TA} (T : OexC X.K C) (iC : PySem.W.findIn X.K (.ref C) "__init__" = some (some (.ref fI))) (tI : PySem.W.typeIn X.K (.ref fI) = some (.type "function"))
    (F1 : FnOk X.prog X.w X.K X.mg X.base CX k fI fd ["self", f] sp) (hr : Room (k + 1) X.A) (hb : ∀ (s : Shared) (u v : Value), X.K.In s.heap → BindsTo s fd ⟨[u], [(f, v)]⟩ [("self", u), (f, v)]) (hx : Passes CX X (fun _ _ _ => False)) (hg : Gl X x) (hm : X.mg x = some (.ref C))
    (ha : PK X [⟨some f, e, kpos⟩] ta) (hdb : (x == ("__debug__" : Str)) = false := by decide) (hpl : ((backTo pos (starEach [] X.env)).any (·.1) || (backToKw pos (keywordEach [⟨some f, e, kpos⟩] X.env)).any (·.1.isNone)) = false := by rfl)
    (hall : (backToKw pos (keywordEach [⟨some f, e, kpos⟩] X.env)).all (·.1.isSome) = true := by rfl) (hks : (backToKw pos (keywordEach [⟨some f, e, kpos⟩] X.env)).filterMap (·.1) = [f] := by rfl) :
    PMk X (.Call (.Name x p) [] [⟨some f, e, kpos⟩] pos) (tMkK C sp ta) := by
  intro pins s σ H Q I h
  obtain ⟨nm, q, N, bs, bm, sn, sub, ab, col, dd, k0, k1, k2, k3, k5, hC, hbm⟩ := T.cls
  refine wpAny_Call_Name_kw (ld_glob I hg hm ?_ hdb)
  refine PySem.W.callWith_KW0 (h₀ := X.base) I.ok.mod.kin T.kC hall ?_ hpl
  refine thn (ha.run pos pins s σ H _ I h) fun ws s1 ⟨zs, H1, I1, rz, l1, q1⟩ => ⟨I1.kIn, ?_⟩
  rw [hks]
  obtain ⟨z, rfl⟩ : ∃ z, zs = [z] := by
    cases zs with
    | nil => cases l1
    | cons z r =>
      cases r with
      | nil => exact ⟨z, rfl⟩
      | cons _ _ => cases l1
  obtain ⟨u, rfl, ru⟩ := vals1 rz
  show wpAny _ _ (call (.ref C) [] [(f, u)]) _ _ _
  obtain ⟨hp, g, dr, tk, os⟩ := s1
  have hsz : hp.objs.size ≤ hp.objs.size + 1 := Nat.le_succ _
  have hn : H1 (hp.objs.size + 1) = none := I1.hok.fresh hsz
  have hq := q1 (hp.objs.size + 1) hn
  have kk : ∀ b o, hp.get? b = some o → (born hp C).get? b = some o := fun b o e => Heap.get?_push_of_some _ (Heap.get?_push_of_some _ e)
  have hget : (born hp C).get? (hp.objs.size + 1) = some (PySem.HandSPX.excO C hp.objs.size) := by heap_get
  have I2 : L2.Inv X pins σ (upd H1 (hp.objs.size + 1) (exo (hp.objs.size + 1) C none)) ⟨born hp C, g, dr, tk, os⟩ :=
    I1.laid (t' := tk) (a := hp.objs.size + 1) (o := exo (hp.objs.size + 1) C none) (h' := born hp C) kk hsz (exo_ok hget)
  have r2 : Vals [V.ref (hp.objs.size + 1), z] [Value.ref (hp.objs.size + 1), u] := .cons rfl (.cons ru .nil)
  have e1 : Env0 X.prog X.w X.K X.mg X.base (X.A.under (.builtin "type.__call__" ⟨[.ref C], [(f, u)]⟩)) X.stack ⟨born hp C, g, dr, tk, os⟩ (upd H1 (hp.objs.size + 1) (exo (hp.objs.size + 1) C none)) := I2.env0.make C [] [(f, u)]
  refine wpAny_call (callK PySem.F.excBase_ValueError (fun Y => PySem.HandSPX.refsVE_contains Y bm hbm) (I1.kIn _ _ hC) (PySem.W.looks_findIn I1.kIn iC) (fun o => PySem.W.bind_fn I1.kIn o tI)
    (codeAny_mono (F1.run _ X.stack _ _ ⟨[Value.ref (hp.objs.size + 1)], [(f, u)]⟩ [Value.ref (hp.objs.size + 1), u] _ _ (fun _ _ _ => False) (hr.make C [] [(f, u)]) e1 (hb _ _ _ I2.kIn) r2 hq) fun r s' hq' => ?_))
  cases r with
  | error er => exact hx pins σ _ _ er s' I2 hq'
  | ok fl =>
    cases fl with
    | ret u =>
      obtain ⟨v, H2, os2, bare2, un2, hok2, rv, ev, d, fs, ea, ed, hd1, q2⟩ := hq'
      subst ev
      obtain ⟨h2, g2, d2, t2, os'⟩ := s'
      exact ⟨rv, mk_end (raises_own T.exC T.tyC) I1 hsz kk un2 hok2 os2 bare2 ea ed hd1 q2⟩
    | next => exact False.elim hq'
    | brk => exact False.elim hq'
    | cont => exact False.elim hq'
/-- C(), C an exception's class without an __init__ of its own -/
theorem pmk_own0 {X : Cx} {C : Addr} {bmB : List Value} {B newId initId : String} {x : Str} {p pos : Pos} (F : ExcBaseFacts B newId initId bmB) (q : PySem.W.excIn X.K C bmB newId = true) (gC : X.mg x = some (.ref C)) (kC : PySem.W.keepIn X.K (.ref C) = true) (r : Raises X (.ref C)) (hg : Gl X x)
    (hdb : (x == ("__debug__" : Str)) = false := by decide) : PMk X (.Call (.Name x p) [] [] pos) (fun _ H Q => Q (.ref C) none H) := by
  intro pins s σ H Q I h
  refine wpAny_Call_Name_kw (ld_glob I hg gC ?_ hdb)
  refine PySem.W.callWith_K0 I.kIn kC ?_
  show wpAny _ _ (call (.ref C) []) _ _ _
  obtain ⟨bm, N, nm, qn, bs, hdct, sn, sub, ab, col, dd, k0, k1, k2, k3, k5, mN, hC, hN, hni, T⟩ := exc_obj I.kIn q
  refine wpAny_call_exc_subT F T hC hN hni (fun h' e hm => ?_) (by show 0 ≤ sizeLine; omega)
  exact mk_of I hm r h (I.hok.gone hm.new)
end VX

set_option Elab.async false
set_option linter.all false
set_option maxRecDepth 100000
set_option maxHeartbeats 4000000
/-! defs that are called where no repr runs -/
namespace VX
open PySem PySem.Spec PyProof.Rows L2
/-- a def's promise, kept wherever no repr runs around the call -/
structure GFn (P : Program) (w : World) (K : PySem.W.Frag) (mg : Str → Option Value) (base : Heap) (k : Nat) (f : Addr) (fd : FuncData) (ps : List Str) (sp : Sp) : Prop where
  len : ∀ {vs H Q E}, sp vs H Q E → vs.length = ps.length
  go : ∀ {A : Around}, A.guards = some [] → Room k A → ∀ {outer : List Env} {s : Shared} {H : Hp}, Env0 P w K mg base A outer s H → ∀ {args : Args} {us : List Value} {vs : List V} {Q : VK} {E : XK}, BindsTo s fd args (ps.zip us) → Vals vs us → sp vs H Q E →
    codeAny (model P w) A (.call (.ref f) args) (CR CX0 outer P w H s Q E) s
section
variable {P : Program} {w : World} {K : PySem.W.Frag} {mg : Str → Option Value} {base : Heap} {x qual : Str} {pa : Arguments} {bd : List Stmt} {sc : Scope} {f : Addr} {fd : FuncData} {N ps : List Str} {k : Nat} {sp : Sp}
/-- the rule for such a def: the guards told -/
theorem GFn.of (F : FunD K x qual pa bd sc [] [] f fd) (S : FnScope N ps sc) (len : ∀ {vs H Q E}, sp vs H Q E → vs.length = ps.length)
    (body : ∀ (cdv : Value) (A : Around) (outer : List Env) (s : Shared) (H : Hp) (vs : List V) (Q : VK) (E : XK), A.guards = some [] → Room k (A.deeper (envOfC qual sc s.heap.objs.size f cdv)) → sp vs H Q E →
      ∃ t, PSs (cxOf CX0 P w K mg base N qual sc f cdv A outer s H E).nox bd t ∧ t { nx := fun _ H' => Q .non H', rt := Q } (start N vs) H) : GFn P w K mg base (k + 1) f fd ps sp := by
  obtain ⟨oc, od, dV, kV, doc, pm, an, cdv, ct, osl, rfl, lk, hcd, _, _⟩ := F.ex
  refine ⟨len, fun {A} hg hr {outer s H} e0 {args us vs Q E} hb r q => ?_⟩
  have KX : K.In s.heap := e0.mod.kin.keeps fun b o e => (e0.bs b o e).1
  have nl : s.heap.NoLimit := e0.mod.nolimit.keeps fun b o e => (e0.bs b o e).1
  have kinds : ∀ y ∈ ps.zip us, sc.names.lookup y.1 = some .local ∨ (sc.names.lookup y.1 = some .cell ∧ ((cellsFrom (s.heap.objs.size + 1) sc.names []).lookup y.1).isSome = true) := by
    rintro ⟨n, v⟩ hy
    have hn := S.par n (List.of_mem_zip hy).1
    exact hn.elim .inl fun z => .inr ⟨z, PySem.W.cellsFrom_some _ _ _ (.inl z)⟩
  refine codeAny_call_function hr.depth (KX _ _ lk) rfl S.co S.gen rfl (PySem.W.codeRec_of KX hcd) (hb _ _ _ _ (wpAny_newFunctionEnv_cells S.kind kinds ?_))
  rintro env rfl s1 ic
  refine ⟨nl.keeps ic.toInCall.keep, codeAny_func ?_⟩
  obtain ⟨t, ht, tq⟩ := body cdv A outer s H vs Q E hg (hr.deeper _) q
  have I : L2.Inv (cxOf CX0 P w K mg base N qual sc f cdv A outer s H E) [] (start N vs) H s1 := inv_start S hr.hd e0 (len q) r ic
  have back : ∀ {σ' : L2.St} {H' : Hp} {s' : Shared} {v : V} {u : Value}, L2.Inv (cxOf CX0 P w K mg base N qual sc f cdv A outer s H E) [] σ' H' s' → RelV v u → Q v H' → CE outer P w H s Q u s' :=
    fun J rv z => ⟨_, _, J.os, J.bare, J.base, J.hok, rv, z⟩
  refine wpAny_mono (ht.nox.run [] s1 (start N vs) H _ I tq) (fun fl s' h => ?_) fun _ _ h => h
  cases fl with
  | next => obtain ⟨_, _, J, z⟩ := h; exact back (v := V.non) (u := Value.none) J rfl z
  | ret u => obtain ⟨_, _, _, J, rv, z⟩ := h; exact back J rv z
  | brk => obtain ⟨_, _, _, z⟩ := h; exact z.elim
  | cont => obtain ⟨_, _, _, z⟩ := h; exact z.elim
end
section
variable {X : Cx} {k : Nat} {f : Addr} {fd : FuncData} {ps : List Str} {sp : Sp} {x : Str} {p pos : Pos} {e : Expr} {es : List Expr} {t : TA}
/-- f(e, ..) of such a def, where no repr runs -/
theorem pe_gcall (F : GFn X.prog X.w X.K X.mg X.base k f fd ps sp) (hg0 : X.A.guards = some []) (hr : Room k X.A) (hg : Gl X x) (hm : X.mg x = some (.ref f)) (hk : PySem.W.keepIn X.K (.ref f) = true) (hb : Binds X.K fd ps []) (ha : PA X (e :: es) t)
    (hdb : (x == ("__debug__" : Str)) = false := by decide) (he : starEach (e :: es) X.env = (false, eval e X.env) :: starEach es X.env := by rfl) (hpl : (backTo pos (starEach es X.env)).any (·.1) = false := by rfl) :
    PE X (.Call (.Name x p) (e :: es) [] pos) (tCall sp [] E0 t) := by
  refine ⟨fun pins s σ H Q I h => wpAny_Call_Name_kw (ld_glob I hg hm ?_ hdb)⟩
  refine PySem.W.callWith_K (h₀ := X.base) I.ok.mod.kin hk (thn (ha.run pos pins s σ H _ I h) fun us s1 ⟨vs, H1, I1, r, q⟩ => ⟨I1.kIn, ?_⟩) he hpl
  have q : sp vs H1 Q E0 := by have z : sp (vs ++ []) H1 Q E0 := q; rw [List.append_nil] at z; exact z
  have hl : us.length = ps.length := by rw [← r.length]; exact F.len q
  have b := hb s1 us I1.kIn (by rw [List.append_nil]; exact hl)
  rw [List.append_nil] at b
  refine wpAny_call (codeAny_mono (F.go hg0 hr I1.env0 b r q) fun r s' hq => ?_)
  match r, hq with
  | .ok (.ret u), hq => exact I1.after hq
  | .error _, hq => exact hq.elim
end
/-- the call's base: the heap without the script -/
theorem base_of {P : Program} {w : World} {K : PySem.W.Frag} {mg mb : Str → Option Value} {s : Shared} {H : Hp} {a : Addr} {vs : Array Value} (KX : K.In s.heap) (g1 : s.heap.Ns mainGlobals mg) (g2 : s.heap.Ns builtinsNs mb) (g3 : ∀ x : Str, x ≠ "__name__" → mb x = bootBuiltins x)
    (g4 : s.heap.NoLimit) (g5 : s.gens = #[]) (ha : s.heap.get? a = some { cls := .type "list", data := .seq vs }) (ok : HOk P w H s.heap) (only : ∀ b, b ≠ a → H b = none) (hK : H a ≠ none → K.lookup a = none) : Env0 P w K mg (hidT s.heap H) callerA [] s H := by
  have dk : ∀ {b : Addr} {o : Obj} {es : Array DictEntry} {ep : Nat}, s.heap.get? b = some o → o.data = .dict es ep → H b = none := by
    intro b o es ep e d
    by_cases hb : b = a
    · rw [hb, ha] at e
      rw [← Option.some.inj e] at d
      cases d
    · exact only b hb
  have ns : ∀ {b : Addr} {m : Str → Option Value}, s.heap.Ns b m → (hidT s.heap H).Ns b m := by
    rintro b m ⟨o, es, ep, e, d, r⟩
    exact ⟨o, es, ep, hidT_get e (dk e d), d, r⟩
  have kin : K.In (hidT s.heap H) := by
    intro b o e
    refine hidT_get (KX b o e) ?_
    by_cases hb : b = a
    · subst hb
      cases z : H b with
      | none => rfl
      | some u => rw [hK (by rw [z]; exact fun n => nomatch n)] at e; cases e
    · exact only b hb
  obtain ⟨mc, l1, l2⟩ := g4
  exact { frames := rfl, mod := { kin := kin, glob := ns g1, blt := ⟨mb, ns g2, g3⟩, nolimit := ⟨mc, ns l1, l2⟩ }, bs := fun b o e => of_hidT e, bsz := Nat.le_of_eq (hidT_size _ _), funs := trivial, frf := fun b hb => (nomatch hb), hok := ok, bare := .of_eq g5 }
/-- the law's own end, its def's promise kept where no repr runs -/
theorem walk_g {l : PySem.W.OpenLaw} {n k : Nat} {q : Program} {loose : List Str} {XP : (Str → Option Value) → Heap → Prop} {YP : World → Heap → Prop} {d : DefRec} {x : Str}
    (hn : l.most = some n) (hn2 : n ≤ sizeLine) (hdf : d.params.defaults = []) (hr : Room k callerA)
    (F : ∀ (w : World) (mg : Str → Option Value) (fa : Addr) (h : Heap), YP w h → h.Ns mainGlobals mg → mg d.name = some (.ref fa) →
      ∃ (K : PySem.W.Frag) (fd : FuncData) (sp : Sp), K.In h ∧ (∀ (s : Shared) (u : Value), BindsTo s fd ⟨[u], []⟩ [(x, u)]) ∧
        (∀ (H : Hp) (a : Addr) (ns : List Int), ns.length ≤ n → Only H → SqL K H a (ns.map V.int) → sp [.ref a] H (fun v _ => v = .bl true) fun _ _ _ => False) ∧
        ∀ base : Heap, K.In base → base.Ns mainGlobals mg → GFn l.prog w K mg base k fa fd [x] sp) :
    PySem.W.WalkO q loose XP YP l.row.toRowW d [] (fun f vs => PySem.call f vs) := by
  refine Att.attach_call hn hdf fun w s₀ s₁ mg mb fa o pm cd doc a vs ns G Y ho hd hcd hmg hobj hints hlen hg => ?_
  obtain ⟨K, fd, sp, KX, hb, hsp, hF⟩ := F w mg fa _ Y G.T.g hmg
  have rv := vals_ints hints
  have lv := hints.length
  have core : ∀ H : Hp, Only H → SqL K H a (ns.map V.int) → HOk l.prog w H s₁.heap → (∀ b, b ≠ a → H b = none) → (H a ≠ none → K.lookup a = none) →
      codeAny (model l.prog w) callerA (.call (.ref fa) ⟨[.ref a], []⟩) (fun r s' => r = .ok (.ret (.bool true)) ∧ OldK s₁.heap s'.heap ∧ s'.os = s₁.os ∧ AllBare s'.gens) s₁ := by
    intro H oH sH ok on hK
    have e0 := base_of (P := l.prog) (w := w) (mg := mg) KX G.T.g G.T.b G.T.builtins G.T.nolimit hg hobj ok on hK
    refine codeAny_mono ((hF _ e0.mod.kin e0.mod.glob).go (A := callerA) rfl hr e0 (us := [.ref a]) (vs := [V.ref a]) (hb s₁ (.ref a)) (.cons rfl .nil) (hsp H a ns hlen oH sH)) fun r s' h => ?_
    match r, h with
    | .error _, h => exact h.elim
    | .ok (.ret u), h =>
      obtain ⟨v, H', os, bare, un, ok', rr, rfl⟩ := h
      refine ⟨congrArg (fun u => Except.ok (Flow.ret u)) rr, OldK.of_keep fun b o e => ?_, os, bare⟩
      rcases oH b with z | ⟨ob, xs, z⟩
      · exact un.keep b o e z (fun m => nomatch m) (by simp)
      · have f1 := (ok b _ z).1
        have f2 := (ok' b _ (un.frzs b ob _ z)).1
        rw [e] at f1
        rw [f2, ← Option.some.inj f1]
  cases hk : K.lookup a with
  | some o1 =>
    have e := KX a o1 hk
    rw [hobj] at e
    cases e
    refine core (fun _ => none) (fun _ => .inl rfl) (.inr ⟨_, vs.toArray, _, hk, rfl, rfl, rfl, ?_, by simpa using rv⟩) (fun b u z => nomatch z) (fun b _ => rfl) fun z => absurd rfl z
    rw [List.size_toArray, lv]
    exact Nat.le_trans hlen hn2
  | none =>
    let fz : HO := .frz { cls := .type "list", data := .seq vs.toArray } (.lst (ns.map V.int))
    refine core (upd (fun _ => none) a fz) (fun b => ?_) (.inl (.inr ⟨_, upd_same⟩)) (fun b u z => ?_) (fun b hb => upd_ne hb) fun _ => hk
    · by_cases hb : b = a
      · exact .inr ⟨_, _, by rw [hb]; exact upd_same⟩
      · exact .inl (upd_ne hb)
    · by_cases hb : b = a
      · subst hb
        rw [upd_same] at z
        cases z
        exact ⟨hobj, by rw [List.length_map]; exact Nat.le_trans hlen hn2, vs, _, rv, hobj⟩
      · rw [upd_ne hb] at z
        cases z
end VX

set_option Elab.async false
set_option linter.all false
set_option maxRecDepth 100000
set_option maxHeartbeats 4000000
/-! several except clauses, each «as n», one name -/
namespace VX
open PySem PySem.Spec PyProof.Rows L2
/-- what the clauses wish of an exception of the body, from the first on; the name in slot i is empty behind a suite -/
def wNamed (K : PySem.W.Frag) (i : Nat) (Wout : WX) (D : Ends) : List (Value × (Addr → Value → Option Addr → TS)) → WX
  | [] => Wout
  | (c, ts) :: r => fun cls d σ H => ∃ b, PySem.W.exmOne K cls c = some b ∧ (b = true → ∀ a, H a = none →
      ts a cls d { nx := fun σ' H' => D.nx (σ'.set i none) H', rt := D.rt, bk := fun σ' H' => D.bk (σ'.set i none) H', ct := fun σ' H' => D.ct (σ'.set i none) H' } (σ.set i (some (.ref a))) H) ∧ (b = false → wNamed K i Wout D r cls d σ H)
inductive Clauses (X : Cx) (n : Str) : List ExceptHandler → List (Value × (Addr → Value → Option Addr → TS)) → Prop
  | nil : Clauses X n [] []
  | cons {x : Str} {c : Value} {ts : Addr → Value → Option Addr → TS} {b₀ : Stmt} {su : List Stmt} {p1 p2 : Pos} {hs : List ExceptHandler} {l : List (Value × (Addr → Value → Option Addr → TS))} (hc : Names X x c)
      (hsu : ∀ (a : Addr) (oe : Obj) (cls : Value) (d : Option Addr) (pn : List (Addr × Obj)), Zc cls d oe → (∃ vs, oe.data = .fields vs) → PSs (X.suite a ((a, oe) :: pn)) (b₀ :: su) (ts a cls d)) (r : Clauses X n hs l) :
      Clauses X n (.ExceptHandler (some (.Name x p1)) (some n) (b₀ :: su) p2 :: hs) ((c, ts) :: l)
theorem ps_try_named {X : Cx} {n : Str} {i : Nat} {body : List Stmt} {h₀ : ExceptHandler} {hds : List ExceptHandler} {l : List (Value × (Addr → Value → Option Addr → TS))} {pos : Pos} {tb : WX → TS} {Wout : WX}
    (hs : X.stack = X.env :: X.outer) (hf : X.env.frame = some X.env.locals) (hN : X.N.Nodup) (hi : X.N[i]? = some n) (hln : X.env.kindOf n = some .local) (tk : Takes X Wout)
    (hb : ∀ (W : WX) (pn : List (Addr × Obj)) (xe : Value → Shared → Prop), Takes (X.tr pn xe) W → PassesOwn (model X.prog X.w) X.A X.env xe → PSs (X.tr pn xe) body (tb W)) (hh : Clauses X n (h₀ :: hds) l) :
    PS X (.Try body (h₀ :: hds) [] [] pos) (fun D σ H => tb (wNamed X.K i Wout D l) D σ H) := by
  refine ⟨fun pins s σ H D I h => wpAny_Try_except ?_⟩
  have ok := I.ok
  have fr : X.A.frames = some (X.env :: X.outer) := by rw [ok.frames, hs]
  have lc : Loc X.env.scope n := .inl hln
  refine wpAny_mono ((hb (wNamed X.K i Wout D l) (X.pn ++ pins) (fun e t1 => wpAny (model X.prog X.w) X.A (noteFrame e X.env) (fun _ t2 => wpAny (model X.prog X.w) X.A (setFlight e none) (fun _ t3 =>
    wpAny (model X.prog X.w) X.A (handleBy e X.env (h₀ :: hds)) (SP X pins D) X.xe t3) X.xe t2) X.xe t1) (fun u s' xx => ?caught) PassesOwn.looking).run [] s σ H D (I.toTry _) h) (fun f s1 q => ?through) (fun _ _ z => z)
  case through =>
    cases f with
    | next => obtain ⟨σ', H', J, q⟩ := q; exact wpAny_execs_nil ⟨σ', H', J.ofTry ok, q⟩
    | brk => obtain ⟨σ', H', J, q⟩ := q; exact ⟨σ', H', J.ofTry ok, q⟩
    | cont => obtain ⟨σ', H', J, q⟩ := q; exact ⟨σ', H', J.ofTry ok, q⟩
    | ret u => obtain ⟨v, σ', H', J, r, q⟩ := q; exact ⟨v, σ', H', J.ofTry ok, r, q⟩
  case caught =>
    obtain ⟨a, B, sI, ps', σ', H', cls, d, rfl, J', nb, up, sky, na, os, ag, w⟩ := xx
    have J : L2.Inv X pins σ' H' sI := J'.ofTry ok
    have sk : Sky B (X.env :: X.outer) a (Zc cls d) X.env.locals s'.heap := by rw [← hs]; exact sky
    show wpAny (model X.prog X.w) X.A (noteFrame (.ref a) X.env) _ _ _
    refine Sky.land Zc.steady fr hf sk fun h3 fl3 up3 => ?_
    have J3 : L2.Inv X pins σ' H' { s' with heap := h3 } := J.landed nb fl3.1 (up.trans up3) os ag
    obtain ⟨oe, vs, he, hz, hd⟩ := fl3.there
    have nfr : a ∉ frs (X.env :: X.outer) := fun hm => by
      obtain ⟨_, o', e', hnf⟩ := fl3.2.2.1.mem hm
      rw [he] at e'
      cases e'
      exact hnf _ hd
    have nL : a ≠ X.env.locals := fun z => nfr (List.mem_filterMap.mpr ⟨X.env, .head _, by rw [hf, z]⟩)
    have nF : a ∉ X.fs := fun hm => by
      obtain ⟨e, m, q⟩ := List.mem_filterMap.mp hm
      exact nfr (List.mem_filterMap.mpr ⟨e, .tail _ m, q⟩)
    have S3 := J3.suite he hd na nL nF
    have go : ∀ {hs' : List ExceptHandler} {l' : List (Value × (Addr → Value → Option Addr → TS))}, Clauses X n hs' l' → wNamed X.K i Wout D l' cls d σ' H' → wpAny (model X.prog X.w) X.A (handleBy (.ref a) X.env hs') (SP X pins D) X.xe { s' with heap := h3 } := by
      intro hs' l' hk
      induction hk with
      | nil =>
        intro w
        refine wpAny_handleBy_nil ?_
        obtain ⟨_, _, _, oe1, vs1, T, oT, ts1, he1, hz1, hd1, h1, _⟩ := id fl3
        unfold PySem.passOn
        refine wpAny_bind (wpAny_field he1 hd1 h1 ?_)
        rw [if_neg (show ¬ ((Value.ref T == Value.none) = true) by simp)]
        have fin : wpAny (model X.prog X.w) X.A (setFlight (.ref a) X.env.frame) (fun _ s4 => wpAny (model X.prog X.w) X.A (throw (.ref a) : Sem Flow) (SP X pins D) X.xe s4) X.xe { s' with heap := h3 } := by
          rw [hf]
          exact HandSPX.setFlight_upZ fl3 fun h4 hh4 up4 => wpAny_throw (tk _ _ ⟨a, B, sI, pins, σ', H', cls, d, rfl, J, nb, (up.trans up3).trans up4, .inr (.inr (by rw [hs]; exact hh4)), na, os, ag, w⟩)
        first | exact wpAny_bind (wpAny_pure (wpAny_bind fin)) | exact wpAny_bind fin
      | @cons x c ts b₀ su p1 p2 hs2 l2 hc hsu r ih =>
        rintro ⟨b, hb1, hy, hno⟩
        refine wpAny_handleBy_cons (codeAny_handlers_test ?_) (by intro q; cases q)
        have ty : PySem.W.Looks (model X.prog X.w) h3 (typeOf (.ref a)) cls := fun A Q E t k q => wpAny_typeOf_ref (k _ _ he) (by rw [hz.1]; exact q)
        have lk := PySem.W.exm_one (M := model X.prog X.w) (J3.kIn) ty hb1
        have asked : ∀ {Q E : Value → Shared → Prop}, Q c { s' with heap := h3 } → wpAny (model X.prog X.w) (X.A.mark (some (.ref a))) (eval (.Name x p1) X.env) Q E { s' with heap := h3 } := by
          intro Q E q
          obtain ⟨hg, hdb, hm | ⟨hm, hv, hn⟩⟩ := hc
          · exact ld_glob (X := X.suite a ((a, oe) :: (X.pn ++ pins))) S3 hg hm q hdb
          · exact ld_blt (X := X.suite a ((a, oe) :: (X.pn ++ pins))) S3 hg hm hv q hn hdb
        refine asked (lk.here ?_)
        cases b with
        | false => exact ih (hno rfl)
        | true =>
          refine codeAny_handlers_suite_as (HandSPX.lands_againZ fl3 fun h4 fl4 up4 => ?_)
          have J4 : L2.Inv X pins σ' H' { s' with heap := h4 } := J.landed nb fl4.1 ((up.trans up3).trans up4) os ag
          obtain ⟨oe4, vs4, he4, hz4, hd4⟩ := fl4.there
          refine store_ok (X := X.suite a ((a, oe4) :: (X.pn ++ pins))) (v := .ref a) (J4.suite he4 hd4 na nL nF) hN hi lc rfl (fun s5 S5 => ?_) (.inr hln)
          refine wpAny_mono ((hsu a oe4 cls d (X.pn ++ pins) hz4 ⟨_, hd4⟩).run [] s5 _ H' _ S5 (hy rfl a na)) (fun f s6 q => ?_) (fun _ _ z => False.elim z)
          have over : ∀ {σ6 : L2.St} {H6 : Hp} {Q : Shared → Prop}, L2.Inv (X.suite a ((a, oe4) :: (X.pn ++ pins))) [] σ6 H6 s6 → (∀ s7, L2.Inv X pins (σ6.set i none) H6 s7 → Q s7) →
              wpAny (model X.prog X.w) X.A (do bindName X.env n .none; unbindBehindTheSuite X.env n p2) (fun _ s7 => Q s7) X.xe s6 := fun S6 hq => gone_ok (S6.unsuite ok) hN hi hln hq
          cases f with
          | next => obtain ⟨σ6, H6, S6, q6⟩ := q; exact over S6 fun s7 J7 => ⟨_, _, J7, q6⟩
          | brk => obtain ⟨σ6, H6, S6, q6⟩ := q; exact over S6 fun s7 J7 => ⟨_, _, J7, q6⟩
          | cont => obtain ⟨σ6, H6, S6, q6⟩ := q; exact over S6 fun s7 J7 => ⟨_, _, J7, q6⟩
          | ret u => obtain ⟨v6, σ6, H6, S6, r6, q6⟩ := q; exact over S6 fun s7 J7 => ⟨_, _, _, J7, r6, q6⟩
    exact go hh w
end VX

set_option Elab.async false
set_option linter.all false
set_option maxRecDepth 100000
set_option maxHeartbeats 0
/-! ## The text, the facts of its top -/
namespace VX
open PySem PySem.Spec PyProof.Rows L2
/-! ### what the written part says of an exception's class, as one Bool -/
def clsB (K : PySem.W.Frag) (C : Addr) : Bool := match K.lookup C with
  | some ⟨.type "type", _, .cls cd, sl⟩ => (match cd.mro, sl.toList with
    | .ref D :: bm, [_, _, _, _, some (.builtin n), _] => D == C && (n == "ValueError.__new__" && (!cd.hasDel && (cd.hasDict && PySem.HandSPX.refsVE bm)))
    | _, _ => false)
  | _ => false
theorem clsB_ok {K : PySem.W.Frag} {C : Addr} (h : clsB K C = true) : ∃ nm q N bs bm sn sub ab col dd k0 k1 k2 k3 k5, K.lookup C = some (excClassObj nm q C N bs bm true sn sub ab col dd k0 k1 k2 k3 k5 "ValueError.__new__") ∧ PySem.HandSPX.refsVE bm = true := by
  unfold clsB at h
  split at h
  · rename_i dd cd sl ho
    split at h
    · rename_i D bm k0 k1 k2 k3 n k5 hm hs
      simp only [Bool.and_eq_true, beq_iff_eq, Bool.not_eq_true'] at h
      obtain ⟨rfl, rfl, hdel, hdc, hv⟩ := h
      obtain ⟨nm, bs, mro, ns, qn, hd, sn, sub, ab, col, del⟩ := cd
      dsimp only at hm hdel hdc
      subst hm hdel hdc
      have hsl : sl = #[k0, k1, k2, k3, some (.builtin "ValueError.__new__"), k5] := by
        obtain ⟨l⟩ := sl
        simp only at hs
        rw [hs]
      subst hsl
      exact ⟨nm, qn, ns, bs, bm, sn, sub, ab, col, dd, k0, k1, k2, k3, k5, ho, hv⟩
    · cases h
  · cases h
/-- of every error's class -/
def exB (K : PySem.W.Frag) (C : Addr) : Bool := He.eqO (PySem.W.findIn K (.ref C) "__getattribute__") (some (some (.builtin "BaseException.__getattribute__"))) && (He.eqO (PySem.W.findIn K (.ref C) "__getattr__") (some none) && (decide (PySem.W.subIn K (.ref C) (.type "BaseException") = some true) && (PySem.W.hasDictIn K C &&
  (He.eqO (PySem.W.findIn K (.ref C) "__class__") (some (some (.builtin "object.__class__"))) && (He.eqO (PySem.W.specialIn K (.builtin "object.__class__") "__get__") (some (some (.builtin "getset_descriptor.__get__"))) && (decide (PySem.W.takesIn K (.builtin "object.__class__") = some true) && (decide (PySem.W.mroIn K C (.type "object") = some true) &&
  (decide (PySem.W.typeIn K (.ref C) = some (.type "type")) && PySem.W.keepIn K (.ref C)))))))))
structure ExF (K : PySem.W.Frag) (C : Addr) : Prop where
  xf : XfC K C
  xc : ExcC K C
  ty : PySem.W.typeIn K (.ref C) = some (.type "type")
  kp : PySem.W.keepIn K (.ref C) = true
theorem exB_ok {K : PySem.W.Frag} {C : Addr} (h : exB K C = true) : ExF K C := by
  obtain ⟨h1, h⟩ := He.ba h
  obtain ⟨h2, h⟩ := He.ba h
  obtain ⟨h3, h⟩ := He.ba h
  obtain ⟨h4, h⟩ := He.ba h
  obtain ⟨h5, h⟩ := He.ba h
  obtain ⟨h6, h⟩ := He.ba h
  obtain ⟨h7, h⟩ := He.ba h
  obtain ⟨h8, h⟩ := He.ba h
  obtain ⟨h9, h10⟩ := He.ba h
  have e3 := of_decide_eq_true h3
  exact ⟨⟨He.eqO_ok h1, He.eqO_ok h2, e3, h4⟩, ⟨He.eqO_ok h1, He.eqO_ok h2, e3, h4, He.eqO_ok h5, He.eqO_ok h6, of_decide_eq_true h7, of_decide_eq_true h8⟩, of_decide_eq_true h9, h10⟩
/-- of one with an __init__ of its own that stores the field f -/
def inB (K : PySem.W.Frag) (C : Addr) (f : Str) : Bool := clsB K C && (He.eqO (PySem.W.findIn K (.ref C) "__setattr__") (some (some (.builtin "object.__setattr__"))) && (He.eqO (PySem.W.findIn K (.ref C) f) (some none) &&
  (He.eqO (PySem.W.findIn K (.ref C) "__init__") (some (some (.ref (He.ma K C "__init__")))) && decide (PySem.W.typeIn K (.ref (He.ma K C "__init__")) = some (.type "function")))))
structure InF (K : PySem.W.Frag) (C : Addr) (f : Str) : Prop where
  oe : OexC K C
  no : PySem.W.findIn K (.ref C) f = some none
  ini : PySem.W.findIn K (.ref C) "__init__" = some (some (.ref (He.ma K C "__init__")))
  fn : PySem.W.typeIn K (.ref (He.ma K C "__init__")) = some (.type "function")
theorem inB_ok {K : PySem.W.Frag} {C : Addr} {f : Str} (x : ExF K C) (h : inB K C f = true) : InF K C f := by
  obtain ⟨h1, h⟩ := He.ba h
  obtain ⟨h2, h⟩ := He.ba h
  obtain ⟨h3, h⟩ := He.ba h
  obtain ⟨h4, h5⟩ := He.ba h
  exact ⟨⟨clsB_ok h1, He.eqO_ok h2, x.xf.exC, x.ty, x.kp⟩, He.eqO_ok h3, He.eqO_ok h4, of_decide_eq_true h5⟩
/-! ### a Hook with one more Bool -/
def hookM (n : Nat) (fa : List He.Fa) (fn : List He.DefD) (ex : PySem.W.Frag → Bool) : PySem.W.Hook where
  α := He.AlD × Bool
  obs := fun s => (He.obsD fa fn (He.frG s.heap.get? (He.asD s.heap.get? n)), ex (He.frG s.heap.get? (He.asD s.heap.get? n)))
  val := fun _ => (He.valD fn, true)
  says := fun _ h => ∃ K : PySem.W.Frag, K.In h ∧ He.SaysD fa fn K ∧ ex K = true
  of := fun _ _ e => ⟨_, He.frG_in, congrArg (fun z : He.AlD × Bool => z.1) e, congrArg (fun z : He.AlD × Bool => z.2) e⟩
  keeps := fun _ _ _ ⟨K, hK, c⟩ k => ⟨K, PySem.W.Frag.In.keeps hK k, c⟩
def obsM (n : Nat) (fa : List He.Fa) (fn : List He.DefD) (ex : PySem.W.Frag → Bool) (g : Addr → Option Obj) : He.AlD × Bool := (fun K => (He.obsD fa fn K, ex K)) (He.frG g (He.asD g n))
theorem obsM_eq {n : Nat} {fa : List He.Fa} {fn : List He.DefD} {ex : PySem.W.Frag → Bool} {g : Addr → Option Obj} {s : Shared} (h : ∀ a, g a = s.heap.get? a) : obsM n fa fn ex g = (hookM n fa fn ex).obs s := by
  have e : g = s.heap.get? := funext h
  rw [e] <;> rfl
end VX
namespace K1
open PySem PySem.Spec PyProof.Rows L2 VX
def top (i : Nat) : Stmt := PySem.Challenge.pw_handspaces_k01_errors_and_rests.main.body.getD i (.Pass ⟨0, 0, 0, 0⟩)
/-- the errors with a field: name, field, place in the text -/
def withF : List (Str × Str × Nat) := [("BadPrime", "told", 2), ("NoInverse", "number", 3), ("BadLength", "told", 4), ("BadVector", "vector", 5), ("BadSign", "told", 10), ("BadColumn", "column", 11), ("BadOrder", "order", 12), ("NoHand", "hand", 13), ("NoKind", "kind", 14), ("TooGreat", "told", 16), ("BadMove", "move", 18), ("Barred", "spot", 19), ("BadLine", "line", 20), ("NoSpace", "part", 23), ("NoCell", "cell", 24)]
def plain : List Str := ["UnlikeSpaces", "NotWithin", "BadMatrix", "BadText", "BadNumbers", "Clash", "NothingToUndo", "NothingToRedo"]
def errs : List Str := withF.map (·.1) ++ plain
abbrev sI (i : Nat) : Stmt := inClass (top i) 0
def dI (p : Str × Str × Nat) : He.DefD := ⟨(p.1, some "__init__"), "__init__", p.1 ++ ".__init__", defArgs (sI p.2.2), defBody (sI p.2.2), defScope (sI p.2.2), [], []⟩
def dD (x : Str) (i : Nat) : He.DefD := ⟨(x, none), x, x, defArgs (top i), defBody (top i), defScope (top i), [], []⟩
def defs : List (Str × Nat) := [("is_integer", 27), ("is_prime", 28), ("check_prime", 29), ("inverse", 30), ("_law_cell", 32), ("_law_box", 33), ("_law_take", 34), ("_law_values", 35), ("_law_same", 36), ("_law_kept", 37), ("_law_kinds", 38), ("_law_bases", 39), ("_law_fails", 40), ("law", 41)]
def fn : List He.DefD := withF.map dI ++ defs.map fun p => dD p.1 p.2
def free : List Str := ["len", "int", "bool", "abs", "repr", "range", "list", "isinstance", "ValueError"]
def fa : List He.Fa := errs.map He.Fa.glo ++ (defs.map fun p => He.Fa.glo p.1) ++ [.glo "HandError", .glo "PRIMES"] ++ free.map He.Fa.free ++ plain.map He.Fa.exc ++ [.exm "BadPrime" "BadPrime" true, .exm "NoInverse" "BadPrime" false, .exm "NoInverse" "NoInverse" true]
def kitB2 (K : PySem.W.Frag) (x y : Str) : Bool := decide (PySem.W.kitOne K (.ref (He.ga K x)) (.ref (He.ga K y)) = some (decide (x = y)))
def ex (K : PySem.W.Frag) : Bool := errs.all (fun x => exB K (He.ga K x) && (decide (PySem.W.kitOne K (.ref (He.ga K x)) (.ref (He.ga K "HandError")) = some true) && decide (PySem.W.kitOne K (.ref (He.ga K x)) (.type "ValueError") = some true))) &&
  (withF.all (fun p => inB K (He.ga K p.1) p.2.1) && ((errs.all fun x => errs.all fun y => kitB2 K x y) && He.tupB K "PRIMES" [.int 2, .int 3, .int 5, .int 7, .int 11, .int 13]))
abbrev R : PySem.W.OpenRow := PySem.W.OpenLaw.row PySem.Challenge.rw_handspaces_k01_errors_and_rests
abbrev hk : PySem.W.Hook := hookM 5 fa fn ex
def ob (s : PySem.W.SharedT) : He.AlD × Bool := obsM 5 fa fn ex (HandSHeadRun.getT s)
theorem ob_eq (s : PySem.W.SharedT) : ob s = hk.obs s.abs := obsM_eq (HandSHeadRun.getT_eq s)
def loose : List Str := (["HandError", "PRIMES"] : List Str) ++ errs ++ (defs.map (·.1)).dropLast
set_option maxRecDepth 1000000 in
theorem run (w : World) : HandSHeadRun.RunEq R (PySem.W.view R.prog [41]) hk ob 60000 loose w := by
  intro os
  kernel_rfl
end K1

set_option Elab.async false
set_option linter.all false
set_option maxRecDepth 100000
set_option maxHeartbeats 4000000
/-! ## the small defs -/
namespace K1
open PySem PySem.Spec PyProof.Rows L2 VX
abbrev FnP (K : PySem.W.Frag) (x : Str) (i : Nat) (f : Addr) (fd : FuncData) : Prop := FunD K x x (defArgs (top i)) (defBody (top i)) (defScope (top i)) [] [] f fd
/-- what the module has, for a walk -/
structure Txt (K : PySem.W.Frag) (mg : Str → Option Value) : Prop where
  err : ∀ x ∈ errs, mg x = some (.ref (He.ga K x))
  dfs : ∀ p ∈ defs, mg p.1 = some (.ref (He.ga K p.1))
  hand : mg "HandError" = some (.ref (He.ga K "HandError"))
  prim : mg "PRIMES" = some (.ref (He.ga K "PRIMES"))
  free : ∀ x ∈ free, mg x = none
  exf : ∀ x ∈ errs, ExF K (He.ga K x)
  inf : ∀ p ∈ withF, InF K (He.ga K p.1) p.2.1
  pln : ∀ x ∈ plain, PySem.W.excIn K (He.ga K x) He.veBase "ValueError.__new__" = true
  kit : ∀ x ∈ errs, ∀ y ∈ errs, PySem.W.kitOne K (.ref (He.ga K x)) (.ref (He.ga K y)) = some (decide (x = y))
  kitH : ∀ x ∈ errs, PySem.W.kitOne K (.ref (He.ga K x)) (.ref (He.ga K "HandError")) = some true
  kitV : ∀ x ∈ errs, PySem.W.kitOne K (.ref (He.ga K x)) (.type "ValueError") = some true
  tup : ∀ H, SqT K H (He.ga K "PRIMES") [.int 2, .int 3, .int 5, .int 7, .int 11, .int 13]
  pp : PySem.W.exmOne K (.ref (He.ga K "BadPrime")) (.ref (He.ga K "BadPrime")) = some true
  np : PySem.W.exmOne K (.ref (He.ga K "NoInverse")) (.ref (He.ga K "BadPrime")) = some false
  nn : PySem.W.exmOne K (.ref (He.ga K "NoInverse")) (.ref (He.ga K "NoInverse")) = some true
theorem txt_mk {K : PySem.W.Frag} {h : Heap} {mg : Str → Option Value} (X : K.In h) (G : h.Ns mainGlobals mg) (c : He.SaysD fa fn K) (e : ex K = true) : Txt K mg := by
  have F : ∀ f ∈ fa, f.ok K = true := fun f hf => by
    obtain ⟨i, hi, e⟩ := List.mem_iff_getElem.mp hf
    exact c.fact i (f := f) (by rw [List.getElem?_eq_getElem hi, e])
  obtain ⟨e1, e⟩ := He.ba e
  obtain ⟨e2, e⟩ := He.ba e
  obtain ⟨e3, e4⟩ := He.ba e
  have m1 : ∀ {f}, f ∈ errs.map He.Fa.glo → f ∈ fa := fun h => List.mem_append_left _ (List.mem_append_left _ (List.mem_append_left _ (List.mem_append_left _ (List.mem_append_left _ h))))
  have m2 : ∀ {f}, f ∈ (defs.map fun p => He.Fa.glo p.1) → f ∈ fa := fun h => List.mem_append_left _ (List.mem_append_left _ (List.mem_append_left _ (List.mem_append_left _ (List.mem_append_right _ h))))
  have m3 : ∀ {f}, f ∈ [He.Fa.glo "HandError", He.Fa.glo "PRIMES"] → f ∈ fa := fun h => List.mem_append_left _ (List.mem_append_left _ (List.mem_append_left _ (List.mem_append_right _ h)))
  have m4 : ∀ {f}, f ∈ K1.free.map He.Fa.free → f ∈ fa := fun h => List.mem_append_left _ (List.mem_append_left _ (List.mem_append_right _ h))
  have m5 : ∀ {f}, f ∈ plain.map He.Fa.exc → f ∈ fa := fun h => List.mem_append_left _ (List.mem_append_right _ h)
  have m6 : ∀ {f}, f ∈ [He.Fa.exm "BadPrime" "BadPrime" true, .exm "NoInverse" "BadPrime" false, .exm "NoInverse" "NoInverse" true] → f ∈ fa := fun h => List.mem_append_right _ h
  have xf : ∀ x ∈ errs, ExF K (He.ga K x) := fun x hx => exB_ok (He.ba (List.all_eq_true.mp e1 x hx)).1
  exact {
    err := fun x hx => He.glo_ok X G (F _ (m1 (List.mem_map.mpr ⟨x, hx, rfl⟩)))
    dfs := fun p hp => He.glo_ok X G (F _ (m2 (List.mem_map.mpr ⟨p, hp, rfl⟩)))
    hand := He.glo_ok X G (F _ (m3 (.head _)))
    prim := He.glo_ok X G (F _ (m3 (.tail _ (.head _))))
    free := fun x hx => He.free_ok X G (F _ (m4 (List.mem_map.mpr ⟨x, hx, rfl⟩)))
    exf := xf
    inf := fun p hp => inB_ok (xf p.1 (List.mem_append_left _ (List.mem_map.mpr ⟨p, hp, rfl⟩))) (List.all_eq_true.mp e2 p hp)
    pln := fun x hx => (He.exc_ok (F _ (m5 (List.mem_map.mpr ⟨x, hx, rfl⟩)))).1
    kit := fun x hx y hy => of_decide_eq_true (List.all_eq_true.mp (List.all_eq_true.mp e3 x hx) y hy)
    kitH := fun x hx => of_decide_eq_true (He.ba (He.ba (List.all_eq_true.mp e1 x hx)).2).1
    kitV := fun x hx => of_decide_eq_true (He.ba (He.ba (List.all_eq_true.mp e1 x hx)).2).2
    tup := fun H => He.tupB_ok e4 H
    pp := He.exm_ok (F _ (m6 (.head _)))
    np := He.exm_ok (F _ (m6 (.tail _ (.head _))))
    nn := He.exm_ok (F _ (m6 (.tail _ (.tail _ (.head _))))) }
section
variable {P : Program} {w : World} {K : PySem.W.Frag} {mg : Str → Option Value} {base : Heap} {f : Addr} {fd : FuncData}
/-! ### is_integer -/
def spInt (K : PySem.W.Frag) : Sp := fun vs H Q _ => ∃ (v : V) (t : Value) (a b : Bool), vs = [v] ∧ TyX K H v t ∧ PySem.W.kitOne K t (.type "int") = some a ∧ PySem.W.kitOne K t (.type "bool") = some b ∧ Q (.bl (a && !b)) H
theorem sc_int : FnScope ["value"] ["value"] (defScope (top 27)) := ⟨rfl, rfl, rfl, by decide +kernel, rfl, by decide +kernel, by decide +kernel⟩
theorem ok_int (F : FnP K "is_integer" 27 f fd) (T : Txt K mg) : FnOk P w K mg base CX0 1 f fd ["value"] (spInt K) := by
  refine F.ok sc_int (fun vs H Q E h => ?_) (fun cdv A outer s H vs Q E hr h => ?_)
  · obtain ⟨v, t, a, b, rfl, _⟩ := h
    rfl
  · obtain ⟨v, t, a, b, rfl, ht, ha, hb, k⟩ := h
    have i0 := T.free "isinstance" (by decide +kernel)
    have i1 := T.free "int" (by decide +kernel)
    have i2 := T.free "bool" (by decide +kernel)
    refine ⟨_, PSs.nox (pss_one (ps_ret (pe_and (pe_callB call_isi (by rfl) i0 (by decide +kernel) (pa_cons (pv 0) (pa_cons (pe_bltn (v := .ty "int") (by rfl) i1 boot_int rfl) pa_nil)))
      (pe_one (pe_not (pe_callB call_isi (by rfl) i0 (by decide +kernel) (pa_cons (pv 0) (pa_cons (pe_bltn (v := .ty "bool") (by rfl) i2 (by decide +kernel) rfl) pa_nil)))))))), ?_⟩
    refine ⟨_, rfl, v, .ty "int", t, _, a, rfl, .ty _, ht, ha, a, rfl, ?_⟩

    cases a with
    | false => exact iteF k
    | true =>
      refine iteT ?_
      refine ⟨_, rfl, v, .ty "bool", t, _, b, rfl, .ty _, ht, hb, b, rfl, k⟩
/-! ### is_prime -/
def isP (n : Int) : Bool := decide (n ∈ [(2 : Int), 3, 5, 7, 11, 13])
def spPrime (K : PySem.W.Frag) : Sp := fun vs H Q _ => ∃ (v : V) (t : Value) (a b : Bool), vs = [v] ∧ TyX K H v t ∧ PySem.W.kitOne K t (.type "int") = some a ∧ PySem.W.kitOne K t (.type "bool") = some b ∧
  ((a && !b) = true → ∃ n, v = .int n ∧ Q (.bl (isP n)) H) ∧ ((a && !b) = false → Q (.bl false) H)
theorem sc_prime : FnScope ["value"] ["value"] (defScope (top 28)) := ⟨rfl, rfl, rfl, by decide +kernel, rfl, by decide +kernel, by decide +kernel⟩
theorem b1 {x : Str} {i : Nat} {ps : List Str} (F : FnP K x i f fd) (h : ∀ (kV doc pm : Value) (an : Option Addr) (cdv ct : Value) (us : List Value), us.length = ps.length → bindArgs (PySem.W.fnOf x x (defArgs (top i)) (defBody (top i)) (defScope (top i)) .none kV doc pm an cdv ct) ⟨us, []⟩ = pure (ps.zip us)) : Binds K fd ps [] := F.bindsN h
theorem ok_prime {fd1 : FuncData} (F : FnP K "is_prime" 28 f fd) (T : Txt K mg) (F1 : FnP K "is_integer" 27 (He.ga K "is_integer") fd1) : FnOk P w K mg base CX0 2 f fd ["value"] (spPrime K) := by
  have G1 : FnOk P w K mg base CX0 1 _ fd1 ["value"] (spInt K) := ok_int F1 T
  have B1 : Binds K fd1 ["value"] [] := F1.bindsN fun _ _ _ _ _ _ us hl => match us, hl with | [_], _ => rfl
  refine F.ok sc_prime (fun vs H Q E h => ?_) (fun cdv A outer s H vs Q E hr h => ?_)
  · obtain ⟨v, t, a, b, rfl, _⟩ := h
    rfl
  · obtain ⟨v, t, a, b, rfl, ht, ha, hb, k1, k2⟩ := h
    refine ⟨_, PSs.nox (pss_one (ps_ret (pe_and (pe_call G1 hr (by rfl) (T.dfs ("is_integer", 27) (by decide +kernel)) F1.kp B1 .nil pass0 (pa_cons (pv 0) pa_nil)) (pe_one (pe_cmpR op_in_seq (pv 0) (pe_glob (v := .ref (He.ga K "PRIMES")) (by rfl) T.prim rfl) (by rfl)))))), ?_⟩
    refine ⟨_, rfl, v, t, a, b, rfl, ht, ha, hb, _, rfl, ?_⟩
    cases e : (a && !b) with
    | false => exact iteF (k2 e)
    | true =>
      obtain ⟨n, rfl, k⟩ := k1 e
      refine iteT ?_
      refine ⟨_, rfl, _, _, rfl, .inr (T.tup _), rfl, rfl, ?_⟩
      have e2 : inV (V.int n) [V.int 2, V.int 3, V.int 5, V.int 7, V.int 11, V.int 13] = isP n := by
        rw [Bool.eq_iff_iff]
        simp only [inV, eqV, isP, List.any_cons, List.any_nil, Bool.or_false, Bool.or_eq_true, beq_iff_eq, decide_eq_true_eq, List.mem_cons, List.not_mem_nil, or_false]
        omega
      show Q (.bl (inV (V.int n) [V.int 2, V.int 3, V.int 5, V.int 7, V.int 11, V.int 13])) H
      rw [e2]
      exact k
/-! ### the errors' __init__ -/
def spIni (K : PySem.W.Frag) (C : Addr) (g : Str) : Sp := fun vs H Q _ => ∃ (a : Addr) (v : V), vs = [.ref a, v] ∧ H a = some (exo a C none) ∧ ∀ dx, H dx = none → dx ≠ a → Q .non (upd (upd H dx (exd dx [(g, v)])) a (exo a C (some dx)))
theorem ok_ini {x g qual : Str} {pa : Arguments} {bd : List Stmt} {sc : Scope} {C : Addr} {q1 q2 q3 q4 : Pos} (F : FunD K x qual pa bd sc [] [] f fd) (S : FnScope ["self", g] ["self", g] sc) (hb : bd = [.Assign [.Attribute (.Name "self" q1) g q2] (.Name g q3) q4]) (I : InF K C g)
    (hd : (g == ("__debug__" : Str)) = false) (hc : (g == ("__classdict__" : Str)) = false) : FnOk P w K mg base CX0 1 f fd ["self", g] (spIni K C g) := by
  subst hb
  refine F.ok S (fun vs H Q E h => ?_) (fun cdv A outer s H vs Q E hr h => ?_)
  · obtain ⟨a, v, rfl, _⟩ := h
    rfl
  · obtain ⟨a, v, rfl, ha, k⟩ := h
    refine ⟨_, PSs.nox (pss_one (ps_ost (pe_var (i := 0) rfl (vis_par S (x := "self") (.head _))) (pe_var (i := 1) rfl (vis_par S (.tail _ (.head _))) hd hc))), ?_⟩
    exact ⟨_, rfl, _, rfl, a, C, rfl, I.oe, I.no, .inl ⟨ha, k⟩⟩
/-! ### inverse -/
theorem inv_nat : ∀ p ∈ [2, 3, 5, 7, 11, 13], ∀ r < p, r ≠ 0 → ∃ j < p - 1, r * (1 + j) % p = 1 := by decide
theorem isP_cases {p : Int} (h : isP p = true) : p = 2 ∨ p = 3 ∨ p = 5 ∨ p = 7 ∨ p = 11 ∨ p = 13 := by simpa [isP] using h
theorem isP_nat {p : Int} (h : isP p = true) : ∃ q : Nat, q ∈ [2, 3, 5, 7, 11, 13] ∧ p = (q : Int) := by
  rcases isP_cases h with h | h | h | h | h | h
  · exact ⟨2, by decide, h⟩
  · exact ⟨3, by decide, h⟩
  · exact ⟨5, by decide, h⟩
  · exact ⟨7, by decide, h⟩
  · exact ⟨11, by decide, h⟩
  · exact ⟨13, by decide, h⟩
theorem isP_pos {p : Int} (h : isP p = true) : 2 ≤ p ∧ p ≤ 13 := by
  rcases isP_cases h with h | h | h | h | h | h <;> omega
theorem inv_ex {n p : Int} (hp : isP p = true) (h : n % p ≠ 0) : ∃ j : Nat, (j : Int) < p - 1 ∧ n * (1 + (j : Int)) % p = 1 := by
  have hb := isP_pos hp
  obtain ⟨q, hq, rfl⟩ := isP_nat hp
  have h0 : 0 ≤ n % (q : Int) := Int.emod_nonneg n (by omega)
  have h1 : n % (q : Int) < (q : Int) := Int.emod_lt_of_pos n (by omega)
  obtain ⟨r, hr⟩ : ∃ r : Nat, n % (q : Int) = (r : Int) := ⟨(n % (q : Int)).toNat, by omega⟩
  obtain ⟨j, hj, e⟩ := inv_nat q hq r (by omega) (by omega)
  refine ⟨j, by omega, ?_⟩
  have e1 : n * (1 + (j : Int)) % (q : Int) = n % (q : Int) * (1 + (j : Int)) % (q : Int) := by
    rw [Int.mul_emod, Int.mul_emod (n % (q : Int)) (1 + (j : Int)), Int.emod_emod]
  have e2 : ((r * (1 + j) % q : Nat) : Int) = (1 : Nat) := congrArg _ e
  rw [e1, hr]
  simpa using e2
/-- inverse's raise: the heap that the class's __init__ leaves -/
theorem raise_heap {H : Hp} {a d C : Addr} {g : Str} {v : V} (ha : H a = none) (hd : d ≠ a) : upd (del (upd (upd (upd H a (exo a C none)) d (exd d [(g, v)])) a (exo a C (some d))) a) d (.xd [(g, v)]) = upd H d (.xd [(g, v)]) := by
  funext b
  by_cases hb : b = d
  · rw [hb, upd_same, upd_same]
  · rw [upd_ne hb, upd_ne hb]
    by_cases hba : b = a
    · rw [hba, del_same, ha]
    · rw [del_ne hba, upd_ne hba, upd_ne hb, upd_ne hba]
/-- what C(v) asks, C of one field -/
theorem make_read {C : Addr} {g : Str} {v : V} {H : Hp} {X : XK} (k : ∀ d, H d = none → X (.ref C) (some d) (upd H d (.xd [(g, v)]))) (a : Addr) (ha : H a = none) :
    spIni K C g [.ref a, v] (upd H a (exo a C none)) (fun u H2 => u = .non ∧ ∃ (d : Addr) (fs : List (Str × V)), H2 a = some (exo a C (some d)) ∧ H2 d = some (exd d fs) ∧ H d = none ∧ X (.ref C) (some d) (upd (del H2 a) d (.xd fs))) (fun _ _ _ => False) := by
  refine ⟨a, v, rfl, upd_same, fun d hd ne => ⟨rfl, d, [(g, v)], upd_same, ?_, ?_, ?_⟩⟩
  · rw [upd_ne ne, upd_same]
  · rwa [upd_ne ne] at hd
  · rw [raise_heap ha ne]
    rw [upd_ne ne] at hd
    exact k d hd
def spChk (K : PySem.W.Frag) : Sp := fun vs H Q E => ∃ (v : V) (t : Value) (a b : Bool), vs = [v] ∧ TyX K H v t ∧ PySem.W.kitOne K t (.type "int") = some a ∧ PySem.W.kitOne K t (.type "bool") = some b ∧
  ((a && !b) = true → ∃ p, v = .int p ∧ (isP p = false → ∀ d, H d = none → E (.ref (He.ga K "BadPrime")) (some d) (upd H d (.xd [("told", v)]))) ∧ (isP p = true → Q .non H)) ∧
  ((a && !b) = false → ∀ d, H d = none → E (.ref (He.ga K "BadPrime")) (some d) (upd H d (.xd [("told", v)])))
theorem sc_chk : FnScope ["prime"] ["prime"] (defScope (top 29)) := ⟨rfl, rfl, rfl, by decide +kernel, rfl, by decide +kernel, by decide +kernel⟩
theorem ok_chk {fd1 fd2 fdB : FuncData} (F : FnP K "check_prime" 29 f fd) (T : Txt K mg) (F1 : FnP K "is_integer" 27 (He.ga K "is_integer") fd1) (F2 : FnP K "is_prime" 28 (He.ga K "is_prime") fd2)
    (GB : FnOk P w K mg base CX0 1 (He.ma K (He.ga K "BadPrime") "__init__") fdB ["self", "told"] (spIni K (He.ga K "BadPrime") "told")) (BB : Binds K fdB ["self", "told"] []) :
    FnOk P w K mg base (L2.CX P w) 3 f fd ["prime"] (spChk K) := by
  have G2 : FnOk P w K mg base CX0 2 _ fd2 ["value"] (spPrime K) := ok_prime F2 T F1
  have B2 : Binds K fd2 ["value"] [] := F2.bindsN fun _ _ _ _ _ _ us hl => match us, hl with | [_], _ => rfl
  have iB := T.inf ("BadPrime", "told", 2) (by decide +kernel)
  refine F.ok sc_chk (fun vs H Q E h => ?_) (fun cdv A outer s H vs Q E hr h => ?_)
  · obtain ⟨v, t, a, b, rfl, _⟩ := h
    rfl
  · obtain ⟨v, t, a, b, rfl, ht, ha, hb, k1, k2⟩ := h
    refine ⟨_, (pss_one (ps_if (pt_not (pt_val (pe_call G2 hr (by rfl) (T.dfs ("is_prime", 28) (by decide +kernel)) F2.kp B2 .nil pass0 (pa_cons (pv 0) pa_nil))))
          (pss_one (ps_raise rfl (takes_of rfl rfl rfl rfl) (pmk_oex iB.oe iB.ini iB.fn GB hr BB .nil pass0 (by rfl) (T.err "BadPrime" (by decide +kernel)) (pa_cons (pv 0) pa_nil)))) pss_nil)), ?_⟩
    have bad : ∀ {D : Ends}, (∀ d, H d = none → E (.ref (He.ga K "BadPrime")) (some d) (upd H d (.xd [("told", v)]))) →
        tMkO (He.ga K "BadPrime") (spIni K (He.ga K "BadPrime") "told") [] (tCons (tVar 0) tNil) [some v] H fun cls d H' => E cls d H' :=
      fun {D} k => ⟨_, rfl, by show 1 ≤ 1000; decide, fun a ha => make_read k a ha⟩
    refine ⟨_, rfl, v, t, a, b, rfl, ht, ha, hb, fun e => ?_, fun e => ⟨_, rfl, iteT (bad (D := { nx := fun _ _ => True, rt := Q }) (k2 e))⟩⟩
    obtain ⟨p, rfl, c1, c2⟩ := k1 e
    refine ⟨p, rfl, _, rfl, ?_⟩
    cases hp : isP p with
    | false => exact iteT (bad (D := { nx := fun _ _ => True, rt := Q }) (c1 hp))
    | true => exact iteF (c2 hp)
def spInv (K : PySem.W.Frag) : Sp := fun vs H Q E => ∃ (n : Int) (v : V) (t : Value) (a b : Bool), vs = [.int n, v] ∧ TyX K H v t ∧ PySem.W.kitOne K t (.type "int") = some a ∧ PySem.W.kitOne K t (.type "bool") = some b ∧
  ((a && !b) = true → ∃ p, v = .int p ∧ (isP p = false → ∀ d, H d = none → E (.ref (He.ga K "BadPrime")) (some d) (upd H d (.xd [("told", v)]))) ∧
    (isP p = true → n % p = 0 → ∀ d, H d = none → E (.ref (He.ga K "NoInverse")) (some d) (upd H d (.xd [("number", .int n)]))) ∧ (isP p = true → n % p ≠ 0 → ∀ i, 1 ≤ i → i < p → n * i % p = 1 → Q (.int i) H)) ∧
  ((a && !b) = false → ∀ d, H d = none → E (.ref (He.ga K "BadPrime")) (some d) (upd H d (.xd [("told", v)])))
theorem sc_inv : FnScope ["number", "prime", "factor"] ["number", "prime"] (defScope (top 30)) := ⟨rfl, rfl, rfl, by decide +kernel, rfl, by decide +kernel, by decide +kernel⟩
theorem ok_inv {fd1 fd2 fdB fdN fdC : FuncData} (F : FnP K "inverse" 30 f fd) (T : Txt K mg) (FC : FnP K "check_prime" 29 (He.ga K "check_prime") fdC) (F1 : FnP K "is_integer" 27 (He.ga K "is_integer") fd1) (F2 : FnP K "is_prime" 28 (He.ga K "is_prime") fd2)
    (GB : FnOk P w K mg base CX0 1 (He.ma K (He.ga K "BadPrime") "__init__") fdB ["self", "told"] (spIni K (He.ga K "BadPrime") "told")) (BB : Binds K fdB ["self", "told"] [])
    (GN : FnOk P w K mg base CX0 1 (He.ma K (He.ga K "NoInverse") "__init__") fdN ["self", "number"] (spIni K (He.ga K "NoInverse") "number")) (BN : Binds K fdN ["self", "number"] []) :
    FnOk P w K mg base (L2.CX P w) 4 f fd ["number", "prime"] (spInv K) := by
  have GC : FnOk P w K mg base (L2.CX P w) 3 _ fdC ["prime"] (spChk K) := ok_chk FC T F1 F2 GB BB
  have BC : Binds K fdC ["prime"] [] := FC.bindsN fun _ _ _ _ _ _ us hl => match us, hl with | [_], _ => rfl
  have iN := T.inf ("NoInverse", "number", 3) (by decide +kernel)
  have rg := T.free "range" (by decide +kernel)
  refine F.ok sc_inv (fun vs H Q E h => ?_) (fun cdv A outer s H vs Q E hr h => ?_)
  · obtain ⟨n, v, t, a, b, rfl, _⟩ := h
    rfl
  · obtain ⟨n, v, t, a, b, rfl, ht, ha, hb, k1, k2⟩ := h
    have hr2 : Room 2 _ := hr.mono (by decide)
    refine ⟨_, (pss_cons (ps_expr (pe_call GC hr (by rfl) (T.dfs ("check_prime", 29) (by decide +kernel)) FC.kp BC .nil (passes_call (takes_of rfl rfl rfl rfl) (fun _ _ _ _ h => h)) (pa_cons (pv 1) pa_nil)))
      (pss_cons (ps_for (passes_of rfl) rfl (pi_range2 (by rfl) rg (pa_cons pe_int (pa_cons (pv 1) pa_nil))) (pg_name (i := 2) sc_inv.nd rfl (.inl rfl))
          (pss_one (ps_if (pt_cmpR op_eq (pe_op op_mod (pe_op op_mul (pv 0) (pv 2)) (pv 1)) pe_int (nomark _)) (pss_one (ps_ret (pv 2))) pss_nil)))
      (pss_one (ps_raise rfl (takes_of rfl rfl rfl rfl) (pmk_oex iN.oe iN.ini iN.fn GN hr2 BN .nil pass0 (by rfl) (T.err "NoInverse" (by decide +kernel)) (pa_cons (pv 0) pa_nil)))))), ?_⟩
    refine ⟨_, rfl, v, t, a, b, rfl, ht, ha, hb, fun e => ?_, k2⟩
    obtain ⟨p, rfl, c1, c2, c3⟩ := k1 e
    refine ⟨p, rfl, c1, fun hp => ?_⟩
    · have hb := isP_pos hp
      refine ⟨_, rfl, 1, p, rfl, ⟨by omega, by omega, by omega, by omega⟩, for_range (lo := 1) (n := (p - 1).toNat) (fun i σ H' => ∃ z, σ = [some (.int n), some (.int p), z] ∧ H' = H ∧ ∀ j : Nat, j < i → n * (1 + (j : Int)) % p ≠ 1) ⟨none, rfl, rfl, fun j hj => absurd hj (Nat.not_lt_zero j)⟩ ?_ ?_⟩
      · rintro i σ H' hi ⟨z, rfl, rfl, hn⟩
        refine ⟨_, rfl, _, rfl, _, _, rfl, rfl, .inr ⟨by omega, by omega⟩, _, rfl, _, _, rfl, rfl, (by show (0 : Int) < p; omega), rfl, _, rfl, ?_⟩
        refine ite2 (fun c => ?_) (fun c => ?_)
        · have c' : n * (1 + (i : Int)) % p = 1 := by simpa using c
          have hn0 : n % p ≠ 0 := fun z0 => by
            have d : p ∣ n * (1 + (i : Int)) := Int.dvd_trans (Int.dvd_of_emod_eq_zero z0) (Int.dvd_mul_right n (1 + (i : Int)))
            rw [Int.emod_eq_zero_of_dvd d] at c'
            omega
          exact ⟨_, rfl, c3 hp hn0 (1 + (i : Int)) (by omega) (by omega) c'⟩
        · refine ⟨_, rfl, rfl, fun j hj => ?_⟩
          by_cases e : j = i
          · subst e
            simpa using c
          · exact hn j (by omega)
      · rintro σ H' ⟨z, rfl, rfl, hn⟩
        have h0 : n % p = 0 := by
          by_cases h : n % p = 0
          · exact h
          · obtain ⟨j, hj, ej⟩ := inv_ex hp h
            exact absurd ej (hn j (by omega))
        exact ⟨_, rfl, by show 1 ≤ 1000; decide, fun a ha => make_read (c2 hp h0) a ha⟩
end
end K1

set_option Elab.async false
set_option linter.all false
set_option maxRecDepth 100000
set_option maxHeartbeats 4000000
/-! ## the law's draws -/
namespace K1
open PySem PySem.Spec PyProof.Rows L2 VX
section
variable {P : Program} {w : World} {K : PySem.W.Frag} {mg : Str → Option Value} {base : Heap} {f : Addr} {fd : FuncData}
theorem sc_cell : FnScope ["_law_script", "_law_k"] ["_law_script", "_law_k"] (defScope (top 32)) := ⟨rfl, rfl, rfl, by decide +kernel, rfl, by decide +kernel, by decide +kernel⟩
theorem ok_cell (F : FnP K "_law_cell" 32 f fd) (T : Txt K mg) : FnOk P w K mg base CX0 1 f fd ["_law_script", "_law_k"] (spCell K) := by
  refine F.ok sc_cell (fun vs H Q E h => ?_) (fun cdv A outer s H vs Q E hr h => ⟨tCellE K, PSs.nox ?_, cellE_run h⟩)
  · obtain ⟨l, ns, j, rfl, _⟩ := h
    rfl
  · exact pss_one (ps_ret (pe_ifExp (pt_cmp (pc_lt (pv 1) (pe_callB call_len (by rfl) (T.free "len" (by decide +kernel)) boot_len (pa_cons (pv 0) pa_nil)))) (pe_ix ix_seq (pv 0) (pv 1) fun _ _ => rfl) pe_int))
/-! ### _law_box -/
def spBox (K : PySem.W.Frag) : Sp := fun vs H Q _ => ∃ (l : Addr) (ns : List Int) (j : Nat), vs = [.ref l, .int j] ∧ SqL K H l (ns.map V.int) ∧ ∀ p, H p = none → Q (.ref p) (upd H p (.lst [.int (cellOf ns j).natAbs, .int 0, .int (40503 * (j : Int) + 911)]))
theorem sc_box : FnScope ["_law_script", "_law_k"] ["_law_script", "_law_k"] (defScope (top 33)) := ⟨rfl, rfl, rfl, by decide +kernel, rfl, by decide +kernel, by decide +kernel⟩
theorem ok_box {fd1 : FuncData} (F : FnP K "_law_box" 33 f fd) (T : Txt K mg) (F1 : FnP K "_law_cell" 32 (He.ga K "_law_cell") fd1) : FnOk P w K mg base CX0 2 f fd ["_law_script", "_law_k"] (spBox K) := by
  have G1 : FnOk P w K mg base CX0 1 _ fd1 ["_law_script", "_law_k"] (spCell K) := ok_cell F1 T
  have B1 : Binds K fd1 ["_law_script", "_law_k"] [] := F1.bindsN fun _ _ _ _ _ _ us hl => match us, hl with | [_, _], _ => rfl
  refine F.ok sc_box (fun vs H Q E h => ?_) (fun cdv A outer s H vs Q E hr h => ?_)
  · obtain ⟨l, ns, j, rfl, _⟩ := h
    rfl
  · obtain ⟨l, ns, j, rfl, hs, k⟩ := h
    refine ⟨_, PSs.nox (pss_one (ps_ret (pe_lst (pa_cons (pe_callB call_abs (by rfl) (T.free "abs" (by decide +kernel)) (by decide +kernel) (pa_cons (pe_callTy call_int1 (by rfl) (T.free "int" (by decide +kernel)) boot_int
      (pa_cons (pe_call G1 hr (by rfl) (T.dfs ("_law_cell", 32) (by decide +kernel)) F1.kp B1 .nil pass0 (pa_cons (pv 0) (pa_cons (pv 1) pa_nil))) pa_nil)) pa_nil)) (pa_cons pe_int (pa_cons (pe_op op_add (pe_op op_mul pe_int (pv 1)) pe_int) pa_nil)))))), ?_⟩
    refine ⟨_, rfl, _, rfl, l, ns, j, rfl, hs, .inl ⟨_, rfl, _, rfl, _, rfl, _, _, rfl, rfl, .inl ⟨by decide, by decide⟩, _, _, rfl, rfl, (by show 3 ≤ sizeLine; decide), fun p hp => ?_⟩⟩
    have e : (if cellOf ns j < 0 then -cellOf ns j else cellOf ns j) = ((cellOf ns j).natAbs : Int) := by
      by_cases h : cellOf ns j < 0
      · rw [if_pos h]; omega
      · rw [if_neg h]; omega
    rw [e]
    exact k p hp
/-! ### _law_take -/
theorem pw_ok {i : Int} (h0 : 0 ≤ i) (h1 : i < 2 ^ 90) : CPw i 3 := by
  refine ⟨by decide, ?_⟩
  have h : Builtin.Int.intBits i ≤ 90 := intBits_le (by omega)
  have h2 : (Builtin.Int.intBits i : Int) ≤ 90 := by exact_mod_cast h
  omega
def spTake : Sp := fun vs H Q _ => ∃ (b : Addr) (m x y z : Int), vs = [.ref b, .int m] ∧ H b = some (.lst [.int x, .int y, .int z]) ∧ 0 ≤ x ∧ 0 ≤ y ∧ y ≤ 1000000 ∧ 0 ≤ z ∧ z ≤ 100000000 ∧ 0 < m ∧ m ≤ 1000000000 ∧
  ∀ d x' y', 0 ≤ d → d < m → 0 ≤ x' → x' ≤ x → y ≤ y' → y' ≤ y + 1 → Q (.int d) (upd H b (.lst [.int x', .int y', .int z]))
theorem sc_take : FnScope ["_law_box_here", "_law_many", "_law_digit", "_law_mixed"] ["_law_box_here", "_law_many"] (defScope (top 34)) := ⟨rfl, rfl, rfl, by decide +kernel, rfl, by decide +kernel, by decide +kernel⟩
theorem ok_take (F : FnP K "_law_take" 34 f fd) (T : Txt K mg) : FnOk P w K mg base CX0 1 f fd ["_law_box_here", "_law_many"] spTake := by
  refine F.ok sc_take (fun vs H Q E h => ?_) (fun cdv A outer s H vs Q E hr h => ?_)
  · obtain ⟨b, m, x, y, z, rfl, _⟩ := h
    rfl
  · obtain ⟨b, m, x, y, z, rfl, hb, x0, y0, y1, z0, z1, m0, m1, k⟩ := h
    have i0 := T.free "int" (by decide +kernel)
    refine ⟨_, PSs.nox (pss_cons (ps_if (pt_cmpR op_ge (pe_ix ix_list (pv 0) pe_int (fun _ _ => rfl)) (pe_op op_pow pe_int pe_int) (nomark _))
        (pss_cons (ps_set (i := 2) sc_take.nd rfl (Or.inl rfl) (pe_op op_mod (pe_callTy call_int1 (by rfl) i0 boot_int (pa_cons (pe_ix ix_list (pv 0) pe_int (fun _ _ => rfl)) pa_nil)) (pv 1)))
        (pss_cons (ps_asg (pe_op op_fdiv (pe_ix ix_list (pv 0) pe_int (fun _ _ => rfl)) (pv 1)) (pg_sub (pv 0) pe_int set_list))
        (pss_one (ps_ret (pv 2))))) pss_nil)
      (pss_cons (ps_asg (pe_op op_add (pe_ix ix_list (pv 0) pe_int (fun _ _ => rfl)) pe_int) (pg_sub (pv 0) pe_int set_list))
      (pss_cons (ps_set (i := 3) sc_take.nd rfl (Or.inl rfl) (pe_op op_mod (pe_op op_pw (pe_callTy call_int1 (by rfl) i0 boot_int (pa_cons (pe_op op_add (pe_op op_add (pe_op op_mul (pe_op op_add (pe_ix ix_list (pv 0) pe_int (fun _ _ => rfl)) pe_int) pe_int)
          (pe_op op_mul (pe_ix ix_list (pv 0) pe_int (fun _ _ => rfl)) pe_int)) (pe_ix ix_list (pv 0) pe_int (fun _ _ => rfl))) pa_nil)) pe_int) pe_int))
      (pss_cons (ps_set (i := 3) sc_take.nd rfl (Or.inl rfl) (pe_op op_mod (pe_op op_pw (pe_callTy call_int1 (by rfl) i0 boot_int (pa_cons (pe_op op_add (pv 3) (pe_op op_mul (pe_ix ix_list (pv 0) pe_int (fun _ _ => rfl)) pe_int)) pa_nil)) pe_int) pe_int))
      (pss_one (ps_ret (pe_op op_mod (pe_callTy call_int1 (by rfl) i0 boot_int (pa_cons (pe_op op_fdiv (pv 3) pe_int) pa_nil)) (pv 1)))))))), ?_⟩
    refine ⟨_, rfl, b, _, _, _, rfl, rfl, SqL.of hb, rfl, _, _, rfl, rfl, ⟨by decide, by decide, by decide⟩, _, _, rfl, rfl, _, rfl, ?_⟩
    refine ite2 (fun c => ?_) (fun c => ?_)
    · refine ⟨_, rfl, b, _, _, _, rfl, rfl, SqL.of hb, rfl, .inl ⟨_, rfl, _, rfl, _, _, rfl, rfl, m0, ?_⟩⟩
      refine ⟨_, rfl, b, _, _, _, rfl, rfl, SqL.of hb, rfl, _, rfl, _, _, rfl, rfl, ⟨m0, by omega⟩, ?_⟩
      refine ⟨_, rfl, b, _, _, 0, rfl, rfl, hb, rfl, _, rfl, ?_⟩
      have d0 : 0 ≤ x % m := Int.emod_nonneg x (by omega)
      have d1 : x % m < m := Int.emod_lt_of_pos x m0
      have q0 : 0 ≤ x / m := Int.ediv_nonneg x0 (by omega)
      have q1 : x / m ≤ x := Int.ediv_le_self m x0
      exact k (x % m) (x / m) y d0 d1 q0 q1 (by omega) (by omega)
    · have c' : x < 10 ^ 18 := by simpa using c
      refine ⟨_, rfl, b, _, _, _, rfl, rfl, SqL.of hb, rfl, _, _, rfl, rfl, ?_⟩
      refine ⟨_, rfl, b, _, _, 1, rfl, rfl, hb, rfl, ?_⟩
      have h1 : upd H b (.lst (([V.int x, V.int y, V.int z] : List V).set 1 (V.int (y + 1)))) b = some (.lst [.int x, .int (y + 1), .int z]) := upd_same
      refine ⟨_, rfl, b, _, _, _, rfl, rfl, SqL.of h1, rfl, _, _, rfl, rfl, _, _, rfl, rfl, .inr ⟨by decide, by decide⟩, _, rfl, b, _, _, _, rfl, rfl, SqL.of h1, rfl, _, _, rfl, rfl, .inr ⟨by decide, by decide⟩, _, _, rfl, rfl, _, rfl, b, _, _, _, rfl, rfl, SqL.of h1, rfl, _, _, rfl, rfl, .inl ⟨_, rfl, _, _, rfl, rfl, pw_ok (by omega) (by omega), _, _, rfl, rfl, (by show (0 : Int) < 2147483647; decide), ?_⟩⟩
      refine ⟨_, rfl, _, rfl, b, _, _, _, rfl, rfl, SqL.of h1, rfl, _, _, rfl, rfl, .inr ⟨by decide, by decide⟩, _, _, rfl, rfl, .inl ⟨_, rfl, _, _, rfl, rfl, ?_, _, _, rfl, rfl, (by show (0 : Int) < 2147483399; decide), ?_⟩⟩
      · have a0 := Int.emod_nonneg (((x + 7) * 69069 + (y + 1) * 40692 + z) ^ Int.toNat 3) (show (2147483647 : Int) ≠ 0 by decide)
        have a1 := Int.emod_lt_of_pos (((x + 7) * 69069 + (y + 1) * 40692 + z) ^ Int.toNat 3) (show (0 : Int) < 2147483647 by decide)
        exact pw_ok (by omega) (by omega)
      · refine ⟨_, rfl, _, _, rfl, rfl, ⟨by decide, by decide⟩, .inl ⟨_, rfl, _, rfl, _, _, rfl, rfl, m0, ?_⟩⟩
        exact k _ x (y + 1) (Int.emod_nonneg _ (by omega)) (Int.emod_lt_of_pos _ m0) x0 (Int.le_refl x) (by omega) (by omega)
end
end K1

set_option Elab.async false
set_option linter.all false
set_option maxRecDepth 100000
set_option maxHeartbeats 4000000
/-! ## values of the menu; what inverse answers -/
namespace K1
open PySem PySem.Spec PyProof.Rows L2 VX
/-- a value that the law draws -/
inductive Menu (H : Hp) : V → Prop where
  | sa : Menu H (.str "a")
  | se : Menu H (.str "")
  | i0 : Menu H (.int 0)
  | i3 : Menu H (.int (-3))
  | ib : Menu H (.int (10 ^ 30))
  | non : Menu H .non
  | bl (b : Bool) : Menu H (.bl b)
  | t12 {a : Addr} (h : H a = some (.tup [.int 1, .int 2])) : Menu H (.ref a)
  | tb {a : Addr} (h : H a = some (.tup [.str "b"])) : Menu H (.ref a)
  | lx {a : Addr} (h : H a = some (.lst [.str "x"])) : Menu H (.ref a)
  | dk {a : Addr} (h : H a = some (.dK [(Sum.inr "k", .int 1)])) : Menu H (.ref a)
def Box (H : Hp) (b : Addr) (x y z : Int) : Prop := H b = some (.lst [.int x, .int y, .int z])
/-- all but the box is kept -/
def Kept (b : Addr) (H H' : Hp) : Prop := ∀ c o, H c = some o → c ≠ b → H' c = some o
theorem Menu.kept {H H' : Hp} {b : Addr} {x y z : Int} {v : V} (m : Menu H v) (hb : Box H b x y z) (k : Kept b H H') : Menu H' v := by
  cases m with
  | sa => exact .sa
  | se => exact .se
  | i0 => exact .i0
  | i3 => exact .i3
  | ib => exact .ib
  | non => exact .non
  | bl b => exact .bl b
  | t12 h => exact .t12 (k _ _ h (ne_of h hb (by intro z; cases z)))
  | tb h => exact .tb (k _ _ h (ne_of h hb (by intro z; cases z)))
  | lx h => exact .lx (k _ _ h (ne_of h hb (by intro z; cases z)))
  | dk h => exact .dk (k _ _ h (ne_of h hb (by intro z; cases z)))
theorem Menu.same {H H' : Hp} {v : V} (m : Menu H v) (k : Same H H') : Menu H' v := by
  cases m with
  | sa => exact .sa
  | se => exact .se
  | i0 => exact .i0
  | i3 => exact .i3
  | ib => exact .ib
  | non => exact .non
  | bl b => exact .bl b
  | t12 h => exact .t12 (k _ _ h)
  | tb h => exact .tb (k _ _ h)
  | lx h => exact .lx (k _ _ h)
  | dk h => exact .dk (k _ _ h)
theorem Menu.one {H : Hp} {v : V} (m : Menu H v) : OneV v := by
  cases m
  all_goals first | exact .inl rfl | exact .inr ⟨_, rfl⟩
theorem Menu.ty {K : PySem.W.Frag} {H : Hp} {v : V} (m : Menu H v) : ∃ t b, TyX K H v t ∧ PySem.W.kitOne K t (.type "bool") = some b := by
  cases m with
  | sa => exact ⟨_, false, .base (.str _), kit_ty (by decide +kernel)⟩
  | se => exact ⟨_, false, .base (.str _), kit_ty (by decide +kernel)⟩
  | i0 => exact ⟨_, false, .base (.int _), kit_ty (by decide +kernel)⟩
  | i3 => exact ⟨_, false, .base (.int _), kit_ty (by decide +kernel)⟩
  | ib => exact ⟨_, false, .base (.int _), kit_ty (by decide +kernel)⟩
  | non => exact ⟨_, false, .base .non, kit_ty (by decide +kernel)⟩
  | bl b => exact ⟨_, true, .base (.bl _), kit_ty (by decide +kernel)⟩
  | t12 h => exact ⟨_, false, .base (.tup h), kit_ty (by decide +kernel)⟩
  | tb h => exact ⟨_, false, .base (.tup h), kit_ty (by decide +kernel)⟩
  | lx h => exact ⟨_, false, .base (.lst h), kit_ty (by decide +kernel)⟩
  | dk h => exact ⟨_, false, .base (.dK h), kit_ty (by decide +kernel)⟩
theorem Menu.shown {K : PySem.W.Frag} {H : Hp} {v : V} (m : Menu H v) : ∃ d, Shown K H v d := by
  cases m with
  | sa => exact ⟨_, .dp (.str _), by decide +kernel, by decide +kernel, by decide +kernel⟩
  | se => exact ⟨_, .dp (.str _), by decide +kernel, by decide +kernel, by decide +kernel⟩
  | i0 => exact ⟨_, .dp (.int _), by decide +kernel, by decide +kernel, by decide +kernel⟩
  | i3 => exact ⟨_, .dp (.int _), by decide +kernel, by decide +kernel, by decide +kernel⟩
  | ib => exact ⟨_, .dp (.int _), by decide +kernel, by decide +kernel, by decide +kernel⟩
  | non => exact ⟨_, .dp .non, by decide +kernel, by decide +kernel, by decide +kernel⟩
  | bl b => exact ⟨_, .dp (.bl b), by cases b <;> decide +kernel, by cases b <;> decide +kernel, by cases b <;> decide +kernel⟩
  | t12 h => exact ⟨_, .dp (.tup (SqT.of h) (.cons (.int 1) (.cons (.int 2) .nil))), by decide +kernel, by decide +kernel, by decide +kernel⟩
  | tb h => exact ⟨_, .dp (.tup (SqT.of h) (.cons (.str "b") .nil)), by decide +kernel, by decide +kernel, by decide +kernel⟩
  | lx h => exact ⟨_, .dp (.lst (SqL.of h) (.cons (.str "x") .nil)), by decide +kernel, by decide +kernel, by decide +kernel⟩
  | dk h => exact ⟨_, .dk h, by decide +kernel, by decide +kernel, by decide +kernel⟩
section
variable {P : Program} {w : World} {K : PySem.W.Frag} {mg : Str → Option Value} {base : Heap} {f : Addr} {fd : FuncData}
/-! ### _law_same -/
def spSame : Sp := fun vs H Q _ => ∃ v : V, vs = [v, v] ∧ Menu H v ∧ Q (.bl true) H
theorem sc_same : FnScope ["_law_one", "_law_other"] ["_law_one", "_law_other"] (defScope (top 36)) := ⟨rfl, rfl, rfl, by decide +kernel, rfl, by decide +kernel, by decide +kernel⟩
theorem ok_same (F : FnP K "_law_same" 36 f fd) (T : Txt K mg) : GFn P w K mg base 1 f fd ["_law_one", "_law_other"] spSame := by
  refine GFn.of F sc_same (fun {vs H Q E} h => ?_) (fun cdv A outer s H vs Q E hg hr h => ?_)
  · obtain ⟨v, rfl, _⟩ := h
    rfl
  · obtain ⟨v, rfl, m, k⟩ := h
    have i0 := T.free "isinstance" (by decide +kernel)
    have i1 := T.free "bool" (by decide +kernel)
    have i2 := T.free "repr" (by decide +kernel)
    have hu := hr.units
    refine ⟨_, (pss_one (ps_ret (pe_and (pe_cmpR op_eq (pe_callB (call_repr hg hu) (by rfl) i2 (by decide +kernel) (pa_cons (pv 0) pa_nil)) (pe_callB (call_repr hg hu) (by rfl) i2 (by decide +kernel) (pa_cons (pv 1) pa_nil)) (nomark _))
      (pe_one (pe_cmpR op_eq (pe_callB call_isi (by rfl) i0 (by decide +kernel) (pa_cons (pv 0) (pa_cons (pe_bltn (v := .ty "bool") (by rfl) i1 (by decide +kernel) rfl) pa_nil)))
        (pe_callB call_isi (by rfl) i0 (by decide +kernel) (pa_cons (pv 1) (pa_cons (pe_bltn (v := .ty "bool") (by rfl) i1 (by decide +kernel) rfl) pa_nil))) (nomark _)))))), ?_⟩
    obtain ⟨d, sh⟩ := m.shown (K := K)
    obtain ⟨t, b, ty, kb⟩ := m.ty (K := K)
    refine ⟨_, rfl, v, d, rfl, sh, _, rfl, v, d, rfl, sh, rfl, _, rfl, ?_⟩
    rw [decide_eq_true (rfl : V.str d.shown = V.str d.shown)]
    refine iteT ⟨_, rfl, v, .ty "bool", t, _, b, rfl, .ty _, ty, kb, _, rfl, v, .ty "bool", t, _, b, rfl, .ty _, ty, kb, rfl, ?_⟩
    have e : decide (V.bl b = V.bl b) = true := decide_eq_true rfl
    show Q (.bl (decide (V.bl b = V.bl b))) H
    rw [e]
    exact k
/-! ### _law_values -/
theorem atI_ex {xs : List V} {d : Int} (h0 : 0 ≤ d) (h1 : d < xs.length) : ∃ v, atI xs d = some v ∧ v ∈ xs := by
  have hl : d.toNat < xs.length := by omega
  refine ⟨xs[d.toNat], ?_, List.getElem_mem hl⟩
  have e : ((d.toNat : Nat) : Int) = d := Int.toNat_of_nonneg h0
  have q := atI_nat (xs := xs) (j := d.toNat) (List.getElem?_eq_getElem hl)
  rwa [e] at q
theorem same_new {H : Hp} {a : Addr} {o : HO} (h : H a = none) : Same H (upd H a o) := fun c u e => by
  rw [upd_ne (ne_of_none e h)]
  exact e
theorem kept_box {H : Hp} {b : Addr} {o : HO} : Kept b H (upd H b o) := fun c u e n => by
  rw [upd_ne n]
  exact e
theorem Kept.of {H H' : Hp} {b : Addr} (k : Same H H') : Kept b H H' := fun c o e _ => k c o e
theorem Kept.trans {H H' H'' : Hp} {b : Addr} (k : Kept b H H') (q : Kept b H' H'') : Kept b H H'' := fun c o e n => q c o (k c o e n) n
def spVals : Sp := fun vs H Q _ => ∃ (b : Addr) (x y z : Int), vs = [.ref b] ∧ Box H b x y z ∧ 0 ≤ x ∧ 0 ≤ y ∧ y ≤ 1000 ∧ 0 ≤ z ∧ z ≤ 100000000 ∧
  ∀ (p : Addr) (v u : V) (H' : Hp) (x' y' : Int), H' p = some (.lst [v, u]) → Menu H' v → Menu H' u → Box H' b x' y' z → 0 ≤ x' → x' ≤ x → y ≤ y' → y' ≤ y + 2 → Kept b H H' → Q (.ref p) H'
theorem sc_vals : FnScope ["_law_box_here", "_law_a", "_law_b"] ["_law_box_here"] (defScope (top 35)) := ⟨rfl, rfl, rfl, by decide +kernel, rfl, by decide +kernel, by decide +kernel⟩
theorem ok_vals {fd1 : FuncData} (F : FnP K "_law_values" 35 f fd) (T : Txt K mg) (F1 : FnP K "_law_take" 34 (He.ga K "_law_take") fd1) : FnOk P w K mg base CX0 2 f fd ["_law_box_here"] spVals := by
  have G1 : FnOk P w K mg base CX0 1 _ fd1 ["_law_box_here", "_law_many"] spTake := ok_take F1 T
  have B1 : Binds K fd1 ["_law_box_here", "_law_many"] [] := F1.bindsN fun _ _ _ _ _ _ us hl => match us, hl with | [_, _], _ => rfl
  refine F.ok sc_vals (fun vs H Q E h => ?_) (fun cdv A outer s H vs Q E hr h => ?_)
  · obtain ⟨b, x, y, z, rfl, _⟩ := h
    rfl
  · obtain ⟨b, x, y, z, rfl, hb, x0, y0, y1, z0, z1, k⟩ := h
    have gT := T.dfs ("_law_take", 34) (by decide +kernel)
    refine ⟨_, PSs.nox (pss_cons (ps_set (i := 1) sc_vals.nd rfl (Or.inl rfl) (pe_ix ix_list (pe_lst (pa_cons pe_str (pa_cons pe_int (pa_cons pe_non (pa_cons (pe_un un_neg pe_int) (pa_cons (pe_tup (pa_cons pe_int (pa_cons pe_int pa_nil))) (pa_cons (pe_lst (pa_cons pe_str pa_nil)) (pa_cons pe_bl pa_nil))))))))
          (pe_call G1 hr (by rfl) gT F1.kp B1 .nil pass0 (pa_cons (pv 0) (pa_cons pe_int pa_nil))) (fun _ _ => rfl)))
      (pss_cons (ps_set (i := 2) sc_vals.nd rfl (Or.inl rfl) (pe_ix ix_list (pe_lst (pa_cons (pe_disp (pps_cons pe_str pe_int pps_nil) (by rfl) (by rfl) (fun z => by cases z) (by decide)) (pa_cons (pe_op op_pow pe_int pe_int) (pa_cons pe_str (pa_cons (pe_tup (pa_cons pe_str pa_nil)) (pa_cons pe_bl pa_nil))))))
          (pe_call G1 hr (by rfl) gT F1.kp B1 .nil pass0 (pa_cons (pv 0) (pa_cons pe_int pa_nil))) (fun _ _ => rfl)))
      (pss_one (ps_ret (pe_lst (pa_cons (pv 1) (pa_cons (pv 2) pa_nil))))))), ?_⟩
    refine ⟨_, rfl, (by show 2 ≤ sizeLine; decide), fun t ht => ?_⟩
    refine ⟨(by show 1 ≤ sizeLine; decide), fun l hl => ⟨(by show 7 ≤ sizeLine; decide), fun L hL => ?_⟩⟩
    have s1 := same_new (o := .tup [.int 1, .int 2]) ht
    have s2 := same_new (o := .lst [.str "x"]) hl
    have s3 := same_new (o := .lst [.str "a", .int 0, .non, .int (-3), .ref t, .ref l, .bl true]) hL
    have sA := (s1.trans s2).trans s3
    have bA := sA _ _ hb
    have tA := s3 _ _ (s2 _ _ (upd_same (H := H) (a := t) (o := .tup [.int 1, .int 2])))
    have lA := s3 _ _ (upd_same (H := upd H t (.tup [.int 1, .int 2])) (a := l) (o := .lst [.str "x"]))
    have LA := upd_same (H := upd (upd H t (.tup [.int 1, .int 2])) l (.lst [.str "x"])) (a := L) (o := .lst [.str "a", .int 0, .non, .int (-3), .ref t, .ref l, .bl true])
    refine ⟨_, rfl, b, 7, x, y, z, rfl, bA, x0, y0, by omega, z0, z1, by decide, by decide, fun d x1 w1 d0 d1 g0 g1 g2 g3 => ?_⟩
    have kB := kept_box (H := upd (upd (upd H t (.tup [.int 1, .int 2])) l (.lst [.str "x"])) L (.lst [.str "a", .int 0, .non, .int (-3), .ref t, .ref l, .bl true])) (b := b) (o := .lst [.int x1, .int w1, .int z])
    have LB := kB _ _ LA (ne_of LA bA (by intro z; cases z))
    obtain ⟨v, ev, mv⟩ := atI_ex (xs := [.str "a", .int 0, .non, .int (-3), .ref t, .ref l, .bl true]) d0 (by simpa using d1)
    refine ⟨L, _, _, v, rfl, rfl, SqL.of LB, ev, ?_⟩
    have m1 : Menu _ v := Menu.kept (by
      simp only [List.mem_cons, List.not_mem_nil, or_false] at mv
      rcases mv with rfl | rfl | rfl | rfl | rfl | rfl | rfl
      · exact .sa
      · exact .i0
      · exact .non
      · exact .i3
      · exact .t12 tA
      · exact .lx lA
      · exact .bl _) bA kB
    have bB := upd_same (H := upd (upd (upd H t (.tup [.int 1, .int 2])) l (.lst [.str "x"])) L (.lst [.str "a", .int 0, .non, .int (-3), .ref t, .ref l, .bl true])) (a := b) (o := .lst [.int x1, .int w1, .int z])
    have kHB : Kept b H _ := (Kept.of sA).trans kB
    revert kB LB m1 bB kHB
    generalize upd (upd (upd (upd H t (.tup [.int 1, .int 2])) l (.lst [.str "x"])) L (.lst [.str "a", .int 0, .non, .int (-3), .ref t, .ref l, .bl true])) b (.lst [.int x1, .int w1, .int z]) = HB
    intro kB LB m1 bB kHB
    intro dd hd
    refine ⟨upd_same, [(Sum.inr "k", .int 1)], rfl, by decide, _, _, rfl, rfl, ⟨by decide, by decide, by decide⟩, (by show 1 ≤ sizeLine; decide), fun t2 ht2 => ⟨(by show 5 ≤ sizeLine; decide), fun L2 hL2 => ?_⟩⟩
    rw [upd_upd] at ht2 hL2 ⊢
    have em : mergeK [] [((Sum.inr "k" : Key), V.int 1)] = [((Sum.inr "k" : Key), V.int 1)] := by decide +kernel
    rw [em] at ht2 hL2 ⊢
    have r1 := same_new (o := .dK [(Sum.inr "k", .int 1)]) hd
    have r2 := same_new (o := .tup [.str "b"]) ht2
    have r3 := same_new (o := .lst [.ref dd, .int (10 ^ 30), .str "", .ref t2, .bl false]) hL2
    have sC := (r1.trans r2).trans r3
    have bC := sC _ _ bB
    have dC := r3 _ _ (r2 _ _ (upd_same (H := HB) (a := dd) (o := .dK [(Sum.inr "k", .int 1)])))
    have tC' := r3 _ _ (upd_same (H := upd HB dd (.dK [(Sum.inr "k", .int 1)])) (a := t2) (o := .tup [.str "b"]))
    have LC := upd_same (H := upd (upd HB dd (.dK [(Sum.inr "k", .int 1)])) t2 (.tup [.str "b"])) (a := L2) (o := .lst [.ref dd, .int (10 ^ 30), .str "", .ref t2, .bl false])
    refine ⟨_, rfl, b, 5, x1, w1, z, rfl, bC, g0, by omega, by omega, z0, z1, by decide, by decide, fun d' x2 w2 d0' d1' g0' g1' g2' g3' => ?_⟩
    have kD := kept_box (H := upd (upd (upd HB dd (.dK [(Sum.inr "k", .int 1)])) t2 (.tup [.str "b"])) L2 (.lst [.ref dd, .int (10 ^ 30), .str "", .ref t2, .bl false])) (b := b) (o := .lst [.int x2, .int w2, .int z])
    have LD := kD _ _ LC (ne_of LC bC (by intro z; cases z))
    obtain ⟨u, eu, mu⟩ := atI_ex (xs := [.ref dd, .int (10 ^ 30), .str "", .ref t2, .bl false]) d0' (by simpa using d1')
    refine ⟨L2, _, _, u, rfl, rfl, SqL.of LD, eu, ?_⟩
    have m2 : Menu _ u := Menu.kept (by
      simp only [List.mem_cons, List.not_mem_nil, or_false] at mu
      rcases mu with rfl | rfl | rfl | rfl | rfl
      · exact .dk dC
      · exact .ib
      · exact .se
      · exact .tb tC'
      · exact .bl _) bC kD
    have m1' : Menu _ v := (m1.same sC).kept bC kD
    have kHD := (kHB.trans (Kept.of sC)).trans kD
    refine ⟨_, rfl, _, rfl, (by show 2 ≤ sizeLine; decide), fun p hp => ?_⟩
    have sE := same_new (o := .lst [v, u]) hp
    exact k p v u _ x2 w2 upd_same (m1'.same sE) (m2.same sE) (sE _ _ upd_same) g0' (by omega) (by omega) (by omega) (kHD.trans (Kept.of sE))
/-! ### _law_fails -/
def spFails (K : PySem.W.Frag) : Sp := fun vs H Q _ => ∃ (n : Int) (v : V) (t : Value) (a b : Bool), vs = [.int n, v] ∧ TyX K H v t ∧ PySem.W.kitOne K t (.type "int") = some a ∧ PySem.W.kitOne K t (.type "bool") = some b ∧
  ((a && !b) = true → ∃ p, v = .int p ∧ (isP p = false → ∀ q H', Same H H' → H q = none → H' q = some (.lst [.str "prime", v]) → Q (.ref q) H') ∧
    (isP p = true → n % p = 0 ∧ ∀ q H', Same H H' → H q = none → H' q = some (.lst [.str "number", .int n]) → Q (.ref q) H')) ∧
  ((a && !b) = false → ∀ q H', Same H H' → H q = none → H' q = some (.lst [.str "prime", v]) → Q (.ref q) H')
theorem sc_fails : FnScope ["_law_count", "_law_p", "_law_e"] ["_law_count", "_law_p"] (defScope (top 40)) := ⟨rfl, rfl, rfl, by decide +kernel, rfl, by decide +kernel, by decide +kernel⟩
theorem ok_fails {fdI : FuncData} (F : FnP K "_law_fails" 40 f fd) (T : Txt K mg) (GI : FnOk P w K mg base (L2.CX P w) 4 (He.ga K "inverse") fdI ["number", "prime"] (spInv K)) (FI : FnP K "inverse" 30 (He.ga K "inverse") fdI) : FnOk P w K mg base CX0 5 f fd ["_law_count", "_law_p"] (spFails K) := by
  have BI : Binds K fdI ["number", "prime"] [] := FI.bindsN fun _ _ _ _ _ _ us hl => match us, hl with | [_, _], _ => rfl
  have xB := T.exf "BadPrime" (by decide +kernel)
  have xN := T.exf "NoInverse" (by decide +kernel)
  have iB := T.inf ("BadPrime", "told", 2) (by decide +kernel)
  have iN := T.inf ("NoInverse", "number", 3) (by decide +kernel)
  refine F.ok sc_fails (fun vs H Q E h => ?_) (fun cdv A outer s H vs Q E hr h => ?_)
  · obtain ⟨n, v, t, a, b, rfl, _⟩ := h
    rfl
  · obtain ⟨n, v, t, a, b, rfl, ht, ha, hb, k1, k2⟩ := h
    refine ⟨_, (pss_cons (ps_try_named (n := "_law_e") (i := 2) (Wout := fun _ _ _ _ => False) rfl rfl sc_fails.nd rfl rfl takes0
        (fun W pn xe tk _ => pss_one (ps_expr (pe_callS GI hr (by rfl) (T.dfs ("inverse", 30) (by decide +kernel)) FI.kp BI (fun σ => passAt tk σ) (pa_cons (pv 0) (pa_cons (pv 1) pa_nil)))))
        (.cons ⟨rfl, by decide, .inl (T.err "BadPrime" (by decide +kernel))⟩ (fun a oe cls d pn hz hf => pss_one (ps_ret (pe_lst (pa_cons pe_str (pa_cons (pe_xf xB.xf iB.no hz hf (pv 2)) pa_nil)))))
        (.cons ⟨rfl, by decide, .inl (T.err "NoInverse" (by decide +kernel))⟩ (fun a oe cls d pn hz hf => pss_one (ps_ret (pe_lst (pa_cons pe_str (pa_cons (pe_xf xN.xf iN.no hz hf (pv 2)) pa_nil))))) .nil)))
      (pss_one (ps_ret (pe_lst pa_nil)))), ?_⟩
    have bad : ∀ {W : WX} (D : Ends), (∀ q H', Same H H' → H q = none → H' q = some (.lst [.str "prime", v]) → D.rt (.ref q) H') → ∀ d, H d = none →
        wNamed K 2 W D [(Value.ref (He.ga K "BadPrime"), fun a cls d => tRet (tLst (tCons (tC (V.str "prime")) (tCons (tXf a cls d (He.ga K "BadPrime") "told" (tVar 2)) tNil)))),
          (Value.ref (He.ga K "NoInverse"), fun a cls d => tRet (tLst (tCons (tC (V.str "number")) (tCons (tXf a cls d (He.ga K "NoInverse") "number" (tVar 2)) tNil))))]
          (.ref (He.ga K "BadPrime")) (some d) [some (.int n), some v, none] (upd H d (.xd [("told", v)])) := by
      intro W D k d hd
      refine ⟨true, T.pp, fun _ a0 _ => ?_, fun q => nomatch q⟩
      refine ⟨_, rfl, rfl, rfl, d, _, v, rfl, upd_same, by simp [List.lookup], (by show 2 ≤ sizeLine; decide), fun q hq => ?_⟩
      have s1 := same_new (o := .xd [("told", v)]) hd
      exact k q _ (s1.trans (same_new hq)) (s1.free hq) upd_same
    refine ⟨_, rfl, _, rfl, n, v, t, a, b, rfl, ht, ha, hb, fun e => ?_, fun e d hd => bad { nx := _, rt := Q } (k2 e) d hd⟩
    obtain ⟨p, rfl, c1, c2⟩ := k1 e
    refine ⟨p, rfl, fun hp d hd => bad { nx := _, rt := Q } (c1 hp) d hd, fun hp h0 d hd => ?_, fun hp h0 => absurd (c2 hp).1 h0⟩
    refine ⟨false, T.np, (fun q => nomatch q), fun _ => ⟨true, T.nn, fun _ a0 _ => ?_, (fun q => nomatch q)⟩⟩
    refine ⟨_, rfl, rfl, rfl, d, _, .int n, rfl, upd_same, by simp [List.lookup], (by show 2 ≤ sizeLine; decide), fun q hq => ?_⟩
    have s1 := same_new (o := .xd [("number", V.int n)]) hd
    exact (c2 hp).2 q _ (s1.trans (same_new hq)) (s1.free hq) upd_same
end
end K1

set_option Elab.async false
set_option linter.all false
set_option maxRecDepth 100000
set_option maxHeartbeats 4000000
/-! ## errors made and read -/
namespace K1
open PySem PySem.Spec PyProof.Rows L2 VX
theorem PE.imp {X : Cx} {e : Expr} {t t' : TE} (he : PE X e t) (k : ∀ σ H Q, t' σ H Q → t σ H Q) : PE X e t' := ⟨fun pins s σ H Q I h => he.run pins s σ H Q I (k σ H Q h)⟩
/-- a reading that may be weakened -/
def tM (te : TE) : TE := fun σ H Q => ∃ Q0 : VK, te σ H Q0 ∧ ∀ v H1, Q0 v H1 → Q v H1
theorem PE.m {X : Cx} {e : Expr} {te : TE} (he : PE X e te) : PE X e (tM te) := by
  refine ⟨fun pins s σ H Q I ⟨Q0, h, k⟩ => thn (he.run pins s σ H Q0 I h) fun u s1 ⟨v, H1, J, r, q⟩ => ⟨v, H1, J, r, k v H1 q⟩⟩
/-- an error's __init__: its promise, its arguments by place and by name -/
def IniOk (P : Program) (w : World) (K : PySem.W.Frag) (mg : Str → Option Value) (base : Heap) (x g : Str) : Prop := ∃ fd, FnOk P w K mg base CX0 1 (He.ma K (He.ga K x) "__init__") fd ["self", g] (spIni K (He.ga K x) g) ∧ Binds K fd ["self", g] [] ∧
  ∀ (s : Shared) (u v : Value), K.In s.heap → BindsTo s fd ⟨[u], [(g, v)]⟩ [("self", u), (g, v)]
/-- the value, whatever was laid meanwhile -/
def tKeep (te : TE) : TE := fun σ H Q => te σ H fun v H1 => ∀ H2, Same H1 H2 → Q v H2
/-- an error of the class named x stands at a -/
def Err (K : PySem.W.Frag) (H : Hp) (a : Addr) (x : Str) : Prop := x ∈ errs ∧ ∃ d, H a = some (ExD (.ref (He.ga K x)) d a) ∧ ∀ dd, d = some dd → ∃ o, H dd = some o
theorem Err.same {K : PySem.W.Frag} {H H' : Hp} {a : Addr} {x : Str} (e : Err K H a x) (s : Same H H') : Err K H' a x := by
  obtain ⟨m, d, h, k⟩ := e
  refine ⟨m, d, s _ _ h, fun dd e => ?_⟩
  obtain ⟨o, ho⟩ := k dd e
  exact ⟨o, s _ _ ho⟩
def tErr (K : PySem.W.Frag) (x : Str) (te : TE) : TE := fun σ H Q => te σ H fun _ H1 => ∀ a H2, Same H1 H2 → Err K H2 a x → Q (.ref a) H2
def tErr0 (K : PySem.W.Frag) (x : Str) : TE := fun _ H Q => ∀ a H2, Same H H2 → Err K H2 a x → Q (.ref a) H2
def wGet (K : PySem.W.Frag) (g : Str) (Q : VK) : XK := fun cls d H1 => ∃ (C dd : Addr) (fs : List (Str × V)) (v : V), cls = .ref C ∧ d = some dd ∧ XfC K C ∧ PySem.W.findIn K (.ref C) g = some none ∧ H1 dd = some (.xd fs) ∧ fs.lookup g = some v ∧ Q v H1
def wVal (Q : VK) : XK := fun cls d H1 => ∀ a, H1 a = none → Q (.ref a) (upd H1 a (ExD cls d a))
section
variable {X : Cx} {x g : Str} {i : Nat} {e : Expr} {te : TE} {p kp pos pos2 : Pos}
theorem in_errs (m : (x, g, i) ∈ withF) : x ∈ errs := List.mem_append_left _ (List.mem_map.mpr ⟨_, m, rfl⟩)
/-- C(e).g -/
theorem pe_cf (T : Txt X.K X.mg) (A : IniOk X.prog X.w X.K X.mg X.base x g) (m : (x, g, i) ∈ withF) (hr : Room 2 X.A) (he : PE X e te) (hg : Gl X x := by rfl) (hdb : (x == ("__debug__" : Str)) = false := by decide)
    (hs : starEach [e] X.env = (false, eval e X.env) :: starEach [] X.env := by rfl) (hpl : (backTo pos (starEach [] X.env)).any (·.1) = false := by rfl) (hb : attributeBase (.Call (.Name x p) [e] [] pos) g X.env (eval (.Call (.Name x p) [e] [] pos) X.env) = eval (.Call (.Name x p) [e] [] pos) X.env := by rfl) :
    PE X (.Attribute (.Call (.Name x p) [e] [] pos) g pos2) (tKeep te) := by
  obtain ⟨fd, F, B, _⟩ := A
  have I := T.inf _ m
  have xf := (T.exf x (in_errs m)).xf
  refine PE.imp (pe_exGet (pmk_oex I.oe I.ini I.fn F hr B .nil pass0 hg (T.err x (in_errs m)) (pa_cons (PE.m he) pa_nil hs) hdb hs hpl) hb) (fun σ H Q h => ⟨_, h, fun v H1 q => ⟨by show 1 ≤ 1000; decide, fun a ha => ?_⟩⟩)
  exact make_read (X := wGet X.K g Q) (fun d hd => ⟨_, d, _, v, rfl, rfl, xf, I.no, upd_same, by simp [List.lookup], q _ (same_new hd)⟩) a ha
/-- C(g = e).g -/
theorem pe_ck (T : Txt X.K X.mg) (A : IniOk X.prog X.w X.K X.mg X.base x g) (m : (x, g, i) ∈ withF) (hr : Room 2 X.A) (he : PE X e te) (hg : Gl X x := by rfl) (hdb : (x == ("__debug__" : Str)) = false := by decide)
    (hpl : ((backTo pos (starEach [] X.env)).any (·.1) || (backToKw pos (keywordEach [⟨some g, e, kp⟩] X.env)).any (·.1.isNone)) = false := by rfl)
    (hall : (backToKw pos (keywordEach [⟨some g, e, kp⟩] X.env)).all (·.1.isSome) = true := by rfl) (hks : (backToKw pos (keywordEach [⟨some g, e, kp⟩] X.env)).filterMap (·.1) = [g] := by rfl)
    (hb : attributeBase (.Call (.Name x p) [] [⟨some g, e, kp⟩] pos) g X.env (eval (.Call (.Name x p) [] [⟨some g, e, kp⟩] pos) X.env) = eval (.Call (.Name x p) [] [⟨some g, e, kp⟩] pos) X.env := by rfl) :
    PE X (.Attribute (.Call (.Name x p) [] [⟨some g, e, kp⟩] pos) g pos2) (tKeep te) := by
  obtain ⟨fd, F, _, B⟩ := A
  have I := T.inf _ m
  have xf := (T.exf x (in_errs m)).xf
  refine PE.imp (pe_exGet (pmk_oexK I.oe I.ini I.fn F hr B pass0 hg (T.err x (in_errs m)) (pk_cons (PE.m he) pk_nil) hdb hpl hall hks) hb) (fun σ H Q h => ⟨_, h, fun v H1 q => ⟨rfl, fun a ha => ?_⟩⟩)
  exact make_read (X := wGet X.K g Q) (fun d hd => ⟨_, d, _, v, rfl, rfl, xf, I.no, upd_same, by simp [List.lookup], q _ (same_new hd)⟩) a ha
/-- C(e), kept -/
theorem pe_cv (T : Txt X.K X.mg) (A : IniOk X.prog X.w X.K X.mg X.base x g) (m : (x, g, i) ∈ withF) (hr : Room 2 X.A) (he : PE X e te) (hg : Gl X x := by rfl) (hdb : (x == ("__debug__" : Str)) = false := by decide)
    (hs : starEach [e] X.env = (false, eval e X.env) :: starEach [] X.env := by rfl) (hpl : (backTo pos (starEach [] X.env)).any (·.1) = false := by rfl) : PE X (.Call (.Name x p) [e] [] pos) (tErr X.K x te) := by
  obtain ⟨fd, F, B, _⟩ := A
  have I := T.inf _ m
  refine PE.imp (pe_exV (pmk_oex I.oe I.ini I.fn F hr B .nil pass0 hg (T.err x (in_errs m)) (pa_cons (PE.m he) pa_nil hs) hdb hs hpl)) (fun σ H Q h => ⟨_, h, fun v H1 q => ⟨by show 1 ≤ 1000; decide, fun a ha => ?_⟩⟩)
  refine make_read (X := wVal Q) (fun d hd b hb => ?_) a ha
  have s1 := same_new (o := .xd [(g, v)]) hd
  exact q b _ (s1.trans (same_new hb)) ⟨in_errs m, some d, upd_same, fun dd e => by cases e; exact ⟨_, same_new hb _ _ upd_same⟩⟩
/-- C(), kept -/
theorem pe_pv (T : Txt X.K X.mg) (m : x ∈ plain) (hg : Gl X x := by rfl) (hdb : (x == ("__debug__" : Str)) = false := by decide) : PE X (.Call (.Name x p) [] [] pos) (tErr0 X.K x) := by
  have me : x ∈ errs := List.mem_append_right _ m
  have E := T.exf x me
  refine PE.imp (pe_exV (pmk_own0 PySem.F.excBase_ValueError (T.pln x m) (T.err x me) E.kp (raises_own E.xf.exC E.ty) hg hdb)) (fun σ H Q h a ha => ?_)
  exact h a _ (same_new ha) ⟨me, none, upd_same, fun dd e => nomatch e⟩
end
section
variable {P : Program} {w : World} {K : PySem.W.Frag} {mg : Str → Option Value} {base : Heap} {f : Addr} {fd : FuncData}
/-! ### the fifteen __init__ -/
theorem ini_pack {x g qual : Str} {pa : Arguments} {bd : List Stmt} {sc : Scope} {q1 q2 q3 q4 : Pos} (F : FunD K "__init__" qual pa bd sc [] [] (He.ma K (He.ga K x) "__init__") fd) (S : FnScope ["self", g] ["self", g] sc) (hb : bd = [.Assign [.Attribute (.Name "self" q1) g q2] (.Name g q3) q4]) (I : InF K (He.ga K x) g)
    (hd : (g == ("__debug__" : Str)) = false) (hc : (g == ("__classdict__" : Str)) = false)
    (b1 : ∀ (kV doc pm : Value) (an : Option Addr) (cdv ct : Value) (us : List Value), us.length = 2 → bindArgs (PySem.W.fnOf "__init__" qual pa bd sc .none kV doc pm an cdv ct) ⟨us, []⟩ = pure ((["self", g] : List Str).zip us))
    (b2 : ∀ (kV doc pm : Value) (an : Option Addr) (cdv ct u v : Value), bindArgs (PySem.W.fnOf "__init__" qual pa bd sc .none kV doc pm an cdv ct) ⟨[u], [(g, v)]⟩ = pure ([("self", u), (g, v)] : List (Str × Value))) : IniOk P w K mg base x g := by
  refine ⟨fd, ok_ini F S hb I hd hc, F.bindsN b1, fun s u v _ => ?_⟩
  obtain ⟨oc, od, dV, kV, doc, pm, an, cdv, ct, osl, rfl, lk, hcd, hD, hK⟩ := F.ex
  rcases hD with ⟨_, rfl⟩ | ⟨e, _⟩
  · exact .of_eq (b2 _ _ _ _ _ _ _ _)
  · exact absurd rfl e
theorem ini_all (c : He.SaysD fa fn K) (T : Txt K mg) : ∀ q ∈ withF, IniOk P w K mg base q.1 q.2.1 := by
  have D : ∀ q ∈ withF, ∃ fd, FunD K "__init__" (q.1 ++ ".__init__") (defArgs (sI q.2.2)) (defBody (sI q.2.2)) (defScope (sI q.2.2)) [] [] (He.ma K (He.ga K q.1) "__init__") fd := fun q hq => by
    obtain ⟨i, hi, e⟩ := List.mem_iff_getElem.mp (show dI q ∈ fn from List.mem_append_left _ (List.mem_map.mpr ⟨q, hq, rfl⟩))
    exact c.def_ i (d := dI q) (by rw [List.getElem?_eq_getElem hi, e])
  intro q hq
  have hq' := hq
  simp only [withF, List.mem_cons, List.not_mem_nil, or_false] at hq'
  rcases hq' with rfl | rfl | rfl | rfl | rfl | rfl | rfl | rfl | rfl | rfl | rfl | rfl | rfl | rfl | rfl
  · obtain ⟨fd, F⟩ := D ("BadPrime", "told", 2) hq
    exact ini_pack F ⟨rfl, rfl, rfl, by decide +kernel, rfl, by decide +kernel, by decide +kernel⟩ rfl (T.inf ("BadPrime", "told", 2) hq) (by decide) (by decide) (fun _ _ _ _ _ _ us hl => match us, hl with | [_, _], _ => rfl) (fun _ _ _ _ _ _ _ _ => rfl)
  · obtain ⟨fd, F⟩ := D ("NoInverse", "number", 3) hq
    exact ini_pack F ⟨rfl, rfl, rfl, by decide +kernel, rfl, by decide +kernel, by decide +kernel⟩ rfl (T.inf ("NoInverse", "number", 3) hq) (by decide) (by decide) (fun _ _ _ _ _ _ us hl => match us, hl with | [_, _], _ => rfl) (fun _ _ _ _ _ _ _ _ => rfl)
  · obtain ⟨fd, F⟩ := D ("BadLength", "told", 4) hq
    exact ini_pack F ⟨rfl, rfl, rfl, by decide +kernel, rfl, by decide +kernel, by decide +kernel⟩ rfl (T.inf ("BadLength", "told", 4) hq) (by decide) (by decide) (fun _ _ _ _ _ _ us hl => match us, hl with | [_, _], _ => rfl) (fun _ _ _ _ _ _ _ _ => rfl)
  · obtain ⟨fd, F⟩ := D ("BadVector", "vector", 5) hq
    exact ini_pack F ⟨rfl, rfl, rfl, by decide +kernel, rfl, by decide +kernel, by decide +kernel⟩ rfl (T.inf ("BadVector", "vector", 5) hq) (by decide) (by decide) (fun _ _ _ _ _ _ us hl => match us, hl with | [_, _], _ => rfl) (fun _ _ _ _ _ _ _ _ => rfl)
  · obtain ⟨fd, F⟩ := D ("BadSign", "told", 10) hq
    exact ini_pack F ⟨rfl, rfl, rfl, by decide +kernel, rfl, by decide +kernel, by decide +kernel⟩ rfl (T.inf ("BadSign", "told", 10) hq) (by decide) (by decide) (fun _ _ _ _ _ _ us hl => match us, hl with | [_, _], _ => rfl) (fun _ _ _ _ _ _ _ _ => rfl)
  · obtain ⟨fd, F⟩ := D ("BadColumn", "column", 11) hq
    exact ini_pack F ⟨rfl, rfl, rfl, by decide +kernel, rfl, by decide +kernel, by decide +kernel⟩ rfl (T.inf ("BadColumn", "column", 11) hq) (by decide) (by decide) (fun _ _ _ _ _ _ us hl => match us, hl with | [_, _], _ => rfl) (fun _ _ _ _ _ _ _ _ => rfl)
  · obtain ⟨fd, F⟩ := D ("BadOrder", "order", 12) hq
    exact ini_pack F ⟨rfl, rfl, rfl, by decide +kernel, rfl, by decide +kernel, by decide +kernel⟩ rfl (T.inf ("BadOrder", "order", 12) hq) (by decide) (by decide) (fun _ _ _ _ _ _ us hl => match us, hl with | [_, _], _ => rfl) (fun _ _ _ _ _ _ _ _ => rfl)
  · obtain ⟨fd, F⟩ := D ("NoHand", "hand", 13) hq
    exact ini_pack F ⟨rfl, rfl, rfl, by decide +kernel, rfl, by decide +kernel, by decide +kernel⟩ rfl (T.inf ("NoHand", "hand", 13) hq) (by decide) (by decide) (fun _ _ _ _ _ _ us hl => match us, hl with | [_, _], _ => rfl) (fun _ _ _ _ _ _ _ _ => rfl)
  · obtain ⟨fd, F⟩ := D ("NoKind", "kind", 14) hq
    exact ini_pack F ⟨rfl, rfl, rfl, by decide +kernel, rfl, by decide +kernel, by decide +kernel⟩ rfl (T.inf ("NoKind", "kind", 14) hq) (by decide) (by decide) (fun _ _ _ _ _ _ us hl => match us, hl with | [_, _], _ => rfl) (fun _ _ _ _ _ _ _ _ => rfl)
  · obtain ⟨fd, F⟩ := D ("TooGreat", "told", 16) hq
    exact ini_pack F ⟨rfl, rfl, rfl, by decide +kernel, rfl, by decide +kernel, by decide +kernel⟩ rfl (T.inf ("TooGreat", "told", 16) hq) (by decide) (by decide) (fun _ _ _ _ _ _ us hl => match us, hl with | [_, _], _ => rfl) (fun _ _ _ _ _ _ _ _ => rfl)
  · obtain ⟨fd, F⟩ := D ("BadMove", "move", 18) hq
    exact ini_pack F ⟨rfl, rfl, rfl, by decide +kernel, rfl, by decide +kernel, by decide +kernel⟩ rfl (T.inf ("BadMove", "move", 18) hq) (by decide) (by decide) (fun _ _ _ _ _ _ us hl => match us, hl with | [_, _], _ => rfl) (fun _ _ _ _ _ _ _ _ => rfl)
  · obtain ⟨fd, F⟩ := D ("Barred", "spot", 19) hq
    exact ini_pack F ⟨rfl, rfl, rfl, by decide +kernel, rfl, by decide +kernel, by decide +kernel⟩ rfl (T.inf ("Barred", "spot", 19) hq) (by decide) (by decide) (fun _ _ _ _ _ _ us hl => match us, hl with | [_, _], _ => rfl) (fun _ _ _ _ _ _ _ _ => rfl)
  · obtain ⟨fd, F⟩ := D ("BadLine", "line", 20) hq
    exact ini_pack F ⟨rfl, rfl, rfl, by decide +kernel, rfl, by decide +kernel, by decide +kernel⟩ rfl (T.inf ("BadLine", "line", 20) hq) (by decide) (by decide) (fun _ _ _ _ _ _ us hl => match us, hl with | [_, _], _ => rfl) (fun _ _ _ _ _ _ _ _ => rfl)
  · obtain ⟨fd, F⟩ := D ("NoSpace", "part", 23) hq
    exact ini_pack F ⟨rfl, rfl, rfl, by decide +kernel, rfl, by decide +kernel, by decide +kernel⟩ rfl (T.inf ("NoSpace", "part", 23) hq) (by decide) (by decide) (fun _ _ _ _ _ _ us hl => match us, hl with | [_, _], _ => rfl) (fun _ _ _ _ _ _ _ _ => rfl)
  · obtain ⟨fd, F⟩ := D ("NoCell", "cell", 24) hq
    exact ini_pack F ⟨rfl, rfl, rfl, by decide +kernel, rfl, by decide +kernel, by decide +kernel⟩ rfl (T.inf ("NoCell", "cell", 24) hq) (by decide) (by decide) (fun _ _ _ _ _ _ us hl => match us, hl with | [_, _], _ => rfl) (fun _ _ _ _ _ _ _ _ => rfl)
end
end K1

set_option Elab.async false
set_option linter.all false
set_option maxRecDepth 100000
set_option maxHeartbeats 8000000
/-! ## _law_kept -/
namespace K1
open PySem PySem.Spec PyProof.Rows L2 VX
theorem memBadPrime : (("BadPrime", "told", 2) : Str × Str × Nat) ∈ withF := by decide +kernel
theorem memNoInverse : (("NoInverse", "number", 3) : Str × Str × Nat) ∈ withF := by decide +kernel
theorem memBadLength : (("BadLength", "told", 4) : Str × Str × Nat) ∈ withF := by decide +kernel
theorem memBadVector : (("BadVector", "vector", 5) : Str × Str × Nat) ∈ withF := by decide +kernel
theorem memBadSign : (("BadSign", "told", 10) : Str × Str × Nat) ∈ withF := by decide +kernel
theorem memBadColumn : (("BadColumn", "column", 11) : Str × Str × Nat) ∈ withF := by decide +kernel
theorem memBadOrder : (("BadOrder", "order", 12) : Str × Str × Nat) ∈ withF := by decide +kernel
theorem memNoHand : (("NoHand", "hand", 13) : Str × Str × Nat) ∈ withF := by decide +kernel
theorem memNoKind : (("NoKind", "kind", 14) : Str × Str × Nat) ∈ withF := by decide +kernel
theorem memTooGreat : (("TooGreat", "told", 16) : Str × Str × Nat) ∈ withF := by decide +kernel
theorem memBadMove : (("BadMove", "move", 18) : Str × Str × Nat) ∈ withF := by decide +kernel
theorem memBarred : (("Barred", "spot", 19) : Str × Str × Nat) ∈ withF := by decide +kernel
theorem memBadLine : (("BadLine", "line", 20) : Str × Str × Nat) ∈ withF := by decide +kernel
theorem memNoSpace : (("NoSpace", "part", 23) : Str × Str × Nat) ∈ withF := by decide +kernel
theorem memNoCell : (("NoCell", "cell", 24) : Str × Str × Nat) ∈ withF := by decide +kernel
section
variable {P : Program} {w : World} {K : PySem.W.Frag} {mg : Str → Option Value} {base : Heap} {f : Addr} {fd : FuncData}
def alt (a b : V) : List V := [a, b, a, b, a, b, a, b, a, b, a, b, a, b, a]
def spKept : Sp := fun vs H Q _ => ∃ a b : V, vs = [a, b] ∧ ∀ (q p1 p2 : Addr) (H' : Hp), Same H H' → H' q = some (.lst [.ref p1, .ref p2]) → H' p1 = some (.lst (alt a b)) → H' p2 = some (.lst (alt a b)) → Q (.ref q) H'
theorem sc_kept : FnScope ["_law_a", "_law_b", "_law_kept_here", "_law_more"] ["_law_a", "_law_b"] (defScope (top 37)) := ⟨rfl, rfl, rfl, by decide +kernel, rfl, by decide +kernel, by decide +kernel⟩
theorem ok_kept (F : FnP K "_law_kept" 37 f fd) (T : Txt K mg) (ini : ∀ q ∈ withF, IniOk P w K mg base q.1 q.2.1) : FnOk P w K mg base CX0 3 f fd ["_law_a", "_law_b"] spKept := by
  refine F.ok sc_kept (fun vs H Q E h => ?_) (fun cdv A outer s H vs Q E hr h => ?_)
  · obtain ⟨a, b, rfl, _⟩ := h
    rfl
  · obtain ⟨a, b, rfl, k⟩ := h
    refine ⟨_, PSs.nox (pss_cons (ps_set (i := 2) sc_kept.nd rfl (Or.inl rfl) (pe_lst (pa_cons (pe_cf T (ini _ memBadPrime) memBadPrime hr (pv 0)) (pa_cons (pe_cf T (ini _ memNoInverse) memNoInverse hr (pv 1)) (pa_cons (pe_cf T (ini _ memBadLength) memBadLength hr (pv 0)) (pa_cons (pe_cf T (ini _ memBadVector) memBadVector hr (pv 1)) (pa_cons (pe_cf T (ini _ memBadSign) memBadSign hr (pv 0)) pa_nil)))))))
      (pss_cons (ps_set (i := 2) sc_kept.nd rfl (Or.inl rfl) (pe_op op_cat (pv 2) (pe_lst (pa_cons (pe_cf T (ini _ memBadColumn) memBadColumn hr (pv 1)) (pa_cons (pe_cf T (ini _ memBadOrder) memBadOrder hr (pv 0)) (pa_cons (pe_cf T (ini _ memNoHand) memNoHand hr (pv 1)) (pa_cons (pe_cf T (ini _ memNoKind) memNoKind hr (pv 0)) (pa_cons (pe_cf T (ini _ memTooGreat) memTooGreat hr (pv 1)) pa_nil))))))))
      (pss_cons (ps_set (i := 2) sc_kept.nd rfl (Or.inl rfl) (pe_op op_cat (pv 2) (pe_lst (pa_cons (pe_cf T (ini _ memBadMove) memBadMove hr (pv 0)) (pa_cons (pe_cf T (ini _ memBarred) memBarred hr (pv 1)) (pa_cons (pe_cf T (ini _ memBadLine) memBadLine hr (pv 0)) (pa_cons (pe_cf T (ini _ memNoSpace) memNoSpace hr (pv 1)) (pa_cons (pe_cf T (ini _ memNoCell) memNoCell hr (pv 0)) pa_nil))))))))
      (pss_cons (ps_set (i := 3) sc_kept.nd rfl (Or.inl rfl) (pe_lst (pa_cons (pe_ck T (ini _ memBadPrime) memBadPrime hr (pv 0)) (pa_cons (pe_ck T (ini _ memNoInverse) memNoInverse hr (pv 1)) (pa_cons (pe_ck T (ini _ memBadLength) memBadLength hr (pv 0)) (pa_cons (pe_ck T (ini _ memBadVector) memBadVector hr (pv 1)) pa_nil))))))
      (pss_cons (ps_set (i := 3) sc_kept.nd rfl (Or.inl rfl) (pe_op op_cat (pv 3) (pe_lst (pa_cons (pe_ck T (ini _ memBadSign) memBadSign hr (pv 0)) (pa_cons (pe_ck T (ini _ memBadColumn) memBadColumn hr (pv 1)) (pa_cons (pe_ck T (ini _ memBadOrder) memBadOrder hr (pv 0)) (pa_cons (pe_ck T (ini _ memNoHand) memNoHand hr (pv 1)) pa_nil)))))))
      (pss_cons (ps_set (i := 3) sc_kept.nd rfl (Or.inl rfl) (pe_op op_cat (pv 3) (pe_lst (pa_cons (pe_ck T (ini _ memNoKind) memNoKind hr (pv 0)) (pa_cons (pe_ck T (ini _ memTooGreat) memTooGreat hr (pv 1)) (pa_cons (pe_ck T (ini _ memBadMove) memBadMove hr (pv 0)) (pa_cons (pe_ck T (ini _ memBarred) memBarred hr (pv 1)) pa_nil)))))))
      (pss_one (ps_ret (pe_lst (pa_cons (pv 2) (pa_cons (pe_op op_cat (pv 3) (pe_lst (pa_cons (pe_ck T (ini _ memBadLine) memBadLine hr (pv 0)) (pa_cons (pe_ck T (ini _ memNoSpace) memNoSpace hr (pv 1)) (pa_cons (pe_ck T (ini _ memNoCell) memNoCell hr (pv 0)) pa_nil))))) pa_nil))))))))))), ?_⟩
    refine ⟨_, rfl, fun H1 s1 => ⟨_, rfl, fun H2 s2 => ⟨_, rfl, fun H3 s3 => ⟨_, rfl, fun H4 s4 => ⟨_, rfl, fun H5 s5 => ⟨(by show 5 ≤ sizeLine; decide), fun p1 np1 => ?_⟩⟩⟩⟩⟩⟩
    have t1 := ((((s1.trans s2).trans s3).trans s4).trans s5).trans (same_new (o := .lst [a, b, a, b, a]) np1)
    have l1 := upd_same (H := H5) (a := p1) (o := .lst [a, b, a, b, a])
    generalize upd H5 p1 (.lst [a, b, a, b, a]) = G1 at t1 l1 ⊢
    refine ⟨_, rfl, ⟨_, rfl, fun H6 s6 => ⟨_, rfl, fun H7 s7 => ⟨_, rfl, fun H8 s8 => ⟨_, rfl, fun H9 s9 => ⟨_, rfl, fun H10 s10 => ⟨(by show 5 ≤ sizeLine; decide), fun q1 nq1 => ?_⟩⟩⟩⟩⟩⟩⟩
    have u1 := ((((s6.trans s7).trans s8).trans s9).trans s10).trans (same_new (o := .lst [b, a, b, a, b]) nq1)
    have v1 := upd_same (H := H10) (a := q1) (o := .lst [b, a, b, a, b])
    refine ⟨_, _, _, _, rfl, rfl, u1 _ _ l1, v1, (by show 10 ≤ sizeLine; decide), fun r1 nr1 => ?_⟩
    have w1 := u1.trans (same_new (o := .lst [a, b, a, b, a, b, a, b, a, b]) nr1)
    have l2 := upd_same (H := upd H10 q1 (.lst [b, a, b, a, b])) (a := r1) (o := .lst [a, b, a, b, a, b, a, b, a, b])
    have t2 := t1.trans w1
    generalize hG2 : upd (upd H10 q1 (.lst [b, a, b, a, b])) r1 (.lst [a, b, a, b, a, b, a, b, a, b]) = G2 at w1 l2 t2
    have hG2' : upd (upd H10 q1 (.lst [b, a, b, a, b])) r1 (.lst ([a, b, a, b, a] ++ [b, a, b, a, b])) = G2 := hG2
    rw [hG2']
    refine ⟨_, rfl, ⟨_, rfl, fun H11 s11 => ⟨_, rfl, fun H12 s12 => ⟨_, rfl, fun H13 s13 => ⟨_, rfl, fun H14 s14 => ⟨_, rfl, fun H15 s15 => ⟨(by show 5 ≤ sizeLine; decide), fun q2 nq2 => ?_⟩⟩⟩⟩⟩⟩⟩
    have u2 := ((((s11.trans s12).trans s13).trans s14).trans s15).trans (same_new (o := .lst [a, b, a, b, a]) nq2)
    have v2 := upd_same (H := H15) (a := q2) (o := .lst [a, b, a, b, a])
    refine ⟨_, _, _, _, rfl, rfl, u2 _ _ l2, v2, (by show 15 ≤ sizeLine; decide), fun r2 nr2 => ?_⟩
    have w2 := u2.trans (same_new (o := .lst [a, b, a, b, a, b, a, b, a, b, a, b, a, b, a]) nr2)
    have l3 := upd_same (H := upd H15 q2 (.lst [a, b, a, b, a])) (a := r2) (o := .lst [a, b, a, b, a, b, a, b, a, b, a, b, a, b, a])
    have t3 := t2.trans w2
    generalize hG3 : upd (upd H15 q2 (.lst [a, b, a, b, a])) r2 (.lst [a, b, a, b, a, b, a, b, a, b, a, b, a, b, a]) = G3 at w2 l3 t3
    have hG3' : upd (upd H15 q2 (.lst [a, b, a, b, a])) r2 (.lst ([a, b, a, b, a, b, a, b, a, b] ++ [a, b, a, b, a])) = G3 := hG3
    rw [hG3']
    refine ⟨_, rfl, fun H16 s16 => ⟨_, rfl, fun H17 s17 => ⟨_, rfl, fun H18 s18 => ⟨_, rfl, fun H19 s19 => ⟨(by show 4 ≤ sizeLine; decide), fun q3 nq3 => ?_⟩⟩⟩⟩⟩
    have w3 := (((s16.trans s17).trans s18).trans s19).trans (same_new (o := .lst [a, b, a, b]) nq3)
    have l4 := upd_same (H := H19) (a := q3) (o := .lst [a, b, a, b])
    have o3_2 := w3 _ _ l3
    have t4 := t3.trans w3
    generalize upd H19 q3 (.lst [a, b, a, b]) = G4 at w3 l4 o3_2 t4 ⊢
    refine ⟨_, rfl, ⟨_, rfl, fun H20 s20 => ⟨_, rfl, fun H21 s21 => ⟨_, rfl, fun H22 s22 => ⟨_, rfl, fun H23 s23 => ⟨(by show 4 ≤ sizeLine; decide), fun q4 nq4 => ?_⟩⟩⟩⟩⟩⟩
    have u4 := (((s20.trans s21).trans s22).trans s23).trans (same_new (o := .lst [a, b, a, b]) nq4)
    have v4 := upd_same (H := H23) (a := q4) (o := .lst [a, b, a, b])
    refine ⟨_, _, _, _, rfl, rfl, u4 _ _ l4, v4, (by show 8 ≤ sizeLine; decide), fun r4 nr4 => ?_⟩
    have w4 := u4.trans (same_new (o := .lst [a, b, a, b, a, b, a, b]) nr4)
    have l5 := upd_same (H := upd H23 q4 (.lst [a, b, a, b])) (a := r4) (o := .lst [a, b, a, b, a, b, a, b])
    have o4_2 := w4 _ _ o3_2
    have t5 := t4.trans w4
    generalize hG5 : upd (upd H23 q4 (.lst [a, b, a, b])) r4 (.lst [a, b, a, b, a, b, a, b]) = G5 at w4 l5 o4_2 t5
    have hG5' : upd (upd H23 q4 (.lst [a, b, a, b])) r4 (.lst ([a, b, a, b] ++ [a, b, a, b])) = G5 := hG5
    rw [hG5']
    refine ⟨_, rfl, ⟨_, rfl, fun H24 s24 => ⟨_, rfl, fun H25 s25 => ⟨_, rfl, fun H26 s26 => ⟨_, rfl, fun H27 s27 => ⟨(by show 4 ≤ sizeLine; decide), fun q5 nq5 => ?_⟩⟩⟩⟩⟩⟩
    have u5 := (((s24.trans s25).trans s26).trans s27).trans (same_new (o := .lst [a, b, a, b]) nq5)
    have v5 := upd_same (H := H27) (a := q5) (o := .lst [a, b, a, b])
    refine ⟨_, _, _, _, rfl, rfl, u5 _ _ l5, v5, (by show 12 ≤ sizeLine; decide), fun r5 nr5 => ?_⟩
    have w5 := u5.trans (same_new (o := .lst [a, b, a, b, a, b, a, b, a, b, a, b]) nr5)
    have l6 := upd_same (H := upd H27 q5 (.lst [a, b, a, b])) (a := r5) (o := .lst [a, b, a, b, a, b, a, b, a, b, a, b])
    have o5_2 := w5 _ _ o4_2
    have t6 := t5.trans w5
    generalize hG6 : upd (upd H27 q5 (.lst [a, b, a, b])) r5 (.lst [a, b, a, b, a, b, a, b, a, b, a, b]) = G6 at w5 l6 o5_2 t6
    have hG6' : upd (upd H27 q5 (.lst [a, b, a, b])) r5 (.lst ([a, b, a, b, a, b, a, b] ++ [a, b, a, b])) = G6 := hG6
    rw [hG6']
    refine ⟨_, rfl, _, rfl, ⟨_, rfl, fun H28 s28 => ⟨_, rfl, fun H29 s29 => ⟨_, rfl, fun H30 s30 => ⟨(by show 3 ≤ sizeLine; decide), fun q6 nq6 => ?_⟩⟩⟩⟩⟩
    have u6 := ((s28.trans s29).trans s30).trans (same_new (o := .lst [a, b, a]) nq6)
    have v6 := upd_same (H := H30) (a := q6) (o := .lst [a, b, a])
    refine ⟨_, _, _, _, rfl, rfl, u6 _ _ l6, v6, (by show 15 ≤ sizeLine; decide), fun z nz => ⟨(by show 2 ≤ sizeLine; decide), fun q nq => ?_⟩⟩
    have y1 := u6.trans (same_new (o := .lst (alt a b)) nz)
    have y2 := y1.trans (same_new (o := .lst [.ref r2, .ref z]) nq)
    exact k q _ z _ (t6.trans y2) upd_same (y2 _ _ o5_2) (same_new (o := .lst [.ref r2, .ref z]) nq _ _ upd_same)
end
end K1

set_option Elab.async false
set_option linter.all false
set_option maxRecDepth 100000
set_option maxHeartbeats 8000000
/-! ## _law_kinds, _law_bases -/
namespace K1
open PySem PySem.Spec PyProof.Rows L2 VX
theorem errBadPrime : ("BadPrime" : Str) ∈ errs := by decide +kernel
theorem errNoInverse : ("NoInverse" : Str) ∈ errs := by decide +kernel
theorem errBadLength : ("BadLength" : Str) ∈ errs := by decide +kernel
theorem errBadVector : ("BadVector" : Str) ∈ errs := by decide +kernel
theorem errBadSign : ("BadSign" : Str) ∈ errs := by decide +kernel
theorem errBadColumn : ("BadColumn" : Str) ∈ errs := by decide +kernel
theorem errBadOrder : ("BadOrder" : Str) ∈ errs := by decide +kernel
theorem errNoHand : ("NoHand" : Str) ∈ errs := by decide +kernel
theorem errNoKind : ("NoKind" : Str) ∈ errs := by decide +kernel
theorem errTooGreat : ("TooGreat" : Str) ∈ errs := by decide +kernel
theorem errBadMove : ("BadMove" : Str) ∈ errs := by decide +kernel
theorem errBarred : ("Barred" : Str) ∈ errs := by decide +kernel
theorem errBadLine : ("BadLine" : Str) ∈ errs := by decide +kernel
theorem errNoSpace : ("NoSpace" : Str) ∈ errs := by decide +kernel
theorem errNoCell : ("NoCell" : Str) ∈ errs := by decide +kernel
theorem errUnlikeSpaces : ("UnlikeSpaces" : Str) ∈ errs := by decide +kernel
theorem errNotWithin : ("NotWithin" : Str) ∈ errs := by decide +kernel
theorem errBadMatrix : ("BadMatrix" : Str) ∈ errs := by decide +kernel
theorem errBadText : ("BadText" : Str) ∈ errs := by decide +kernel
theorem errBadNumbers : ("BadNumbers" : Str) ∈ errs := by decide +kernel
theorem errClash : ("Clash" : Str) ∈ errs := by decide +kernel
theorem errNothingToUndo : ("NothingToUndo" : Str) ∈ errs := by decide +kernel
theorem errNothingToRedo : ("NothingToRedo" : Str) ∈ errs := by decide +kernel
theorem plUnlikeSpaces : ("UnlikeSpaces" : Str) ∈ plain := by decide +kernel
theorem plNotWithin : ("NotWithin" : Str) ∈ plain := by decide +kernel
theorem plBadMatrix : ("BadMatrix" : Str) ∈ plain := by decide +kernel
theorem plBadText : ("BadText" : Str) ∈ plain := by decide +kernel
theorem plBadNumbers : ("BadNumbers" : Str) ∈ plain := by decide +kernel
theorem plClash : ("Clash" : Str) ∈ plain := by decide +kernel
theorem plNothingToUndo : ("NothingToUndo" : Str) ∈ plain := by decide +kernel
theorem plNothingToRedo : ("NothingToRedo" : Str) ∈ plain := by decide +kernel
def order : List Str := ["BadColumn", "BadLength", "BadLine", "BadMatrix", "BadMove", "BadNumbers", "BadOrder", "BadPrime", "BadSign", "BadText", "BadVector", "Barred", "Clash", "NoCell", "NoHand", "NoInverse", "NoKind", "NoSpace", "NothingToRedo", "NothingToUndo", "NotWithin", "TooGreat", "UnlikeSpaces"]
def isT : V → Bool
  | .bl true => true
  | _ => false
def bits (x : Str) : List V := order.map fun y => V.bl (decide (x = y))
theorem one_bit : ∀ x ∈ errs, ((bits x).filter isT).length = 1 := by decide +kernel
theorem isx {K : PySem.W.Frag} {mg : Str → Option Value} {H : Hp} {a : Addr} {x y : Str} {Q : VK} (T : Txt K mg) (e : Err K H a x) (my : y ∈ errs) (q : Q (.bl (decide (x = y))) H) : rIsX K [.ref a, .ref (He.ga K y)] H Q := by
  obtain ⟨mx, d, h, k⟩ := e
  exact ⟨a, _, d, _, _, _, rfl, (T.exf x mx).xc, h, k, .own _, T.kit x mx y my, q⟩
theorem isH {K : PySem.W.Frag} {mg : Str → Option Value} {H : Hp} {a : Addr} {x : Str} {Q : VK} (T : Txt K mg) (e : Err K H a x) (q : Q (.bl true) H) : rIsX K [.ref a, .ref (He.ga K "HandError")] H Q := by
  obtain ⟨mx, d, h, k⟩ := e
  exact ⟨a, _, d, _, _, _, rfl, (T.exf x mx).xc, h, k, .own _, T.kitH x mx, q⟩
theorem isV {K : PySem.W.Frag} {mg : Str → Option Value} {H : Hp} {a : Addr} {x : Str} {Q : VK} (T : Txt K mg) (e : Err K H a x) (q : Q (.bl true) H) : rIsX K [.ref a, .ty "ValueError"] H Q := by
  obtain ⟨mx, d, h, k⟩ := e
  exact ⟨a, _, d, _, _, _, rfl, (T.exf x mx).xc, h, k, .ty _, T.kitV x mx, q⟩
theorem filter_more {xs : List V} {i : Nat} {v : V} (h : xs[i]? = some v) : (xs.take (i + 1)).filter isT = (xs.take i).filter isT ++ (if isT v = true then [v] else []) := by
  rw [List.take_succ, h, List.filter_append]
  by_cases c : isT v = true
  · simp [c]
  · simp [c]
section
variable {P : Program} {w : World} {K : PySem.W.Frag} {mg : Str → Option Value} {base : Heap} {f : Addr} {fd : FuncData}
def spKinds (K : PySem.W.Frag) : Sp := fun vs H Q _ => ∃ (a : Addr) (x : Str), vs = [.ref a] ∧ Err K H a x ∧ ∀ H', Same H H' → Q (.int 1) H'
theorem sc_kinds : FnScope ["_law_e", "_law_found", "_law_bit"] ["_law_e"] (defScope (top 38)) := ⟨rfl, rfl, rfl, by decide +kernel, rfl, by decide +kernel, by decide +kernel⟩
theorem ok_kinds (F : FnP K "_law_kinds" 38 f fd) (T : Txt K mg) : FnOk P w K mg base CX0 1 f fd ["_law_e"] (spKinds K) := by
  have i0 := T.free "isinstance" (by decide +kernel)
  have i1 := T.free "len" (by decide +kernel)
  refine F.ok sc_kinds (fun vs H Q E h => ?_) (fun cdv A outer s H vs Q E hr h => ?_)
  · obtain ⟨a, x, rfl, _⟩ := h
    rfl
  · obtain ⟨a, x, rfl, e, k⟩ := h
    have mx := e.1
    have xc := (T.exf x mx).xc
    refine ⟨_, PSs.nox (pss_cons (ps_set (i := 1) sc_kinds.nd rfl (Or.inl rfl) (pe_lst (pa_cons (pe_callB call_isX (by rfl) i0 boot_isinstance (pa_cons (pv 0) (pa_cons (pe_glob (v := .ref (He.ga K "BadColumn")) (by rfl) (T.err _ errBadColumn) rfl) pa_nil))) (pa_cons (pe_callB call_isX (by rfl) i0 boot_isinstance (pa_cons (pv 0) (pa_cons (pe_glob (v := .ref (He.ga K "BadLength")) (by rfl) (T.err _ errBadLength) rfl) pa_nil))) (pa_cons (pe_callB call_isX (by rfl) i0 boot_isinstance (pa_cons (pv 0) (pa_cons (pe_glob (v := .ref (He.ga K "BadLine")) (by rfl) (T.err _ errBadLine) rfl) pa_nil))) pa_nil)))))
      (pss_cons (ps_set (i := 1) sc_kinds.nd rfl (Or.inl rfl) (pe_op op_cat (pv 1) (pe_lst (pa_cons (pe_callB call_isX (by rfl) i0 boot_isinstance (pa_cons (pv 0) (pa_cons (pe_glob (v := .ref (He.ga K "BadMatrix")) (by rfl) (T.err _ errBadMatrix) rfl) pa_nil))) (pa_cons (pe_callB call_isX (by rfl) i0 boot_isinstance (pa_cons (pv 0) (pa_cons (pe_glob (v := .ref (He.ga K "BadMove")) (by rfl) (T.err _ errBadMove) rfl) pa_nil))) (pa_cons (pe_callB call_isX (by rfl) i0 boot_isinstance (pa_cons (pv 0) (pa_cons (pe_glob (v := .ref (He.ga K "BadNumbers")) (by rfl) (T.err _ errBadNumbers) rfl) pa_nil))) pa_nil))))))
      (pss_cons (ps_set (i := 1) sc_kinds.nd rfl (Or.inl rfl) (pe_op op_cat (pv 1) (pe_lst (pa_cons (pe_callB call_isX (by rfl) i0 boot_isinstance (pa_cons (pv 0) (pa_cons (pe_glob (v := .ref (He.ga K "BadOrder")) (by rfl) (T.err _ errBadOrder) rfl) pa_nil))) (pa_cons (pe_callB call_isX (by rfl) i0 boot_isinstance (pa_cons (pv 0) (pa_cons (pe_glob (v := .ref (He.ga K "BadPrime")) (by rfl) (T.err _ errBadPrime) rfl) pa_nil))) (pa_cons (pe_callB call_isX (by rfl) i0 boot_isinstance (pa_cons (pv 0) (pa_cons (pe_glob (v := .ref (He.ga K "BadSign")) (by rfl) (T.err _ errBadSign) rfl) pa_nil))) pa_nil))))))
      (pss_cons (ps_set (i := 1) sc_kinds.nd rfl (Or.inl rfl) (pe_op op_cat (pv 1) (pe_lst (pa_cons (pe_callB call_isX (by rfl) i0 boot_isinstance (pa_cons (pv 0) (pa_cons (pe_glob (v := .ref (He.ga K "BadText")) (by rfl) (T.err _ errBadText) rfl) pa_nil))) (pa_cons (pe_callB call_isX (by rfl) i0 boot_isinstance (pa_cons (pv 0) (pa_cons (pe_glob (v := .ref (He.ga K "BadVector")) (by rfl) (T.err _ errBadVector) rfl) pa_nil))) (pa_cons (pe_callB call_isX (by rfl) i0 boot_isinstance (pa_cons (pv 0) (pa_cons (pe_glob (v := .ref (He.ga K "Barred")) (by rfl) (T.err _ errBarred) rfl) pa_nil))) pa_nil))))))
      (pss_cons (ps_set (i := 1) sc_kinds.nd rfl (Or.inl rfl) (pe_op op_cat (pv 1) (pe_lst (pa_cons (pe_callB call_isX (by rfl) i0 boot_isinstance (pa_cons (pv 0) (pa_cons (pe_glob (v := .ref (He.ga K "Clash")) (by rfl) (T.err _ errClash) rfl) pa_nil))) (pa_cons (pe_callB call_isX (by rfl) i0 boot_isinstance (pa_cons (pv 0) (pa_cons (pe_glob (v := .ref (He.ga K "NoCell")) (by rfl) (T.err _ errNoCell) rfl) pa_nil))) (pa_cons (pe_callB call_isX (by rfl) i0 boot_isinstance (pa_cons (pv 0) (pa_cons (pe_glob (v := .ref (He.ga K "NoHand")) (by rfl) (T.err _ errNoHand) rfl) pa_nil))) pa_nil))))))
      (pss_cons (ps_set (i := 1) sc_kinds.nd rfl (Or.inl rfl) (pe_op op_cat (pv 1) (pe_lst (pa_cons (pe_callB call_isX (by rfl) i0 boot_isinstance (pa_cons (pv 0) (pa_cons (pe_glob (v := .ref (He.ga K "NoInverse")) (by rfl) (T.err _ errNoInverse) rfl) pa_nil))) (pa_cons (pe_callB call_isX (by rfl) i0 boot_isinstance (pa_cons (pv 0) (pa_cons (pe_glob (v := .ref (He.ga K "NoKind")) (by rfl) (T.err _ errNoKind) rfl) pa_nil))) (pa_cons (pe_callB call_isX (by rfl) i0 boot_isinstance (pa_cons (pv 0) (pa_cons (pe_glob (v := .ref (He.ga K "NoSpace")) (by rfl) (T.err _ errNoSpace) rfl) pa_nil))) pa_nil))))))
      (pss_cons (ps_set (i := 1) sc_kinds.nd rfl (Or.inl rfl) (pe_op op_cat (pv 1) (pe_lst (pa_cons (pe_callB call_isX (by rfl) i0 boot_isinstance (pa_cons (pv 0) (pa_cons (pe_glob (v := .ref (He.ga K "NothingToRedo")) (by rfl) (T.err _ errNothingToRedo) rfl) pa_nil))) (pa_cons (pe_callB call_isX (by rfl) i0 boot_isinstance (pa_cons (pv 0) (pa_cons (pe_glob (v := .ref (He.ga K "NothingToUndo")) (by rfl) (T.err _ errNothingToUndo) rfl) pa_nil))) (pa_cons (pe_callB call_isX (by rfl) i0 boot_isinstance (pa_cons (pv 0) (pa_cons (pe_glob (v := .ref (He.ga K "NotWithin")) (by rfl) (T.err _ errNotWithin) rfl) pa_nil))) pa_nil))))))
      (pss_cons (ps_set (i := 1) sc_kinds.nd rfl (Or.inl rfl) (pe_op op_cat (pv 1) (pe_lst (pa_cons (pe_callB call_isX (by rfl) i0 boot_isinstance (pa_cons (pv 0) (pa_cons (pe_glob (v := .ref (He.ga K "TooGreat")) (by rfl) (T.err _ errTooGreat) rfl) pa_nil))) (pa_cons (pe_callB call_isX (by rfl) i0 boot_isinstance (pa_cons (pv 0) (pa_cons (pe_glob (v := .ref (He.ga K "UnlikeSpaces")) (by rfl) (T.err _ errUnlikeSpaces) rfl) pa_nil))) pa_nil)))))
      (pss_one (ps_ret (pe_callB call_len_seq (by rfl) i1 boot_len (pa_cons (pe_lc (own := [("_law_bit", 2)]) (g := gName 2) (by rfl) sc_kinds.nd (pi_list (pv 1)) (blkOk_by (own := [("_law_bit", 2)]) (N := ["_law_e", "_law_found", "_law_bit"]) (sc := defScope (top 38)) (by decide +kernel)) (fun _ _ _ _ _ => pg_name (i := 2) sc_kinds.nd rfl (Or.inl rfl)) (fun _ _ _ _ _ => pts_one (pt_val (pv 2))) (fun _ _ _ _ _ => pv 2)) pa_nil)))))))))))), ?_⟩
    obtain ⟨_, de, he, ke⟩ := id e
    refine ⟨_, rfl, a, _, de, _, _, _, rfl, xc, he, ke, .own _, T.kit x mx _ errBadColumn, ⟨_, rfl, a, _, de, _, _, _, rfl, xc, he, ke, .own _, T.kit x mx _ errBadLength, ⟨_, rfl, a, _, de, _, _, _, rfl, xc, he, ke, .own _, T.kit x mx _ errBadLine, ⟨(by show 3 ≤ sizeLine; decide), fun q0 nq0 => ?_⟩⟩⟩⟩
    have t0 := same_new (o := .lst [.bl (decide (x = "BadColumn")), .bl (decide (x = "BadLength")), .bl (decide (x = "BadLine"))]) nq0
    have l0 := upd_same (H := H) (a := q0) (o := .lst [.bl (decide (x = "BadColumn")), .bl (decide (x = "BadLength")), .bl (decide (x = "BadLine"))])
    have e0 := e.same t0
    generalize upd H q0 (.lst [.bl (decide (x = "BadColumn")), .bl (decide (x = "BadLength")), .bl (decide (x = "BadLine"))]) = G0 at t0 l0 e0 ⊢
    obtain ⟨_, de0, he0, ke0⟩ := id e0
    refine ⟨_, rfl, ⟨_, rfl, a, _, de0, _, _, _, rfl, xc, he0, ke0, .own _, T.kit x mx _ errBadMatrix, ⟨_, rfl, a, _, de0, _, _, _, rfl, xc, he0, ke0, .own _, T.kit x mx _ errBadMove, ⟨_, rfl, a, _, de0, _, _, _, rfl, xc, he0, ke0, .own _, T.kit x mx _ errBadNumbers, ⟨(by show 3 ≤ sizeLine; decide), fun q1 nq1 => ?_⟩⟩⟩⟩⟩
    have u1 := same_new (o := .lst [.bl (decide (x = "BadMatrix")), .bl (decide (x = "BadMove")), .bl (decide (x = "BadNumbers"))]) nq1
    have v1 := upd_same (H := G0) (a := q1) (o := .lst [.bl (decide (x = "BadMatrix")), .bl (decide (x = "BadMove")), .bl (decide (x = "BadNumbers"))])
    refine ⟨_, _, _, _, rfl, rfl, u1 _ _ l0, v1, (by show 6 ≤ sizeLine; decide), fun r1 nr1 => ?_⟩
    have w1 := u1.trans (same_new (o := .lst [.bl (decide (x = "BadColumn")), .bl (decide (x = "BadLength")), .bl (decide (x = "BadLine")), .bl (decide (x = "BadMatrix")), .bl (decide (x = "BadMove")), .bl (decide (x = "BadNumbers"))]) nr1)
    have l1 := upd_same (H := upd G0 q1 (.lst [.bl (decide (x = "BadMatrix")), .bl (decide (x = "BadMove")), .bl (decide (x = "BadNumbers"))])) (a := r1) (o := .lst [.bl (decide (x = "BadColumn")), .bl (decide (x = "BadLength")), .bl (decide (x = "BadLine")), .bl (decide (x = "BadMatrix")), .bl (decide (x = "BadMove")), .bl (decide (x = "BadNumbers"))])
    have t1 := t0.trans w1
    have e1 := e0.same w1
    generalize hG1 : upd (upd G0 q1 (.lst [.bl (decide (x = "BadMatrix")), .bl (decide (x = "BadMove")), .bl (decide (x = "BadNumbers"))])) r1 (.lst [.bl (decide (x = "BadColumn")), .bl (decide (x = "BadLength")), .bl (decide (x = "BadLine")), .bl (decide (x = "BadMatrix")), .bl (decide (x = "BadMove")), .bl (decide (x = "BadNumbers"))]) = G1 at w1 l1 t1 e1
    have hG1' : upd (upd G0 q1 (.lst [.bl (decide (x = "BadMatrix")), .bl (decide (x = "BadMove")), .bl (decide (x = "BadNumbers"))])) r1 (.lst ([.bl (decide (x = "BadColumn")), .bl (decide (x = "BadLength")), .bl (decide (x = "BadLine"))] ++ [.bl (decide (x = "BadMatrix")), .bl (decide (x = "BadMove")), .bl (decide (x = "BadNumbers"))])) = G1 := hG1
    rw [hG1']
    obtain ⟨_, de1, he1, ke1⟩ := id e1
    refine ⟨_, rfl, ⟨_, rfl, a, _, de1, _, _, _, rfl, xc, he1, ke1, .own _, T.kit x mx _ errBadOrder, ⟨_, rfl, a, _, de1, _, _, _, rfl, xc, he1, ke1, .own _, T.kit x mx _ errBadPrime, ⟨_, rfl, a, _, de1, _, _, _, rfl, xc, he1, ke1, .own _, T.kit x mx _ errBadSign, ⟨(by show 3 ≤ sizeLine; decide), fun q2 nq2 => ?_⟩⟩⟩⟩⟩
    have u2 := same_new (o := .lst [.bl (decide (x = "BadOrder")), .bl (decide (x = "BadPrime")), .bl (decide (x = "BadSign"))]) nq2
    have v2 := upd_same (H := G1) (a := q2) (o := .lst [.bl (decide (x = "BadOrder")), .bl (decide (x = "BadPrime")), .bl (decide (x = "BadSign"))])
    refine ⟨_, _, _, _, rfl, rfl, u2 _ _ l1, v2, (by show 9 ≤ sizeLine; decide), fun r2 nr2 => ?_⟩
    have w2 := u2.trans (same_new (o := .lst [.bl (decide (x = "BadColumn")), .bl (decide (x = "BadLength")), .bl (decide (x = "BadLine")), .bl (decide (x = "BadMatrix")), .bl (decide (x = "BadMove")), .bl (decide (x = "BadNumbers")), .bl (decide (x = "BadOrder")), .bl (decide (x = "BadPrime")), .bl (decide (x = "BadSign"))]) nr2)
    have l2 := upd_same (H := upd G1 q2 (.lst [.bl (decide (x = "BadOrder")), .bl (decide (x = "BadPrime")), .bl (decide (x = "BadSign"))])) (a := r2) (o := .lst [.bl (decide (x = "BadColumn")), .bl (decide (x = "BadLength")), .bl (decide (x = "BadLine")), .bl (decide (x = "BadMatrix")), .bl (decide (x = "BadMove")), .bl (decide (x = "BadNumbers")), .bl (decide (x = "BadOrder")), .bl (decide (x = "BadPrime")), .bl (decide (x = "BadSign"))])
    have t2 := t1.trans w2
    have e2 := e1.same w2
    generalize hG2 : upd (upd G1 q2 (.lst [.bl (decide (x = "BadOrder")), .bl (decide (x = "BadPrime")), .bl (decide (x = "BadSign"))])) r2 (.lst [.bl (decide (x = "BadColumn")), .bl (decide (x = "BadLength")), .bl (decide (x = "BadLine")), .bl (decide (x = "BadMatrix")), .bl (decide (x = "BadMove")), .bl (decide (x = "BadNumbers")), .bl (decide (x = "BadOrder")), .bl (decide (x = "BadPrime")), .bl (decide (x = "BadSign"))]) = G2 at w2 l2 t2 e2
    have hG2' : upd (upd G1 q2 (.lst [.bl (decide (x = "BadOrder")), .bl (decide (x = "BadPrime")), .bl (decide (x = "BadSign"))])) r2 (.lst ([.bl (decide (x = "BadColumn")), .bl (decide (x = "BadLength")), .bl (decide (x = "BadLine")), .bl (decide (x = "BadMatrix")), .bl (decide (x = "BadMove")), .bl (decide (x = "BadNumbers"))] ++ [.bl (decide (x = "BadOrder")), .bl (decide (x = "BadPrime")), .bl (decide (x = "BadSign"))])) = G2 := hG2
    rw [hG2']
    obtain ⟨_, de2, he2, ke2⟩ := id e2
    refine ⟨_, rfl, ⟨_, rfl, a, _, de2, _, _, _, rfl, xc, he2, ke2, .own _, T.kit x mx _ errBadText, ⟨_, rfl, a, _, de2, _, _, _, rfl, xc, he2, ke2, .own _, T.kit x mx _ errBadVector, ⟨_, rfl, a, _, de2, _, _, _, rfl, xc, he2, ke2, .own _, T.kit x mx _ errBarred, ⟨(by show 3 ≤ sizeLine; decide), fun q3 nq3 => ?_⟩⟩⟩⟩⟩
    have u3 := same_new (o := .lst [.bl (decide (x = "BadText")), .bl (decide (x = "BadVector")), .bl (decide (x = "Barred"))]) nq3
    have v3 := upd_same (H := G2) (a := q3) (o := .lst [.bl (decide (x = "BadText")), .bl (decide (x = "BadVector")), .bl (decide (x = "Barred"))])
    refine ⟨_, _, _, _, rfl, rfl, u3 _ _ l2, v3, (by show 12 ≤ sizeLine; decide), fun r3 nr3 => ?_⟩
    have w3 := u3.trans (same_new (o := .lst [.bl (decide (x = "BadColumn")), .bl (decide (x = "BadLength")), .bl (decide (x = "BadLine")), .bl (decide (x = "BadMatrix")), .bl (decide (x = "BadMove")), .bl (decide (x = "BadNumbers")), .bl (decide (x = "BadOrder")), .bl (decide (x = "BadPrime")), .bl (decide (x = "BadSign")), .bl (decide (x = "BadText")), .bl (decide (x = "BadVector")), .bl (decide (x = "Barred"))]) nr3)
    have l3 := upd_same (H := upd G2 q3 (.lst [.bl (decide (x = "BadText")), .bl (decide (x = "BadVector")), .bl (decide (x = "Barred"))])) (a := r3) (o := .lst [.bl (decide (x = "BadColumn")), .bl (decide (x = "BadLength")), .bl (decide (x = "BadLine")), .bl (decide (x = "BadMatrix")), .bl (decide (x = "BadMove")), .bl (decide (x = "BadNumbers")), .bl (decide (x = "BadOrder")), .bl (decide (x = "BadPrime")), .bl (decide (x = "BadSign")), .bl (decide (x = "BadText")), .bl (decide (x = "BadVector")), .bl (decide (x = "Barred"))])
    have t3 := t2.trans w3
    have e3 := e2.same w3
    generalize hG3 : upd (upd G2 q3 (.lst [.bl (decide (x = "BadText")), .bl (decide (x = "BadVector")), .bl (decide (x = "Barred"))])) r3 (.lst [.bl (decide (x = "BadColumn")), .bl (decide (x = "BadLength")), .bl (decide (x = "BadLine")), .bl (decide (x = "BadMatrix")), .bl (decide (x = "BadMove")), .bl (decide (x = "BadNumbers")), .bl (decide (x = "BadOrder")), .bl (decide (x = "BadPrime")), .bl (decide (x = "BadSign")), .bl (decide (x = "BadText")), .bl (decide (x = "BadVector")), .bl (decide (x = "Barred"))]) = G3 at w3 l3 t3 e3
    have hG3' : upd (upd G2 q3 (.lst [.bl (decide (x = "BadText")), .bl (decide (x = "BadVector")), .bl (decide (x = "Barred"))])) r3 (.lst ([.bl (decide (x = "BadColumn")), .bl (decide (x = "BadLength")), .bl (decide (x = "BadLine")), .bl (decide (x = "BadMatrix")), .bl (decide (x = "BadMove")), .bl (decide (x = "BadNumbers")), .bl (decide (x = "BadOrder")), .bl (decide (x = "BadPrime")), .bl (decide (x = "BadSign"))] ++ [.bl (decide (x = "BadText")), .bl (decide (x = "BadVector")), .bl (decide (x = "Barred"))])) = G3 := hG3
    rw [hG3']
    obtain ⟨_, de3, he3, ke3⟩ := id e3
    refine ⟨_, rfl, ⟨_, rfl, a, _, de3, _, _, _, rfl, xc, he3, ke3, .own _, T.kit x mx _ errClash, ⟨_, rfl, a, _, de3, _, _, _, rfl, xc, he3, ke3, .own _, T.kit x mx _ errNoCell, ⟨_, rfl, a, _, de3, _, _, _, rfl, xc, he3, ke3, .own _, T.kit x mx _ errNoHand, ⟨(by show 3 ≤ sizeLine; decide), fun q4 nq4 => ?_⟩⟩⟩⟩⟩
    have u4 := same_new (o := .lst [.bl (decide (x = "Clash")), .bl (decide (x = "NoCell")), .bl (decide (x = "NoHand"))]) nq4
    have v4 := upd_same (H := G3) (a := q4) (o := .lst [.bl (decide (x = "Clash")), .bl (decide (x = "NoCell")), .bl (decide (x = "NoHand"))])
    refine ⟨_, _, _, _, rfl, rfl, u4 _ _ l3, v4, (by show 15 ≤ sizeLine; decide), fun r4 nr4 => ?_⟩
    have w4 := u4.trans (same_new (o := .lst [.bl (decide (x = "BadColumn")), .bl (decide (x = "BadLength")), .bl (decide (x = "BadLine")), .bl (decide (x = "BadMatrix")), .bl (decide (x = "BadMove")), .bl (decide (x = "BadNumbers")), .bl (decide (x = "BadOrder")), .bl (decide (x = "BadPrime")), .bl (decide (x = "BadSign")), .bl (decide (x = "BadText")), .bl (decide (x = "BadVector")), .bl (decide (x = "Barred")), .bl (decide (x = "Clash")), .bl (decide (x = "NoCell")), .bl (decide (x = "NoHand"))]) nr4)
    have l4 := upd_same (H := upd G3 q4 (.lst [.bl (decide (x = "Clash")), .bl (decide (x = "NoCell")), .bl (decide (x = "NoHand"))])) (a := r4) (o := .lst [.bl (decide (x = "BadColumn")), .bl (decide (x = "BadLength")), .bl (decide (x = "BadLine")), .bl (decide (x = "BadMatrix")), .bl (decide (x = "BadMove")), .bl (decide (x = "BadNumbers")), .bl (decide (x = "BadOrder")), .bl (decide (x = "BadPrime")), .bl (decide (x = "BadSign")), .bl (decide (x = "BadText")), .bl (decide (x = "BadVector")), .bl (decide (x = "Barred")), .bl (decide (x = "Clash")), .bl (decide (x = "NoCell")), .bl (decide (x = "NoHand"))])
    have t4 := t3.trans w4
    have e4 := e3.same w4
    generalize hG4 : upd (upd G3 q4 (.lst [.bl (decide (x = "Clash")), .bl (decide (x = "NoCell")), .bl (decide (x = "NoHand"))])) r4 (.lst [.bl (decide (x = "BadColumn")), .bl (decide (x = "BadLength")), .bl (decide (x = "BadLine")), .bl (decide (x = "BadMatrix")), .bl (decide (x = "BadMove")), .bl (decide (x = "BadNumbers")), .bl (decide (x = "BadOrder")), .bl (decide (x = "BadPrime")), .bl (decide (x = "BadSign")), .bl (decide (x = "BadText")), .bl (decide (x = "BadVector")), .bl (decide (x = "Barred")), .bl (decide (x = "Clash")), .bl (decide (x = "NoCell")), .bl (decide (x = "NoHand"))]) = G4 at w4 l4 t4 e4
    have hG4' : upd (upd G3 q4 (.lst [.bl (decide (x = "Clash")), .bl (decide (x = "NoCell")), .bl (decide (x = "NoHand"))])) r4 (.lst ([.bl (decide (x = "BadColumn")), .bl (decide (x = "BadLength")), .bl (decide (x = "BadLine")), .bl (decide (x = "BadMatrix")), .bl (decide (x = "BadMove")), .bl (decide (x = "BadNumbers")), .bl (decide (x = "BadOrder")), .bl (decide (x = "BadPrime")), .bl (decide (x = "BadSign")), .bl (decide (x = "BadText")), .bl (decide (x = "BadVector")), .bl (decide (x = "Barred"))] ++ [.bl (decide (x = "Clash")), .bl (decide (x = "NoCell")), .bl (decide (x = "NoHand"))])) = G4 := hG4
    rw [hG4']
    obtain ⟨_, de4, he4, ke4⟩ := id e4
    refine ⟨_, rfl, ⟨_, rfl, a, _, de4, _, _, _, rfl, xc, he4, ke4, .own _, T.kit x mx _ errNoInverse, ⟨_, rfl, a, _, de4, _, _, _, rfl, xc, he4, ke4, .own _, T.kit x mx _ errNoKind, ⟨_, rfl, a, _, de4, _, _, _, rfl, xc, he4, ke4, .own _, T.kit x mx _ errNoSpace, ⟨(by show 3 ≤ sizeLine; decide), fun q5 nq5 => ?_⟩⟩⟩⟩⟩
    have u5 := same_new (o := .lst [.bl (decide (x = "NoInverse")), .bl (decide (x = "NoKind")), .bl (decide (x = "NoSpace"))]) nq5
    have v5 := upd_same (H := G4) (a := q5) (o := .lst [.bl (decide (x = "NoInverse")), .bl (decide (x = "NoKind")), .bl (decide (x = "NoSpace"))])
    refine ⟨_, _, _, _, rfl, rfl, u5 _ _ l4, v5, (by show 18 ≤ sizeLine; decide), fun r5 nr5 => ?_⟩
    have w5 := u5.trans (same_new (o := .lst [.bl (decide (x = "BadColumn")), .bl (decide (x = "BadLength")), .bl (decide (x = "BadLine")), .bl (decide (x = "BadMatrix")), .bl (decide (x = "BadMove")), .bl (decide (x = "BadNumbers")), .bl (decide (x = "BadOrder")), .bl (decide (x = "BadPrime")), .bl (decide (x = "BadSign")), .bl (decide (x = "BadText")), .bl (decide (x = "BadVector")), .bl (decide (x = "Barred")), .bl (decide (x = "Clash")), .bl (decide (x = "NoCell")), .bl (decide (x = "NoHand")), .bl (decide (x = "NoInverse")), .bl (decide (x = "NoKind")), .bl (decide (x = "NoSpace"))]) nr5)
    have l5 := upd_same (H := upd G4 q5 (.lst [.bl (decide (x = "NoInverse")), .bl (decide (x = "NoKind")), .bl (decide (x = "NoSpace"))])) (a := r5) (o := .lst [.bl (decide (x = "BadColumn")), .bl (decide (x = "BadLength")), .bl (decide (x = "BadLine")), .bl (decide (x = "BadMatrix")), .bl (decide (x = "BadMove")), .bl (decide (x = "BadNumbers")), .bl (decide (x = "BadOrder")), .bl (decide (x = "BadPrime")), .bl (decide (x = "BadSign")), .bl (decide (x = "BadText")), .bl (decide (x = "BadVector")), .bl (decide (x = "Barred")), .bl (decide (x = "Clash")), .bl (decide (x = "NoCell")), .bl (decide (x = "NoHand")), .bl (decide (x = "NoInverse")), .bl (decide (x = "NoKind")), .bl (decide (x = "NoSpace"))])
    have t5 := t4.trans w5
    have e5 := e4.same w5
    generalize hG5 : upd (upd G4 q5 (.lst [.bl (decide (x = "NoInverse")), .bl (decide (x = "NoKind")), .bl (decide (x = "NoSpace"))])) r5 (.lst [.bl (decide (x = "BadColumn")), .bl (decide (x = "BadLength")), .bl (decide (x = "BadLine")), .bl (decide (x = "BadMatrix")), .bl (decide (x = "BadMove")), .bl (decide (x = "BadNumbers")), .bl (decide (x = "BadOrder")), .bl (decide (x = "BadPrime")), .bl (decide (x = "BadSign")), .bl (decide (x = "BadText")), .bl (decide (x = "BadVector")), .bl (decide (x = "Barred")), .bl (decide (x = "Clash")), .bl (decide (x = "NoCell")), .bl (decide (x = "NoHand")), .bl (decide (x = "NoInverse")), .bl (decide (x = "NoKind")), .bl (decide (x = "NoSpace"))]) = G5 at w5 l5 t5 e5
    have hG5' : upd (upd G4 q5 (.lst [.bl (decide (x = "NoInverse")), .bl (decide (x = "NoKind")), .bl (decide (x = "NoSpace"))])) r5 (.lst ([.bl (decide (x = "BadColumn")), .bl (decide (x = "BadLength")), .bl (decide (x = "BadLine")), .bl (decide (x = "BadMatrix")), .bl (decide (x = "BadMove")), .bl (decide (x = "BadNumbers")), .bl (decide (x = "BadOrder")), .bl (decide (x = "BadPrime")), .bl (decide (x = "BadSign")), .bl (decide (x = "BadText")), .bl (decide (x = "BadVector")), .bl (decide (x = "Barred")), .bl (decide (x = "Clash")), .bl (decide (x = "NoCell")), .bl (decide (x = "NoHand"))] ++ [.bl (decide (x = "NoInverse")), .bl (decide (x = "NoKind")), .bl (decide (x = "NoSpace"))])) = G5 := hG5
    rw [hG5']
    obtain ⟨_, de5, he5, ke5⟩ := id e5
    refine ⟨_, rfl, ⟨_, rfl, a, _, de5, _, _, _, rfl, xc, he5, ke5, .own _, T.kit x mx _ errNothingToRedo, ⟨_, rfl, a, _, de5, _, _, _, rfl, xc, he5, ke5, .own _, T.kit x mx _ errNothingToUndo, ⟨_, rfl, a, _, de5, _, _, _, rfl, xc, he5, ke5, .own _, T.kit x mx _ errNotWithin, ⟨(by show 3 ≤ sizeLine; decide), fun q6 nq6 => ?_⟩⟩⟩⟩⟩
    have u6 := same_new (o := .lst [.bl (decide (x = "NothingToRedo")), .bl (decide (x = "NothingToUndo")), .bl (decide (x = "NotWithin"))]) nq6
    have v6 := upd_same (H := G5) (a := q6) (o := .lst [.bl (decide (x = "NothingToRedo")), .bl (decide (x = "NothingToUndo")), .bl (decide (x = "NotWithin"))])
    refine ⟨_, _, _, _, rfl, rfl, u6 _ _ l5, v6, (by show 21 ≤ sizeLine; decide), fun r6 nr6 => ?_⟩
    have w6 := u6.trans (same_new (o := .lst [.bl (decide (x = "BadColumn")), .bl (decide (x = "BadLength")), .bl (decide (x = "BadLine")), .bl (decide (x = "BadMatrix")), .bl (decide (x = "BadMove")), .bl (decide (x = "BadNumbers")), .bl (decide (x = "BadOrder")), .bl (decide (x = "BadPrime")), .bl (decide (x = "BadSign")), .bl (decide (x = "BadText")), .bl (decide (x = "BadVector")), .bl (decide (x = "Barred")), .bl (decide (x = "Clash")), .bl (decide (x = "NoCell")), .bl (decide (x = "NoHand")), .bl (decide (x = "NoInverse")), .bl (decide (x = "NoKind")), .bl (decide (x = "NoSpace")), .bl (decide (x = "NothingToRedo")), .bl (decide (x = "NothingToUndo")), .bl (decide (x = "NotWithin"))]) nr6)
    have l6 := upd_same (H := upd G5 q6 (.lst [.bl (decide (x = "NothingToRedo")), .bl (decide (x = "NothingToUndo")), .bl (decide (x = "NotWithin"))])) (a := r6) (o := .lst [.bl (decide (x = "BadColumn")), .bl (decide (x = "BadLength")), .bl (decide (x = "BadLine")), .bl (decide (x = "BadMatrix")), .bl (decide (x = "BadMove")), .bl (decide (x = "BadNumbers")), .bl (decide (x = "BadOrder")), .bl (decide (x = "BadPrime")), .bl (decide (x = "BadSign")), .bl (decide (x = "BadText")), .bl (decide (x = "BadVector")), .bl (decide (x = "Barred")), .bl (decide (x = "Clash")), .bl (decide (x = "NoCell")), .bl (decide (x = "NoHand")), .bl (decide (x = "NoInverse")), .bl (decide (x = "NoKind")), .bl (decide (x = "NoSpace")), .bl (decide (x = "NothingToRedo")), .bl (decide (x = "NothingToUndo")), .bl (decide (x = "NotWithin"))])
    have t6 := t5.trans w6
    have e6 := e5.same w6
    generalize hG6 : upd (upd G5 q6 (.lst [.bl (decide (x = "NothingToRedo")), .bl (decide (x = "NothingToUndo")), .bl (decide (x = "NotWithin"))])) r6 (.lst [.bl (decide (x = "BadColumn")), .bl (decide (x = "BadLength")), .bl (decide (x = "BadLine")), .bl (decide (x = "BadMatrix")), .bl (decide (x = "BadMove")), .bl (decide (x = "BadNumbers")), .bl (decide (x = "BadOrder")), .bl (decide (x = "BadPrime")), .bl (decide (x = "BadSign")), .bl (decide (x = "BadText")), .bl (decide (x = "BadVector")), .bl (decide (x = "Barred")), .bl (decide (x = "Clash")), .bl (decide (x = "NoCell")), .bl (decide (x = "NoHand")), .bl (decide (x = "NoInverse")), .bl (decide (x = "NoKind")), .bl (decide (x = "NoSpace")), .bl (decide (x = "NothingToRedo")), .bl (decide (x = "NothingToUndo")), .bl (decide (x = "NotWithin"))]) = G6 at w6 l6 t6 e6
    have hG6' : upd (upd G5 q6 (.lst [.bl (decide (x = "NothingToRedo")), .bl (decide (x = "NothingToUndo")), .bl (decide (x = "NotWithin"))])) r6 (.lst ([.bl (decide (x = "BadColumn")), .bl (decide (x = "BadLength")), .bl (decide (x = "BadLine")), .bl (decide (x = "BadMatrix")), .bl (decide (x = "BadMove")), .bl (decide (x = "BadNumbers")), .bl (decide (x = "BadOrder")), .bl (decide (x = "BadPrime")), .bl (decide (x = "BadSign")), .bl (decide (x = "BadText")), .bl (decide (x = "BadVector")), .bl (decide (x = "Barred")), .bl (decide (x = "Clash")), .bl (decide (x = "NoCell")), .bl (decide (x = "NoHand")), .bl (decide (x = "NoInverse")), .bl (decide (x = "NoKind")), .bl (decide (x = "NoSpace"))] ++ [.bl (decide (x = "NothingToRedo")), .bl (decide (x = "NothingToUndo")), .bl (decide (x = "NotWithin"))])) = G6 := hG6
    rw [hG6']
    obtain ⟨_, de6, he6, ke6⟩ := id e6
    refine ⟨_, rfl, ⟨_, rfl, a, _, de6, _, _, _, rfl, xc, he6, ke6, .own _, T.kit x mx _ errTooGreat, ⟨_, rfl, a, _, de6, _, _, _, rfl, xc, he6, ke6, .own _, T.kit x mx _ errUnlikeSpaces, ⟨(by show 2 ≤ sizeLine; decide), fun q7 nq7 => ?_⟩⟩⟩⟩
    have u7 := same_new (o := .lst [.bl (decide (x = "TooGreat")), .bl (decide (x = "UnlikeSpaces"))]) nq7
    have v7 := upd_same (H := G6) (a := q7) (o := .lst [.bl (decide (x = "TooGreat")), .bl (decide (x = "UnlikeSpaces"))])
    refine ⟨_, _, _, _, rfl, rfl, u7 _ _ l6, v7, (by show 23 ≤ sizeLine; decide), fun r7 nr7 => ?_⟩
    have w7 := u7.trans (same_new (o := .lst [.bl (decide (x = "BadColumn")), .bl (decide (x = "BadLength")), .bl (decide (x = "BadLine")), .bl (decide (x = "BadMatrix")), .bl (decide (x = "BadMove")), .bl (decide (x = "BadNumbers")), .bl (decide (x = "BadOrder")), .bl (decide (x = "BadPrime")), .bl (decide (x = "BadSign")), .bl (decide (x = "BadText")), .bl (decide (x = "BadVector")), .bl (decide (x = "Barred")), .bl (decide (x = "Clash")), .bl (decide (x = "NoCell")), .bl (decide (x = "NoHand")), .bl (decide (x = "NoInverse")), .bl (decide (x = "NoKind")), .bl (decide (x = "NoSpace")), .bl (decide (x = "NothingToRedo")), .bl (decide (x = "NothingToUndo")), .bl (decide (x = "NotWithin")), .bl (decide (x = "TooGreat")), .bl (decide (x = "UnlikeSpaces"))]) nr7)
    have l7 := upd_same (H := upd G6 q7 (.lst [.bl (decide (x = "TooGreat")), .bl (decide (x = "UnlikeSpaces"))])) (a := r7) (o := .lst [.bl (decide (x = "BadColumn")), .bl (decide (x = "BadLength")), .bl (decide (x = "BadLine")), .bl (decide (x = "BadMatrix")), .bl (decide (x = "BadMove")), .bl (decide (x = "BadNumbers")), .bl (decide (x = "BadOrder")), .bl (decide (x = "BadPrime")), .bl (decide (x = "BadSign")), .bl (decide (x = "BadText")), .bl (decide (x = "BadVector")), .bl (decide (x = "Barred")), .bl (decide (x = "Clash")), .bl (decide (x = "NoCell")), .bl (decide (x = "NoHand")), .bl (decide (x = "NoInverse")), .bl (decide (x = "NoKind")), .bl (decide (x = "NoSpace")), .bl (decide (x = "NothingToRedo")), .bl (decide (x = "NothingToUndo")), .bl (decide (x = "NotWithin")), .bl (decide (x = "TooGreat")), .bl (decide (x = "UnlikeSpaces"))])
    have t7 := t6.trans w7
    have e7 := e6.same w7
    generalize hG7 : upd (upd G6 q7 (.lst [.bl (decide (x = "TooGreat")), .bl (decide (x = "UnlikeSpaces"))])) r7 (.lst [.bl (decide (x = "BadColumn")), .bl (decide (x = "BadLength")), .bl (decide (x = "BadLine")), .bl (decide (x = "BadMatrix")), .bl (decide (x = "BadMove")), .bl (decide (x = "BadNumbers")), .bl (decide (x = "BadOrder")), .bl (decide (x = "BadPrime")), .bl (decide (x = "BadSign")), .bl (decide (x = "BadText")), .bl (decide (x = "BadVector")), .bl (decide (x = "Barred")), .bl (decide (x = "Clash")), .bl (decide (x = "NoCell")), .bl (decide (x = "NoHand")), .bl (decide (x = "NoInverse")), .bl (decide (x = "NoKind")), .bl (decide (x = "NoSpace")), .bl (decide (x = "NothingToRedo")), .bl (decide (x = "NothingToUndo")), .bl (decide (x = "NotWithin")), .bl (decide (x = "TooGreat")), .bl (decide (x = "UnlikeSpaces"))]) = G7 at w7 l7 t7 e7
    have hG7' : upd (upd G6 q7 (.lst [.bl (decide (x = "TooGreat")), .bl (decide (x = "UnlikeSpaces"))])) r7 (.lst ([.bl (decide (x = "BadColumn")), .bl (decide (x = "BadLength")), .bl (decide (x = "BadLine")), .bl (decide (x = "BadMatrix")), .bl (decide (x = "BadMove")), .bl (decide (x = "BadNumbers")), .bl (decide (x = "BadOrder")), .bl (decide (x = "BadPrime")), .bl (decide (x = "BadSign")), .bl (decide (x = "BadText")), .bl (decide (x = "BadVector")), .bl (decide (x = "Barred")), .bl (decide (x = "Clash")), .bl (decide (x = "NoCell")), .bl (decide (x = "NoHand")), .bl (decide (x = "NoInverse")), .bl (decide (x = "NoKind")), .bl (decide (x = "NoSpace")), .bl (decide (x = "NothingToRedo")), .bl (decide (x = "NothingToUndo")), .bl (decide (x = "NotWithin"))] ++ [.bl (decide (x = "TooGreat")), .bl (decide (x = "UnlikeSpaces"))])) = G7 := hG7
    rw [hG7']
    have hb : G7 r7 = some (.lst (bits x)) := l7
    refine ⟨_, rfl, r7, rfl, ⟨_, SqL.of hb⟩, fun D hD => ?_⟩
    refine lc_list (K := K) (a := r7) (xs := bits x) (fun i H' => Same G7 H' ∧ H' D = some (.lst (((bits x).take i).filter isT))) ⟨same_new hD, upd_same⟩ (fun i H' _ z => SqL.of (z.1 _ _ hb)) ?_ ?_
    · rintro i y H' hy ⟨z1, z2⟩
      obtain ⟨b, rfl⟩ : ∃ b, y = V.bl b := by
        have m := List.mem_of_getElem? hy
        obtain ⟨y', _, e'⟩ := List.mem_map.mp m
        exact ⟨_, e'.symm⟩
      have fm := filter_more hy
      refine ⟨rfl, _, rfl, b, rfl, ?_⟩
      have lt : i < 23 := (List.getElem?_eq_some_iff.mp hy).1
      cases b with
      | true =>
        refine iteT ⟨_, rfl, _, z2, ?_, ?_, ?_⟩
        · have h1 := List.length_filter_le isT ((bits x).take i)
          have h2 := List.length_take_le i (bits x)
          exact small1000 (by omega)
        · exact fun c o ho => by
            rw [upd_ne (ne_of_none ho hD)]
            exact z1 c o ho
        · rw [upd_same, fm]
          rfl
      | false =>
        refine iteF ⟨z1, ?_⟩
        rw [z2, fm]
        simp [isT]
    · rintro H' ⟨z1, z2⟩
      rw [show (bits x).length = 23 from rfl] at z2
      have e23 : (bits x).take 23 = bits x := rfl
      rw [e23] at z2
      refine ⟨_, _, rfl, .inl (SqL.of z2), ?_⟩
      have o1 := one_bit x mx
      show Q (.int ((((bits x).filter isT).length : Nat) : Int)) H'
      rw [o1]
      exact k H' (t7.trans z1)
end
end K1

set_option Elab.async false
set_option linter.all false
set_option maxRecDepth 100000
set_option maxHeartbeats 8000000
namespace K1
open PySem PySem.Spec PyProof.Rows L2 VX
section
variable {P : Program} {w : World} {K : PySem.W.Frag} {mg : Str → Option Value} {base : Heap} {f : Addr} {fd : FuncData}
/-! ### _law_bases -/
def AllErr (K : PySem.W.Frag) (H : Hp) (xs : List V) : Prop := ∀ v ∈ xs, ∃ a x, v = .ref a ∧ Err K H a x
theorem AllErr.same {K : PySem.W.Frag} {H H' : Hp} {xs : List V} (h : AllErr K H xs) (s : Same H H') : AllErr K H' xs := fun v hv => by
  obtain ⟨a, x, e, z⟩ := h v hv
  exact ⟨a, x, e, z.same s⟩
theorem AllErr.nil {K : PySem.W.Frag} {H : Hp} : AllErr K H [] := fun v hv => nomatch hv
theorem AllErr.cons {K : PySem.W.Frag} {H : Hp} {a : Addr} {x : Str} {xs : List V} (e : Err K H a x) (h : AllErr K H xs) : AllErr K H (.ref a :: xs) := fun v hv => by
  rcases List.mem_cons.mp hv with rfl | hv
  · exact ⟨a, x, rfl, e⟩
  · exact h v hv
theorem AllErr.app {K : PySem.W.Frag} {H : Hp} {xs ys : List V} (h : AllErr K H xs) (g : AllErr K H ys) : AllErr K H (xs ++ ys) := fun v hv => by
  rcases List.mem_append.mp hv with hv | hv
  · exact h v hv
  · exact g v hv
def spBases : Sp := fun vs H Q _ => vs = [] ∧ ∀ H', Same H H' → Q (.bl true) H'
theorem sc_bases : FnScope ["_law_made", "_law_bad", "_law_e"] [] (defScope (top 39)) := ⟨rfl, rfl, rfl, by decide +kernel, rfl, (fun x h => nomatch h), by decide +kernel⟩
theorem ok_bases {fdK : FuncData} (F : FnP K "_law_bases" 39 f fd) (T : Txt K mg) (ini : ∀ q ∈ withF, IniOk P w K mg base q.1 q.2.1) (FK : FnP K "_law_kinds" 38 (He.ga K "_law_kinds") fdK) : FnOk P w K mg base CX0 3 f fd [] spBases := by
  have GK : FnOk P w K mg base CX0 1 _ fdK ["_law_e"] (spKinds K) := ok_kinds FK T
  have BK : Binds K fdK ["_law_e"] [] := FK.bindsN fun _ _ _ _ _ _ us hl => match us, hl with | [_], _ => rfl
  have i0 := T.free "isinstance" (by decide +kernel)
  have iV := T.free "ValueError" (by decide +kernel)
  have gK := T.dfs ("_law_kinds", 38) (by decide +kernel)
  refine F.ok sc_bases (fun vs H Q E h => ?_) (fun cdv A outer s H vs Q E hr h => ?_)
  · obtain ⟨rfl, _⟩ := h
    rfl
  · obtain ⟨rfl, k⟩ := h
    have hr1 : Room 1 _ := hr.mono (by decide)
    have hu := hr.units0
    refine ⟨_, PSs.nox (pss_cons (ps_set (i := 0) sc_bases.nd rfl (Or.inl rfl) (pe_lst (pa_cons (pe_cv T (ini _ memBadPrime) memBadPrime hr pe_int) (pa_cons (pe_cv T (ini _ memNoInverse) memNoInverse hr pe_int) (pa_cons (pe_cv T (ini _ memBadLength) memBadLength hr (pe_un un_neg pe_int)) (pa_cons (pe_cv T (ini _ memBadVector) memBadVector hr (pe_lst pa_nil)) (pa_cons (pe_pv T plUnlikeSpaces) (pa_cons (pe_pv T plNotWithin) (pa_cons (pe_pv T plBadMatrix) pa_nil)))))))))
      (pss_cons (ps_set (i := 0) sc_bases.nd rfl (Or.inl rfl) (pe_op op_cat (pv 0) (pe_lst (pa_cons (pe_pv T plBadText) (pa_cons (pe_cv T (ini _ memBadSign) memBadSign hr pe_str) (pa_cons (pe_cv T (ini _ memBadColumn) memBadColumn hr pe_int) (pa_cons (pe_cv T (ini _ memBadOrder) memBadOrder hr pe_str) (pa_cons (pe_cv T (ini _ memNoHand) memNoHand hr pe_str) (pa_cons (pe_cv T (ini _ memNoKind) memNoKind hr pe_str) (pa_cons (pe_pv T plBadNumbers) pa_nil))))))))))
      (pss_cons (ps_set (i := 0) sc_bases.nd rfl (Or.inl rfl) (pe_op op_cat (pv 0) (pe_lst (pa_cons (pe_cv T (ini _ memTooGreat) memTooGreat hr pe_int) (pa_cons (pe_pv T plClash) (pa_cons (pe_cv T (ini _ memBadMove) memBadMove hr (pe_tup pa_nil)) (pa_cons (pe_cv T (ini _ memBarred) memBarred hr pe_int) (pa_cons (pe_cv T (ini _ memBadLine) memBadLine hr pe_int) (pa_cons (pe_pv T plNothingToUndo) (pa_cons (pe_pv T plNothingToRedo) pa_nil))))))))))
      (pss_cons (ps_set (i := 0) sc_bases.nd rfl (Or.inl rfl) (pe_op op_cat (pv 0) (pe_lst (pa_cons (pe_cv T (ini _ memNoSpace) memNoSpace hr (pe_tup pa_nil)) (pa_cons (pe_cv T (ini _ memNoCell) memNoCell hr (pe_tup pa_nil)) pa_nil)))))
      (pss_cons (ps_setLc (i := 1) (own := [("_law_e", 2)]) (g := gName 2) (by rfl) sc_bases.nd rfl rfl (sw_true rfl rfl rfl (by decide +kernel)) (pi_list (pv 0)) (blkOk_by (own := [("_law_e", 2)]) (N := ["_law_made", "_law_bad", "_law_e"]) (sc := defScope (top 39)) (by decide +kernel)) (fun _ _ _ _ _ => pg_name (i := 2) sc_bases.nd rfl (Or.inl rfl)) (fun _ _ _ _ _ => pts_one (PW.pt (pw_or (pt_not (pt_val (pe_callB (r := rIsX K) call_isX (by rfl) i0 boot_isinstance (pa_cons (pv 2) (pa_cons (pe_glob (v := .ref (He.ga K "HandError")) (by rfl) T.hand rfl) pa_nil))))) (pw_or1 (pt_not (pt_val (pe_callB (r := rIsX K) call_isX (by rfl) i0 boot_isinstance (pa_cons (pv 2) (pa_cons (pe_bltn (v := .ty "ValueError") (by rfl) iV PyProof.Rows.Boot.«ValueError» rfl) pa_nil))))))))) (fun _ _ _ _ _ => pv 2))
      (pss_one (ps_ret (pe_and (pe_cmpR (op_eqSame hu) (pv 1) (pe_lst pa_nil) (nomark _)) (pe_one (pe_cmpR (op_eqSame hu) (pe_lc (own := [("_law_e", 2)]) (g := gName 2) (by rfl) sc_bases.nd (pi_list (pv 0)) (blkOk_by (own := [("_law_e", 2)]) (N := ["_law_made", "_law_bad", "_law_e"]) (sc := defScope (top 39)) (by decide +kernel)) (fun _ _ _ _ _ => pg_name (i := 2) sc_bases.nd rfl (Or.inl rfl)) (fun _ _ _ _ _ => pts_one (pt_cmpR op_ne (pe_call GK hr1 (by rfl) gK FK.kp BK .nil pass0 (pa_cons (pv 2) pa_nil)) pe_int (nomark _))) (fun _ _ _ _ _ => pv 2)) (pe_lst pa_nil) (nomark _))))))))))), ?_⟩
    refine fun a1 H1 s1 er1 => fun a2 H2 s2 er2 => ⟨_, rfl, fun a3 H3 s3 er3 => ⟨(by show 0 ≤ sizeLine; decide), fun x4 nx4 => fun a4 H4 s4 er4 => fun a5 H5 s5 er5 => fun a6 H6 s6 er6 => fun a7 H7 s7 er7 => ⟨(by show 7 ≤ sizeLine; decide), fun q0 nq0 => ?_⟩⟩⟩
    have u0 := ((((((((s1.trans s2).trans s3).trans (same_new (o := .lst []) nx4)).trans s4).trans s5).trans s6).trans s7).trans (same_new (o := .lst [.ref a1, .ref a2, .ref a3, .ref a4, .ref a5, .ref a6, .ref a7]) nq0))
    have v0 := upd_same (H := H7) (a := q0) (o := .lst [.ref a1, .ref a2, .ref a3, .ref a4, .ref a5, .ref a6, .ref a7])
    have b0 := (AllErr.cons (er1.same (((((((s2.trans s3).trans (same_new (o := .lst []) nx4)).trans s4).trans s5).trans s6).trans s7).trans (same_new (o := .lst [.ref a1, .ref a2, .ref a3, .ref a4, .ref a5, .ref a6, .ref a7]) nq0))) (AllErr.cons (er2.same ((((((s3.trans (same_new (o := .lst []) nx4)).trans s4).trans s5).trans s6).trans s7).trans (same_new (o := .lst [.ref a1, .ref a2, .ref a3, .ref a4, .ref a5, .ref a6, .ref a7]) nq0))) (AllErr.cons (er3.same ((((((same_new (o := .lst []) nx4).trans s4).trans s5).trans s6).trans s7).trans (same_new (o := .lst [.ref a1, .ref a2, .ref a3, .ref a4, .ref a5, .ref a6, .ref a7]) nq0))) (AllErr.cons (er4.same (((s5.trans s6).trans s7).trans (same_new (o := .lst [.ref a1, .ref a2, .ref a3, .ref a4, .ref a5, .ref a6, .ref a7]) nq0))) (AllErr.cons (er5.same ((s6.trans s7).trans (same_new (o := .lst [.ref a1, .ref a2, .ref a3, .ref a4, .ref a5, .ref a6, .ref a7]) nq0))) (AllErr.cons (er6.same (s7.trans (same_new (o := .lst [.ref a1, .ref a2, .ref a3, .ref a4, .ref a5, .ref a6, .ref a7]) nq0))) (AllErr.cons (er7.same (same_new (o := .lst [.ref a1, .ref a2, .ref a3, .ref a4, .ref a5, .ref a6, .ref a7]) nq0)) AllErr.nil)))))))
    generalize upd H7 q0 (.lst [.ref a1, .ref a2, .ref a3, .ref a4, .ref a5, .ref a6, .ref a7]) = G0 at u0 v0 b0 ⊢
    have t0 := u0
    have l0 := v0
    have A0 := b0
    refine ⟨_, rfl, fun a8 H8 s8 er8 => fun a9 H9 s9 er9 => fun a10 H10 s10 er10 => fun a11 H11 s11 er11 => fun a12 H12 s12 er12 => fun a13 H13 s13 er13 => fun a14 H14 s14 er14 => ⟨(by show 7 ≤ sizeLine; decide), fun q1 nq1 => ?_⟩⟩
    have u1 := (((((((s8.trans s9).trans s10).trans s11).trans s12).trans s13).trans s14).trans (same_new (o := .lst [.ref a8, .ref a9, .ref a10, .ref a11, .ref a12, .ref a13, .ref a14]) nq1))
    have v1 := upd_same (H := H14) (a := q1) (o := .lst [.ref a8, .ref a9, .ref a10, .ref a11, .ref a12, .ref a13, .ref a14])
    have b1 := (AllErr.cons (er8.same ((((((s9.trans s10).trans s11).trans s12).trans s13).trans s14).trans (same_new (o := .lst [.ref a8, .ref a9, .ref a10, .ref a11, .ref a12, .ref a13, .ref a14]) nq1))) (AllErr.cons (er9.same (((((s10.trans s11).trans s12).trans s13).trans s14).trans (same_new (o := .lst [.ref a8, .ref a9, .ref a10, .ref a11, .ref a12, .ref a13, .ref a14]) nq1))) (AllErr.cons (er10.same ((((s11.trans s12).trans s13).trans s14).trans (same_new (o := .lst [.ref a8, .ref a9, .ref a10, .ref a11, .ref a12, .ref a13, .ref a14]) nq1))) (AllErr.cons (er11.same (((s12.trans s13).trans s14).trans (same_new (o := .lst [.ref a8, .ref a9, .ref a10, .ref a11, .ref a12, .ref a13, .ref a14]) nq1))) (AllErr.cons (er12.same ((s13.trans s14).trans (same_new (o := .lst [.ref a8, .ref a9, .ref a10, .ref a11, .ref a12, .ref a13, .ref a14]) nq1))) (AllErr.cons (er13.same (s14.trans (same_new (o := .lst [.ref a8, .ref a9, .ref a10, .ref a11, .ref a12, .ref a13, .ref a14]) nq1))) (AllErr.cons (er14.same (same_new (o := .lst [.ref a8, .ref a9, .ref a10, .ref a11, .ref a12, .ref a13, .ref a14]) nq1)) AllErr.nil)))))))
    refine ⟨_, _, _, _, rfl, rfl, u1 _ _ l0, v1, (by show 14 ≤ sizeLine; decide), fun r1 nr1 => ?_⟩
    have w1 := u1.trans (same_new (o := .lst [.ref a1, .ref a2, .ref a3, .ref a4, .ref a5, .ref a6, .ref a7, .ref a8, .ref a9, .ref a10, .ref a11, .ref a12, .ref a13, .ref a14]) nr1)
    have l1 := upd_same (H := upd H14 q1 (.lst [.ref a8, .ref a9, .ref a10, .ref a11, .ref a12, .ref a13, .ref a14])) (a := r1) (o := .lst [.ref a1, .ref a2, .ref a3, .ref a4, .ref a5, .ref a6, .ref a7, .ref a8, .ref a9, .ref a10, .ref a11, .ref a12, .ref a13, .ref a14])
    have A1 := (A0.same w1).app (b1.same (same_new (o := .lst [.ref a1, .ref a2, .ref a3, .ref a4, .ref a5, .ref a6, .ref a7, .ref a8, .ref a9, .ref a10, .ref a11, .ref a12, .ref a13, .ref a14]) nr1))
    have t1 := t0.trans w1
    generalize hG1 : upd (upd H14 q1 (.lst [.ref a8, .ref a9, .ref a10, .ref a11, .ref a12, .ref a13, .ref a14])) r1 (.lst [.ref a1, .ref a2, .ref a3, .ref a4, .ref a5, .ref a6, .ref a7, .ref a8, .ref a9, .ref a10, .ref a11, .ref a12, .ref a13, .ref a14]) = G1 at w1 l1 t1 A1
    have hG1' : upd (upd H14 q1 (.lst [.ref a8, .ref a9, .ref a10, .ref a11, .ref a12, .ref a13, .ref a14])) r1 (.lst ([.ref a1, .ref a2, .ref a3, .ref a4, .ref a5, .ref a6, .ref a7] ++ [.ref a8, .ref a9, .ref a10, .ref a11, .ref a12, .ref a13, .ref a14])) = G1 := hG1
    rw [hG1']
    refine ⟨_, rfl, fun a15 H15 s15 er15 => fun a16 H16 s16 er16 => ⟨(by show 0 ≤ sizeLine; decide), fun x17 nx17 => fun a17 H17 s17 er17 => fun a18 H18 s18 er18 => fun a19 H19 s19 er19 => fun a20 H20 s20 er20 => fun a21 H21 s21 er21 => ⟨(by show 7 ≤ sizeLine; decide), fun q2 nq2 => ?_⟩⟩⟩
    have u2 := ((((((((s15.trans s16).trans (same_new (o := .tup []) nx17)).trans s17).trans s18).trans s19).trans s20).trans s21).trans (same_new (o := .lst [.ref a15, .ref a16, .ref a17, .ref a18, .ref a19, .ref a20, .ref a21]) nq2))
    have v2 := upd_same (H := H21) (a := q2) (o := .lst [.ref a15, .ref a16, .ref a17, .ref a18, .ref a19, .ref a20, .ref a21])
    have b2 := (AllErr.cons (er15.same (((((((s16.trans (same_new (o := .tup []) nx17)).trans s17).trans s18).trans s19).trans s20).trans s21).trans (same_new (o := .lst [.ref a15, .ref a16, .ref a17, .ref a18, .ref a19, .ref a20, .ref a21]) nq2))) (AllErr.cons (er16.same (((((((same_new (o := .tup []) nx17).trans s17).trans s18).trans s19).trans s20).trans s21).trans (same_new (o := .lst [.ref a15, .ref a16, .ref a17, .ref a18, .ref a19, .ref a20, .ref a21]) nq2))) (AllErr.cons (er17.same ((((s18.trans s19).trans s20).trans s21).trans (same_new (o := .lst [.ref a15, .ref a16, .ref a17, .ref a18, .ref a19, .ref a20, .ref a21]) nq2))) (AllErr.cons (er18.same (((s19.trans s20).trans s21).trans (same_new (o := .lst [.ref a15, .ref a16, .ref a17, .ref a18, .ref a19, .ref a20, .ref a21]) nq2))) (AllErr.cons (er19.same ((s20.trans s21).trans (same_new (o := .lst [.ref a15, .ref a16, .ref a17, .ref a18, .ref a19, .ref a20, .ref a21]) nq2))) (AllErr.cons (er20.same (s21.trans (same_new (o := .lst [.ref a15, .ref a16, .ref a17, .ref a18, .ref a19, .ref a20, .ref a21]) nq2))) (AllErr.cons (er21.same (same_new (o := .lst [.ref a15, .ref a16, .ref a17, .ref a18, .ref a19, .ref a20, .ref a21]) nq2)) AllErr.nil)))))))
    refine ⟨_, _, _, _, rfl, rfl, u2 _ _ l1, v2, (by show 21 ≤ sizeLine; decide), fun r2 nr2 => ?_⟩
    have w2 := u2.trans (same_new (o := .lst [.ref a1, .ref a2, .ref a3, .ref a4, .ref a5, .ref a6, .ref a7, .ref a8, .ref a9, .ref a10, .ref a11, .ref a12, .ref a13, .ref a14, .ref a15, .ref a16, .ref a17, .ref a18, .ref a19, .ref a20, .ref a21]) nr2)
    have l2 := upd_same (H := upd H21 q2 (.lst [.ref a15, .ref a16, .ref a17, .ref a18, .ref a19, .ref a20, .ref a21])) (a := r2) (o := .lst [.ref a1, .ref a2, .ref a3, .ref a4, .ref a5, .ref a6, .ref a7, .ref a8, .ref a9, .ref a10, .ref a11, .ref a12, .ref a13, .ref a14, .ref a15, .ref a16, .ref a17, .ref a18, .ref a19, .ref a20, .ref a21])
    have A2 := (A1.same w2).app (b2.same (same_new (o := .lst [.ref a1, .ref a2, .ref a3, .ref a4, .ref a5, .ref a6, .ref a7, .ref a8, .ref a9, .ref a10, .ref a11, .ref a12, .ref a13, .ref a14, .ref a15, .ref a16, .ref a17, .ref a18, .ref a19, .ref a20, .ref a21]) nr2))
    have t2 := t1.trans w2
    generalize hG2 : upd (upd H21 q2 (.lst [.ref a15, .ref a16, .ref a17, .ref a18, .ref a19, .ref a20, .ref a21])) r2 (.lst [.ref a1, .ref a2, .ref a3, .ref a4, .ref a5, .ref a6, .ref a7, .ref a8, .ref a9, .ref a10, .ref a11, .ref a12, .ref a13, .ref a14, .ref a15, .ref a16, .ref a17, .ref a18, .ref a19, .ref a20, .ref a21]) = G2 at w2 l2 t2 A2
    have hG2' : upd (upd H21 q2 (.lst [.ref a15, .ref a16, .ref a17, .ref a18, .ref a19, .ref a20, .ref a21])) r2 (.lst ([.ref a1, .ref a2, .ref a3, .ref a4, .ref a5, .ref a6, .ref a7, .ref a8, .ref a9, .ref a10, .ref a11, .ref a12, .ref a13, .ref a14] ++ [.ref a15, .ref a16, .ref a17, .ref a18, .ref a19, .ref a20, .ref a21])) = G2 := hG2
    rw [hG2']
    refine ⟨_, rfl, ⟨(by show 0 ≤ sizeLine; decide), fun x22 nx22 => fun a22 H22 s22 er22 => ⟨(by show 0 ≤ sizeLine; decide), fun x23 nx23 => fun a23 H23 s23 er23 => ⟨(by show 2 ≤ sizeLine; decide), fun q3 nq3 => ?_⟩⟩⟩⟩
    have u3 := (((((same_new (o := .tup []) nx22).trans s22).trans (same_new (o := .tup []) nx23)).trans s23).trans (same_new (o := .lst [.ref a22, .ref a23]) nq3))
    have v3 := upd_same (H := H23) (a := q3) (o := .lst [.ref a22, .ref a23])
    have b3 := (AllErr.cons (er22.same (((same_new (o := .tup []) nx23).trans s23).trans (same_new (o := .lst [.ref a22, .ref a23]) nq3))) (AllErr.cons (er23.same (same_new (o := .lst [.ref a22, .ref a23]) nq3)) AllErr.nil))
    refine ⟨_, _, _, _, rfl, rfl, u3 _ _ l2, v3, (by show 23 ≤ sizeLine; decide), fun r3 nr3 => ?_⟩
    have w3 := u3.trans (same_new (o := .lst [.ref a1, .ref a2, .ref a3, .ref a4, .ref a5, .ref a6, .ref a7, .ref a8, .ref a9, .ref a10, .ref a11, .ref a12, .ref a13, .ref a14, .ref a15, .ref a16, .ref a17, .ref a18, .ref a19, .ref a20, .ref a21, .ref a22, .ref a23]) nr3)
    have l3 := upd_same (H := upd H23 q3 (.lst [.ref a22, .ref a23])) (a := r3) (o := .lst [.ref a1, .ref a2, .ref a3, .ref a4, .ref a5, .ref a6, .ref a7, .ref a8, .ref a9, .ref a10, .ref a11, .ref a12, .ref a13, .ref a14, .ref a15, .ref a16, .ref a17, .ref a18, .ref a19, .ref a20, .ref a21, .ref a22, .ref a23])
    have A3 := (A2.same w3).app (b3.same (same_new (o := .lst [.ref a1, .ref a2, .ref a3, .ref a4, .ref a5, .ref a6, .ref a7, .ref a8, .ref a9, .ref a10, .ref a11, .ref a12, .ref a13, .ref a14, .ref a15, .ref a16, .ref a17, .ref a18, .ref a19, .ref a20, .ref a21, .ref a22, .ref a23]) nr3))
    have t3 := t2.trans w3
    generalize hG3 : upd (upd H23 q3 (.lst [.ref a22, .ref a23])) r3 (.lst [.ref a1, .ref a2, .ref a3, .ref a4, .ref a5, .ref a6, .ref a7, .ref a8, .ref a9, .ref a10, .ref a11, .ref a12, .ref a13, .ref a14, .ref a15, .ref a16, .ref a17, .ref a18, .ref a19, .ref a20, .ref a21, .ref a22, .ref a23]) = G3 at w3 l3 t3 A3
    have hG3' : upd (upd H23 q3 (.lst [.ref a22, .ref a23])) r3 (.lst ([.ref a1, .ref a2, .ref a3, .ref a4, .ref a5, .ref a6, .ref a7, .ref a8, .ref a9, .ref a10, .ref a11, .ref a12, .ref a13, .ref a14, .ref a15, .ref a16, .ref a17, .ref a18, .ref a19, .ref a20, .ref a21] ++ [.ref a22, .ref a23])) = G3 := hG3
    rw [hG3']
    have A3' : AllErr K G3 [.ref a1, .ref a2, .ref a3, .ref a4, .ref a5, .ref a6, .ref a7, .ref a8, .ref a9, .ref a10, .ref a11, .ref a12, .ref a13, .ref a14, .ref a15, .ref a16, .ref a17, .ref a18, .ref a19, .ref a20, .ref a21, .ref a22, .ref a23] := A3
    clear A3
    refine ⟨_, rfl, r3, rfl, ⟨_, SqL.of l3⟩, fun D hD => ?_⟩
    refine lc_list (K := K) (a := r3) (xs := [.ref a1, .ref a2, .ref a3, .ref a4, .ref a5, .ref a6, .ref a7, .ref a8, .ref a9, .ref a10, .ref a11, .ref a12, .ref a13, .ref a14, .ref a15, .ref a16, .ref a17, .ref a18, .ref a19, .ref a20, .ref a21, .ref a22, .ref a23]) (fun i H' => Same G3 H' ∧ H' D = some (.lst [])) ⟨same_new hD, upd_same⟩ (fun i H' _ z => SqL.of (z.1 _ _ l3)) ?_ ?_
    · rintro i y H' hy ⟨z1, z2⟩
      obtain ⟨a, x, rfl, e⟩ := (A3'.same z1) _ (List.mem_of_getElem? hy)
      obtain ⟨mx, d, hh, kk⟩ := e
      have xc := (T.exf x mx).xc
      refine ⟨rfl, _, rfl, a, _, d, _, _, _, rfl, xc, hh, kk, .own _, T.kitH x mx, _, rfl, ?_⟩
      refine iteF ⟨_, rfl, a, _, d, _, _, _, rfl, xc, hh, kk, .ty _, T.kitV x mx, _, rfl, ?_⟩
      exact iteF ⟨z1, z2⟩
    · rintro H' ⟨z1, z2⟩
      refine ⟨_, rfl, (by show 0 ≤ sizeLine; decide), fun p hp => ⟨D, p, [], rfl, rfl, SqL.of (same_new (o := .lst []) hp _ _ z2), SqL.of upd_same, (fun v hv => nomatch hv), _, rfl, ?_⟩⟩
      refine iteT ?_
      have z3 := z1.trans (same_new (o := .lst []) hp)
      generalize upd H' p (.lst []) = H4 at z3 ⊢
      have l4 := z3 _ _ l3
      have A4 := A3'.same z3
      refine ⟨_, rfl, r3, rfl, ⟨_, SqL.of l4⟩, fun D2 hD2 => ?_⟩
      refine lc_list (K := K) (a := r3) (xs := [.ref a1, .ref a2, .ref a3, .ref a4, .ref a5, .ref a6, .ref a7, .ref a8, .ref a9, .ref a10, .ref a11, .ref a12, .ref a13, .ref a14, .ref a15, .ref a16, .ref a17, .ref a18, .ref a19, .ref a20, .ref a21, .ref a22, .ref a23]) (fun i H' => Same H4 H' ∧ H' D2 = some (.lst [])) ⟨same_new hD2, upd_same⟩ (fun i H' _ z => SqL.of (z.1 _ _ l4)) ?_ ?_
      · rintro i y H5 hy ⟨y1, y2⟩
        obtain ⟨a, x, rfl, e⟩ := (A4.same y1) _ (List.mem_of_getElem? hy)
        refine ⟨rfl, _, rfl, a, x, rfl, e, fun H6 s6 => ⟨rfl, _, rfl, ?_⟩⟩
        exact iteNS rfl ⟨y1.trans s6, s6 _ _ y2⟩
      · rintro H5 ⟨y1, y2⟩
        refine ⟨(by show 0 ≤ sizeLine; decide), fun p2 hp2 => ⟨D2, p2, [], rfl, rfl, SqL.of (same_new (o := .lst []) hp2 _ _ y2), SqL.of upd_same, (fun v hv => nomatch hv), ?_⟩⟩
        exact k _ (((t3.trans z3).trans y1).trans (same_new hp2))
end
end K1

set_option Elab.async false
set_option linter.all false
set_option maxRecDepth 100000
set_option maxHeartbeats 16000000
/-! ## the law -/
namespace K1
open PySem PySem.Spec PyProof.Rows L2 VX
/-- f(g = u, h = v), no more -/
theorem pe_kcall2 {X : Cx} {CX : CXT} {x g h : Str} {f : Addr} {k : Nat} {fd : FuncData} {sp : Sp} {E : XK} {p k1 k2 pos : Pos} {e1 e2 : Expr} {tk : TA} (F : FnOk X.prog X.w X.K X.mg X.base CX k f fd [g, h] sp) (hr : Room k X.A) (hg : Gl X x) (hm : X.mg x = some (.ref f)) (hk : PySem.W.keepIn X.K (.ref f) = true)
    (hb : ∀ (s : Shared) (u v : Value), BindsTo s fd ⟨[], [(g, u), (h, v)]⟩ [(g, u), (h, v)]) (hx : Passes CX X E) (ha : PK X [⟨some g, e1, k1⟩, ⟨some h, e2, k2⟩] tk) (hdb : (x == ("__debug__" : Str)) = false := by decide)
    (hpl : ((backTo pos (starEach [] X.env)).any (·.1) || (backToKw pos (keywordEach [⟨some g, e1, k1⟩, ⟨some h, e2, k2⟩] X.env)).any (·.1.isNone)) = false := by rfl)
    (hall : (backToKw pos (keywordEach [⟨some g, e1, k1⟩, ⟨some h, e2, k2⟩] X.env)).all (·.1.isSome) = true := by rfl) (hks : (backToKw pos (keywordEach [⟨some g, e1, k1⟩, ⟨some h, e2, k2⟩] X.env)).filterMap (·.1) = [g, h] := by rfl) :
    PE X (.Call (.Name x p) [] [⟨some g, e1, k1⟩, ⟨some h, e2, k2⟩] pos) (fun σ H Q => tk σ H fun zs H1 => zs.length = 2 ∧ sp zs H1 Q E) := by
  refine ⟨fun pins s σ H Q I q0 => wpAny_Call_Name_kw (ld_glob I hg hm ?_ hdb)⟩
  refine PySem.W.callWith_KW0 (h₀ := X.base) I.ok.mod.kin hk hall ?_ hpl
  refine thn (ha.run pos pins s σ H _ I q0) fun ws s1 ⟨zs, H1, I1, rz, l1, q⟩ => ⟨I1.kIn, ?_⟩
  rw [hks]
  obtain ⟨z1, z2, rfl⟩ : ∃ z1 z2, zs = [z1, z2] := by
    match zs, l1 with
    | [a, b], _ => exact ⟨a, b, rfl⟩
  obtain ⟨u1, u2, rfl, r1, r2⟩ := vals2 rz
  show wpAny _ _ (call (.ref f) [] [(g, u1), (h, u2)]) _ _ _
  refine wpAny_call (codeAny_mono (F.run X.A X.stack s1 H1 ⟨[], [(g, u1), (h, u2)]⟩ [u1, u2] [z1, z2] Q E hr I1.env0 (hb s1 u1 u2) (.cons r1 (.cons r2 .nil)) q) fun r s' hq => ?_)
  match r, hq with
  | .ok (.ret u), hq => exact I1.after hq
  | .error er, hq => exact hx pins σ H1 s1 er s' I1 hq
section
variable {P : Program} {w : World} {K : PySem.W.Frag} {mg : Str → Option Value} {base : Heap} {f : Addr} {fd : FuncData}
def spLaw (K : PySem.W.Frag) : Sp := fun vs H Q _ => ∃ (a : Addr) (ns : List Int), vs = [.ref a] ∧ SqL K H a (ns.map V.int) ∧ ∀ H', Q (.bl true) H'
abbrev N : List Str := ["_law_script", "_law_box_here", "_law_a", "_law_b", "_law_by_place", "_law_by_name", "_law_k", "_law_passed", "_law_count", "_law_odd", "_law_p", "_law_great", "_law_other", "_law_wrong"]
theorem sc_law : FnScope N ["_law_script"] (defScope (top 41)) := ⟨rfl, rfl, rfl, by decide +kernel, rfl, by decide +kernel, by decide +kernel⟩
/-- all defs that the law calls keep their promises -/
structure Goods (P : Program) (w : World) (K : PySem.W.Frag) (mg : Str → Option Value) (base : Heap) : Prop where
  box : ∃ fd, FunD K "_law_box" "_law_box" (defArgs (top 33)) (defBody (top 33)) (defScope (top 33)) [] [] (He.ga K "_law_box") fd ∧ FnOk P w K mg base CX0 2 (He.ga K "_law_box") fd ["_law_script", "_law_k"] (spBox K)
  take : ∃ fd, FnP K "_law_take" 34 (He.ga K "_law_take") fd ∧ FnOk P w K mg base CX0 1 (He.ga K "_law_take") fd ["_law_box_here", "_law_many"] spTake
  vals : ∃ fd, FnP K "_law_values" 35 (He.ga K "_law_values") fd ∧ FnOk P w K mg base CX0 2 (He.ga K "_law_values") fd ["_law_box_here"] spVals
  same : ∃ fd, FnP K "_law_same" 36 (He.ga K "_law_same") fd ∧ GFn P w K mg base 1 (He.ga K "_law_same") fd ["_law_one", "_law_other"] spSame
  kept : ∃ fd, FnP K "_law_kept" 37 (He.ga K "_law_kept") fd ∧ FnOk P w K mg base CX0 3 (He.ga K "_law_kept") fd ["_law_a", "_law_b"] spKept
  isi : ∃ fd, FnP K "is_integer" 27 (He.ga K "is_integer") fd ∧ FnOk P w K mg base CX0 1 (He.ga K "is_integer") fd ["value"] (spInt K)
  isp : ∃ fd, FnP K "is_prime" 28 (He.ga K "is_prime") fd ∧ FnOk P w K mg base CX0 2 (He.ga K "is_prime") fd ["value"] (spPrime K)
  inv : ∃ fd, FnP K "inverse" 30 (He.ga K "inverse") fd ∧ FnOk P w K mg base (L2.CX P w) 4 (He.ga K "inverse") fd ["number", "prime"] (spInv K)
  fails : ∃ fd, FnP K "_law_fails" 40 (He.ga K "_law_fails") fd ∧ FnOk P w K mg base CX0 5 (He.ga K "_law_fails") fd ["_law_count", "_law_p"] (spFails K)
  bases : ∃ fd, FnP K "_law_bases" 39 (He.ga K "_law_bases") fd ∧ FnOk P w K mg base CX0 3 (He.ga K "_law_bases") fd [] spBases
theorem bind_kw {fd : FuncData} (F : FnP K "inverse" 30 f fd) (s : Shared) (u v : Value) : BindsTo s fd ⟨[], [("number", u), ("prime", v)]⟩ [("number", u), ("prime", v)] := by
  obtain ⟨oc, od, dV, kV, doc, pm, an, cdv, ct, osl, rfl, lk, hcd, hD, hK⟩ := F.ex
  rcases hD with ⟨_, rfl⟩ | ⟨e, _⟩
  · exact .of_eq rfl
  · exact absurd rfl e
theorem alt_even {a b : V} {i : Nat} (hi : i < 15) (h : i % 2 = 0) : (alt a b)[i]? = some a := by
  obtain rfl | rfl | rfl | rfl | rfl | rfl | rfl | rfl : i = 0 ∨ i = 2 ∨ i = 4 ∨ i = 6 ∨ i = 8 ∨ i = 10 ∨ i = 12 ∨ i = 14 := by omega
  all_goals rfl
theorem alt_odd {a b : V} {i : Nat} (hi : i < 15) (h : ¬ i % 2 = 0) : (alt a b)[i]? = some b := by
  obtain rfl | rfl | rfl | rfl | rfl | rfl | rfl : i = 1 ∨ i = 3 ∨ i = 5 ∨ i = 7 ∨ i = 9 ∨ i = 11 ∨ i = 13 := by omega
  all_goals rfl
theorem inV_isP (n : Int) : inV (V.int n) [V.int 2, V.int 3, V.int 5, V.int 7, V.int 11, V.int 13] = isP n := by
  rw [Bool.eq_iff_iff]
  simp only [inV, eqV, isP, List.any_cons, List.any_nil, Bool.or_false, Bool.or_eq_true, beq_iff_eq, decide_eq_true_eq, List.mem_cons, List.not_mem_nil, or_false]
  omega
/-- what the law asks of an odd value -/
structure Odd (K : PySem.W.Frag) (H : Hp) (v : V) : Prop where
  ty : ∃ t a b, TyX K H v t ∧ PySem.W.kitOne K t (.type "int") = some a ∧ PySem.W.kitOne K t (.type "bool") = some b ∧ (a && !b) = false
  one : OneV v
theorem ok_law (F : FnP K "law" 41 f fd) (T : Txt K mg) (G : Goods P w K mg base) : GFn P w K mg base 6 f fd ["_law_script"] (spLaw K) := by
  obtain ⟨fd1, F1, G1⟩ := G.box
  obtain ⟨fd2, F2, G2⟩ := G.take
  obtain ⟨fd3, F3, G3⟩ := G.vals
  obtain ⟨fd4, F4, G4⟩ := G.same
  obtain ⟨fd5, F5, G5⟩ := G.kept
  obtain ⟨fd6, F6, G6⟩ := G.isi
  obtain ⟨fd7, F7, G7⟩ := G.isp
  obtain ⟨fd8, F8, G8⟩ := G.inv
  obtain ⟨fd9, F9, G9⟩ := G.fails
  obtain ⟨fd0, F0, G0⟩ := G.bases
  have B1 : Binds K fd1 ["_law_script", "_law_k"] [] := F1.bindsN fun _ _ _ _ _ _ us hl => match us, hl with | [_, _], _ => rfl
  have B2 : Binds K fd2 ["_law_box_here", "_law_many"] [] := F2.bindsN fun _ _ _ _ _ _ us hl => match us, hl with | [_, _], _ => rfl
  have B3 : Binds K fd3 ["_law_box_here"] [] := F3.bindsN fun _ _ _ _ _ _ us hl => match us, hl with | [_], _ => rfl
  have B4 : Binds K fd4 ["_law_one", "_law_other"] [] := F4.bindsN fun _ _ _ _ _ _ us hl => match us, hl with | [_, _], _ => rfl
  have B5 : Binds K fd5 ["_law_a", "_law_b"] [] := F5.bindsN fun _ _ _ _ _ _ us hl => match us, hl with | [_, _], _ => rfl
  have B6 : Binds K fd6 ["value"] [] := F6.bindsN fun _ _ _ _ _ _ us hl => match us, hl with | [_], _ => rfl
  have B7 : Binds K fd7 ["value"] [] := F7.bindsN fun _ _ _ _ _ _ us hl => match us, hl with | [_], _ => rfl
  have B8 : Binds K fd8 ["number", "prime"] [] := F8.bindsN fun _ _ _ _ _ _ us hl => match us, hl with | [_, _], _ => rfl
  have B9 : Binds K fd9 ["_law_count", "_law_p"] [] := F9.bindsN fun _ _ _ _ _ _ us hl => match us, hl with | [_, _], _ => rfl
  have B0 : Binds K fd0 [] [] := F0.bindsN fun _ _ _ _ _ _ us hl => match us, hl with | [], _ => rfl
  have g1 := T.dfs ("_law_box", 33) (by decide +kernel)
  have g2 := T.dfs ("_law_take", 34) (by decide +kernel)
  have g3 := T.dfs ("_law_values", 35) (by decide +kernel)
  have g4 := T.dfs ("_law_same", 36) (by decide +kernel)
  have g5 := T.dfs ("_law_kept", 37) (by decide +kernel)
  have g6 := T.dfs ("is_integer", 27) (by decide +kernel)
  have g7 := T.dfs ("is_prime", 28) (by decide +kernel)
  have g8 := T.dfs ("inverse", 30) (by decide +kernel)
  have g9 := T.dfs ("_law_fails", 40) (by decide +kernel)
  have g0 := T.dfs ("_law_bases", 39) (by decide +kernel)
  have ir := T.free "range" (by decide +kernel)
  have il := T.free "len" (by decide +kernel)
  have it := T.free "list" (by decide +kernel)
  refine GFn.of F sc_law (fun {vs H Q E} h => ?_) (fun cdv A outer s H vs Q E hgd hr h => ?_)
  · obtain ⟨a, ns, rfl, _⟩ := h
    rfl
  · obtain ⟨a, ns, rfl, hS, k⟩ := h
    have r1 : Room 1 _ := hr.mono (by decide)
    have r2 : Room 2 _ := hr.mono (by decide)
    have r3 : Room 3 _ := hr.mono (by decide)
    have r4 : Room 4 _ := hr.mono (by decide)
    have hu := hr.units0
    refine ⟨_, (pss_cons (ps_set (i := 1) sc_law.nd rfl (Or.inl rfl) (pe_call G1 r2 (by rfl) g1 F1.kp B1 .nil pass0 (pa_cons (pv 0) (pa_cons pe_int pa_nil))))
      (pss_cons (ps_asg (pe_call G3 r2 (by rfl) g3 F3.kp B3 .nil pass0 (pa_cons (pv 1) pa_nil)) (pg_lst rfl (pgs_cons (pg_name (i := 2) sc_law.nd rfl (.inl rfl)) (pgs_cons (pg_name (i := 3) sc_law.nd rfl (.inl rfl)) pgs_nil))))
      (pss_cons (ps_asg (pe_call G5 r3 (by rfl) g5 F5.kp B5 .nil pass0 (pa_cons (pv 2) (pa_cons (pv 3) pa_nil))) (pg_lst rfl (pgs_cons (pg_name (i := 4) sc_law.nd rfl (.inl rfl)) (pgs_cons (pg_name (i := 5) sc_law.nd rfl (.inl rfl)) pgs_nil))))
      (pss_cons (ps_for PassesOwn.never rfl (pi_range1 (by rfl) ir (pa_cons (pe_callB call_len_seq (by rfl) il boot_len (pa_cons (pv 4) pa_nil)) pa_nil)) (pg_name (i := 6) sc_law.nd rfl (.inl rfl))
        (pss_cons (ps_set (i := 7) sc_law.nd rfl (Or.inl rfl) (pe_ifExp (pt_cmpR op_eq (pe_op op_mod (pv 6) pe_int) pe_int (nomark _)) (pv 2) (pv 3)))
        (pss_one (ps_if (PW.pt (pw_or (pt_not (pt_val (pe_gcall G4 hgd r1 (by rfl) g4 F4.kp B4 (pa_cons (pe_ix ix_list (pv 4) (pv 6) (fun _ _ => rfl)) (pa_cons (pv 7) pa_nil)))))
            (pw_or1 (pt_not (pt_val (pe_gcall G4 hgd r1 (by rfl) g4 F4.kp B4 (pa_cons (pe_ix ix_list (pv 5) (pv 6) (fun _ _ => rfl)) (pa_cons (pv 7) pa_nil))))))))
          (pss_one (ps_ret pe_bl)) pss_nil))))
      (pss_cons (ps_set (i := 8) sc_law.nd rfl (Or.inl rfl) (pe_op op_sub (pe_call G2 r1 (by rfl) g2 F2.kp B2 .nil pass0 (pa_cons (pv 1) (pa_cons pe_int pa_nil))) pe_int))
      (pss_cons (ps_if (PW.pt (pw_or (pt_cmpR op_notBl (pe_call G6 r1 (by rfl) g6 F6.kp B6 .nil pass0 (pa_cons (pv 8) pa_nil)) pe_bl (nomark _))
          (pw_or1 (pt_cmpR op_ne (pe_call G7 r2 (by rfl) g7 F7.kp B7 .nil pass0 (pa_cons (pv 8) pa_nil)) (pe_cmpR op_in_seq (pv 8) (pe_lst (pa_cons pe_int (pa_cons pe_int (pa_cons pe_int (pa_cons pe_int (pa_cons pe_int (pa_cons pe_int pa_nil))))))) (by rfl)) (nomark _)))))
        (pss_one (ps_ret pe_bl)) pss_nil)
      (pss_cons (ps_for PassesOwn.never rfl (pi_list (pe_lst (pa_cons pe_bl (pa_cons pe_bl (pa_cons pe_non (pa_cons pe_str (pa_cons (pe_lst (pa_cons pe_int pa_nil)) (pa_cons (pe_tup (pa_cons pe_int pa_nil)) (pa_cons pe_dnewK pa_nil))))))))) (pg_name (i := 9) sc_law.nd rfl (.inl rfl))
        (pss_one (ps_if (PW.pt (pw_or (pt_cmpR op_notBl (pe_call G6 r1 (by rfl) g6 F6.kp B6 .nil pass0 (pa_cons (pv 9) pa_nil)) pe_bl (nomark _))
          (pw_or (pt_cmpR op_notBl (pe_call G7 r2 (by rfl) g7 F7.kp B7 .nil pass0 (pa_cons (pv 9) pa_nil)) pe_bl (nomark _))
          (pw_or1 (pt_cmpR (op_neSame hu) (pe_call G9 hr (by rfl) g9 F9.kp B9 .nil pass0 (pa_cons pe_int (pa_cons (pv 9) pa_nil))) (pe_lst (pa_cons pe_str (pa_cons (pv 9) pa_nil))) (nomark _))))))
          (pss_one (ps_ret pe_bl)) pss_nil)))
      (pss_cons (ps_for PassesOwn.never rfl (pi_list (pe_lst (pa_cons pe_int (pa_cons pe_int (pa_cons pe_int (pa_cons pe_int (pa_cons pe_int (pa_cons pe_int pa_nil)))))))) (pg_name (i := 10) sc_law.nd rfl (.inl rfl))
        (pss_cons (ps_set (i := 11) sc_law.nd rfl (Or.inl rfl) (pe_op op_mul (pe_op op_sub (pe_call G2 r1 (by rfl) g2 F2.kp B2 .nil pass0 (pa_cons (pv 1) (pa_cons (pe_op op_pow pe_int pe_int) pa_nil))) (pe_op op_mul pe_int (pe_op op_pow pe_int pe_int)))
            (pe_ix ix_list (pe_lst (pa_cons pe_int (pa_cons (pe_op op_pow pe_int pe_int) pa_nil))) (pe_call G2 r1 (by rfl) g2 F2.kp B2 .nil pass0 (pa_cons (pv 1) (pa_cons pe_int pa_nil))) (fun _ _ => rfl))))
        (pss_one (ps_for PassesOwn.never rfl (pi_list (pe_op op_cat (pe_listRg rfl (by rfl) it (prg_2 (by rfl) ir pe_int (pv 10))) (pe_lst (pa_cons (pv 11) (pa_cons (pe_op op_sub (pv 11) (pe_op op_mod (pv 11) (pv 10))) pa_nil))))) (pg_name (i := 12) sc_law.nd rfl (.inl rfl))
          (pss_one (ps_if (pt_cmpR op_eq (pe_op op_mod (pv 12) (pv 10)) pe_int (nomark _))
            (pss_one (ps_if (pt_cmpR (op_neSame hu) (pe_call G9 hr (by rfl) g9 F9.kp B9 .nil pass0 (pa_cons (pv 12) (pa_cons (pv 10) pa_nil))) (pe_lst (pa_cons pe_str (pa_cons (pv 12) pa_nil))) (nomark _)) (pss_one (ps_ret pe_bl)) pss_nil))
            (pss_one (ps_if (PW.pt (pw_or (pt_cmpR op_ne (pe_op op_mod (pe_op op_mul (pv 12) (pe_kcall2 G8 r4 (by rfl) g8 F8.kp (bind_kw F8) (passes_call takes0 (fun _ _ _ _ z => z)) (pk_cons (pv 12) (pk_cons (pv 10) pk_nil)))) (pv 10)) pe_int (nomark _))
              (pw_or1 (pt_not (pt_chain op_lt op_lt pe_int (pe_call G8 r4 (by rfl) g8 F8.kp B8 .nil (passes_call takes0 (fun _ _ _ _ z => z)) (pa_cons (pv 12) (pa_cons (pv 10) pa_nil))) (pv 10))))))
              (pss_one (ps_ret pe_bl)) pss_nil))))))))
      (pss_cons (ps_set (i := 13) sc_law.nd rfl (Or.inl rfl) (pe_ix ix_list (pe_lst (pa_cons pe_int (pa_cons pe_int (pa_cons pe_int (pa_cons pe_int (pa_cons pe_int (pa_cons (pe_un un_neg pe_int) pa_nil))))))) (pe_call G2 r1 (by rfl) g2 F2.kp B2 .nil pass0 (pa_cons (pv 1) (pa_cons pe_int pa_nil))) (fun _ _ => rfl)))
      (pss_one (ps_ret (pe_and (pe_call0 G0 r3 (by rfl) g0 F0.kp B0 .nil pass0) (pe_one (pe_cmpR (op_eqSame hu) (pe_call G9 hr (by rfl) g9 F9.kp B9 .nil pass0 (pa_cons (pv 8) (pa_cons (pv 13) pa_nil))) (pe_lst (pa_cons pe_str (pa_cons (pv 13) pa_nil))) (nomark _))))))))))))))), ?_⟩
    have c0 : (0 : Int) ≤ (cellOf ns 0).natAbs := by omega
    refine ⟨_, rfl, a, ns, 0, rfl, hS, fun b hb => ?_⟩
    have bx1 : Box (upd H b (.lst [.int (cellOf ns 0).natAbs, .int 0, .int (40503 * ((0 : Nat) : Int) + 911)])) b (cellOf ns 0).natAbs 0 911 := upd_same
    revert bx1 c0
    generalize upd H b (.lst [.int (cellOf ns 0).natAbs, .int 0, .int (40503 * ((0 : Nat) : Int) + 911)]) = H1
    generalize ((cellOf ns 0).natAbs : Int) = x1
    intro c0 bx1
    refine ⟨_, rfl, b, x1, 0, 911, rfl, bx1, c0, by decide, by decide, by decide, by decide, fun p va vb H2 x2 y2 hp ma mb bx2 c1 _ d1 d2 kp2 => ?_⟩
    refine ⟨p, _, rfl, SqL.of hp, rfl, _, _, rfl, _, _, rfl, rfl, ?_⟩
    refine ⟨_, rfl, _, rfl, va, vb, rfl, fun q p1 p2 H3 s3 hq h1 h2 => ?_⟩
    refine ⟨q, _, rfl, SqL.of hq, rfl, _, _, rfl, _, _, rfl, rfl, ?_⟩
    have ma3 := ma.same s3
    have mb3 := mb.same s3
    have bx3 : Box H3 b x2 y2 911 := s3 _ _ bx2
    clear hS hq hp kp2 ma mb s3
    refine ⟨_, rfl, p1, _, rfl, .inl (SqL.of h1), _, rfl, (by show -(2 ^ 62) ≤ (15 : Int); decide), (by show (15 : Int) < 2 ^ 62; decide), for_range (lo := 0) (n := 15) (fun i σ H' => ∃ z u, σ = [some (.ref a), some (.ref b), some va, some vb, some (.ref p1), some (.ref p2), z, u, none, none, none, none, none, none] ∧ H' = H3) ⟨none, none, rfl, rfl⟩ ?_ ?_⟩
    · rintro i σ H' hi ⟨z, u, rfl, rfl⟩
      refine ⟨_, rfl, _, _, rfl, rfl, (by show (0 : Int) < 2; decide), rfl, _, rfl, ?_⟩
      have hi' : i < 15 := hi
      refine ite2 (fun c => ?_) (fun c => ?_)
      · have ev := alt_even (a := va) (b := vb) hi' (by have c' : (0 + (i : Int)) % 2 = 0 := by simpa using c
                                                        omega)
        have ea : atI (alt va vb) (0 + (i : Int)) = some va := by rw [Int.zero_add]; exact atI_nat ev
        refine ⟨_, rfl, _, rfl, _, rfl, p1, _, _, va, rfl, rfl, SqL.of h1, ea, _, rfl, va, rfl, ma3, _, rfl, ?_⟩
        refine iteF ⟨_, rfl, _, rfl, p2, _, _, va, rfl, rfl, SqL.of h2, ea, _, rfl, va, rfl, ma3, _, rfl, ?_⟩
        exact iteF ⟨_, _, rfl, rfl⟩
      · have ev := alt_odd (a := va) (b := vb) hi' (by have c' : ¬ (0 + (i : Int)) % 2 = 0 := by simpa using c
                                                       omega)
        have ea : atI (alt va vb) (0 + (i : Int)) = some vb := by rw [Int.zero_add]; exact atI_nat ev
        refine ⟨_, rfl, _, rfl, _, rfl, p1, _, _, vb, rfl, rfl, SqL.of h1, ea, _, rfl, vb, rfl, mb3, _, rfl, ?_⟩
        refine iteF ⟨_, rfl, _, rfl, p2, _, _, vb, rfl, rfl, SqL.of h2, ea, _, rfl, vb, rfl, mb3, _, rfl, ?_⟩
        exact iteF ⟨_, _, rfl, rfl⟩
    · rintro σ H' ⟨z, u, rfl, rfl⟩
      -- count
      refine ⟨_, rfl, b, 30, x2, y2, 911, rfl, bx3, c1, by omega, by omega, by decide, by decide, by decide, by decide, fun dc x3 y3 _ _ c2 _ d3 d4 => ⟨_, _, rfl, rfl, ?_⟩⟩
      have bx4 : Box (upd H' b (.lst [.int x3, .int y3, .int 911])) b x3 y3 911 := upd_same
      clear h1 h2 ma3 mb3 bx3
      revert bx4
      generalize upd H' b (.lst [.int x3, .int y3, .int 911]) = H4
      intro bx4
      have ki : PySem.W.kitOne K (.type "int") (.type "int") = some true := kit_ty (by decide +kernel)
      have kb : PySem.W.kitOne K (.type "int") (.type "bool") = some false := kit_ty (by decide +kernel)
      refine ⟨_, rfl, .int (dc - 5), _, true, false, rfl, .base (.int _), ki, kb, true, true, rfl, rfl, _, rfl, ?_⟩
      refine iteF ⟨_, rfl, .int (dc - 5), _, true, false, rfl, .base (.int _), ki, kb, fun _ => ⟨dc - 5, rfl, ?_⟩, fun e => nomatch e⟩
      refine ⟨_, rfl, (by show 6 ≤ sizeLine; decide), fun q5 hq5 => ⟨q5, _, rfl, .inl (SqL.of upd_same), rfl, rfl, rfl, _, rfl, ?_⟩⟩
      refine iteNS (c := V.bl (isP (dc - 5)) = V.bl (inV (V.int (dc - 5)) [V.int 2, V.int 3, V.int 5, V.int 7, V.int 11, V.int 13])) (by rw [inV_isP]) ?_
      have s5 := same_new (o := .lst [.int 2, .int 3, .int 5, .int 7, .int 11, .int 13]) hq5
      have bx5 : Box (upd H4 q5 (.lst [.int 2, .int 3, .int 5, .int 7, .int 11, .int 13])) b x3 y3 911 := s5 _ _ bx4
      revert bx5
      generalize upd H4 q5 (.lst [.int 2, .int 3, .int 5, .int 7, .int 11, .int 13]) = H5
      intro bx5
      -- odd values
      refine ⟨(by show 1 ≤ sizeLine; decide), fun l hl => ⟨(by show 1 ≤ sizeLine; decide), fun t ht => fun d hd => ⟨(by show 7 ≤ sizeLine; decide), fun L hL => ?_⟩⟩⟩
      have o1 := same_new (o := .lst [.int 2]) hl
      have o2 := same_new (o := .tup [.int 3]) ht
      have o3 := same_new (o := .dK []) hd
      have o4 := same_new (o := .lst [.bl true, .bl false, .non, .str "2", .ref l, .ref t, .ref d]) hL
      have bx6 := o4 _ _ (o3 _ _ (o2 _ _ (o1 _ _ bx5)))
      have hl6 := o4 _ _ (o3 _ _ (o2 _ _ (upd_same (H := H5) (a := l) (o := .lst [.int 2]))))
      have ht6 := o4 _ _ (o3 _ _ (upd_same (H := upd H5 l (.lst [.int 2])) (a := t) (o := .tup [.int 3])))
      have hd6 := o4 _ _ (upd_same (H := upd (upd H5 l (.lst [.int 2])) t (.tup [.int 3])) (a := d) (o := .dK []))
      have hL6 := upd_same (H := upd (upd (upd H5 l (.lst [.int 2])) t (.tup [.int 3])) d (.dK [])) (a := L) (o := .lst [.bl true, .bl false, .non, .str "2", .ref l, .ref t, .ref d])
      clear o1 o2 o3 o4
      generalize upd (upd (upd (upd H5 l (.lst [.int 2])) t (.tup [.int 3])) d (.dK [])) L (.lst [.bl true, .bl false, .non, .str "2", .ref l, .ref t, .ref d]) = H6 at bx6 hl6 ht6 hd6 hL6 ⊢
      have odd : ∀ H', Same H6 H' → ∀ y ∈ ([.bl true, .bl false, .non, .str "2", .ref l, .ref t, .ref d] : List V), Odd K H' y := by
        intro H' sm y hy
        simp only [List.mem_cons, List.not_mem_nil, or_false] at hy
        rcases hy with rfl | rfl | rfl | rfl | rfl | rfl | rfl
        · exact ⟨⟨_, true, true, .base (.bl _), kit_ty (by decide +kernel), kit_ty (by decide +kernel), rfl⟩, .inl rfl⟩
        · exact ⟨⟨_, true, true, .base (.bl _), kit_ty (by decide +kernel), kit_ty (by decide +kernel), rfl⟩, .inl rfl⟩
        · exact ⟨⟨_, false, false, .base .non, kit_ty (by decide +kernel), kit_ty (by decide +kernel), rfl⟩, .inl rfl⟩
        · exact ⟨⟨_, false, false, .base (.str _), kit_ty (by decide +kernel), kit_ty (by decide +kernel), rfl⟩, .inl rfl⟩
        · exact ⟨⟨_, false, false, .base (.lst (sm _ _ hl6)), kit_ty (by decide +kernel), kit_ty (by decide +kernel), rfl⟩, .inr ⟨_, rfl⟩⟩
        · exact ⟨⟨_, false, false, .base (.tup (sm _ _ ht6)), kit_ty (by decide +kernel), kit_ty (by decide +kernel), rfl⟩, .inr ⟨_, rfl⟩⟩
        · exact ⟨⟨_, false, false, .base (.dK (sm _ _ hd6)), kit_ty (by decide +kernel), kit_ty (by decide +kernel), rfl⟩, .inr ⟨_, rfl⟩⟩
      refine ⟨L, rfl, ⟨_, SqL.of hL6⟩, for_list (K := K) (a := L) (xs := [.bl true, .bl false, .non, .str "2", .ref l, .ref t, .ref d]) (fun i σ H' => ∃ z1 z2 z3, σ = [some (.ref a), some (.ref b), some va, some vb, some (.ref p1), some (.ref p2), z1, z2, some (.int (dc - 5)), z3, none, none, none, none] ∧ Same H6 H')
        ⟨_, _, none, rfl, Same.refl _⟩ (fun i σ H' _ z => by obtain ⟨_, _, _, _, z⟩ := z; exact SqL.of (z _ _ hL6)) ?_ ?_⟩
      · rintro i y σ H' hi ⟨z1, z2, z3, rfl, s6⟩
        obtain ⟨⟨t', a', b', ty, ka, kb', e'⟩, one⟩ := odd H' s6 y (List.mem_of_getElem? hi)
        have no : ∀ {A : Prop}, (a' && !b') = true → A := fun e => by rw [e'] at e; cases e
        refine ⟨_, rfl, y, t', a', b', rfl, ty, ka, kb', _, _, rfl, rfl, _, rfl, ?_⟩
        refine iteNS e' ⟨_, rfl, y, t', a', b', rfl, ty, ka, kb', no, fun _ => ⟨false, false, rfl, rfl, _, rfl, ?_⟩⟩
        refine iteNS rfl ⟨_, rfl, 0, y, t', a', b', rfl, ty, ka, kb', no, fun _ q H7 s7 hn hq => ?_⟩
        refine ⟨_, rfl, (by show 2 ≤ sizeLine; decide), fun q2 hq2 => ⟨q, q2, _, rfl, rfl, SqL.of (same_new (o := .lst [.str "prime", y]) hq2 _ _ hq), SqL.of upd_same, ?_, _, rfl, ?_⟩⟩
        · intro v hv
          simp only [List.mem_cons, List.not_mem_nil, or_false] at hv
          rcases hv with rfl | rfl
          · exact .inl rfl
          · exact one
        · exact iteF ⟨_, _, _, rfl, (s6.trans s7).trans (same_new hq2)⟩
      · rintro σ H' ⟨z1, z2, z3, rfl, s6⟩
        have bx7 := s6 _ _ bx6
        clear odd hl6 ht6 hd6 hL6 bx6 s6
        refine ⟨(by show 6 ≤ sizeLine; decide), fun L2 hL2 => ?_⟩
        have n1 := same_new (o := .lst [.int 2, .int 3, .int 5, .int 7, .int 11, .int 13]) hL2
        have bx8 : Box _ b x3 y3 911 := n1 _ _ bx7
        refine ⟨L2, rfl, ⟨_, SqL.of upd_same⟩, for_list (K := K) (a := L2) (xs := [.int 2, .int 3, .int 5, .int 7, .int 11, .int 13]) (fun i σ H' => ∃ z1 z2 z3 z4 z5 z6 x y, σ = [some (.ref a), some (.ref b), some va, some vb, some (.ref p1), some (.ref p2), z1, z2, some (.int (dc - 5)), z3, z4, z5, z6, none] ∧
            Box H' b x y 911 ∧ 0 ≤ x ∧ 0 ≤ y ∧ y ≤ 100 + 2 * (i : Int) ∧ H' L2 = some (.lst [.int 2, .int 3, .int 5, .int 7, .int 11, .int 13]))
          ⟨_, _, _, none, none, none, _, _, rfl, bx8, by omega, by omega, by omega, upd_same⟩ (fun i σ H' _ z => by obtain ⟨_, _, _, _, _, _, _, _, _, _, _, _, _, z⟩ := z; exact SqL.of z) ?_ ?_⟩
        · rintro i y σ H8 hi ⟨z1, z2, z3, z4, z5, z6, x, y', rfl, bx, x0, y0, yb, hL⟩
          have hi6 : i < 6 := (List.getElem?_eq_some_iff.mp hi).1
          obtain ⟨p, hp, rfl⟩ : ∃ p, isP p = true ∧ y = .int p := by
            have m := List.mem_of_getElem? hi
            simp only [List.mem_cons, List.not_mem_nil, or_false] at m
            rcases m with rfl | rfl | rfl | rfl | rfl | rfl
            all_goals exact ⟨_, by decide, rfl⟩
          have pb := isP_pos hp
          refine ⟨_, rfl, _, _, rfl, rfl, ⟨by decide, by decide, by decide⟩, b, _, x, y', 911, rfl, bx, x0, y0, by omega, by decide, by decide, by decide, by decide, fun dg xa ya g0 g1 g2 _ g3 g4 => ?_⟩
          have bxa : Box (upd H8 b (.lst [.int xa, .int ya, .int 911])) b xa ya 911 := upd_same
          have La := kept_box (H := H8) (b := b) (o := .lst [.int xa, .int ya, .int 911]) _ _ hL (ne_of hL bx (by intro z; cases z))
          revert bxa La
          generalize upd H8 b (.lst [.int xa, .int ya, .int 911]) = H9
          intro bxa La
          refine ⟨_, _, rfl, rfl, ⟨by decide, by decide, by decide⟩, _, _, rfl, rfl, .inl ⟨by decide, by decide⟩, _, _, rfl, rfl, _, _, rfl, rfl, ⟨by decide, by decide, by decide⟩, (by show 2 ≤ sizeLine; decide), fun q hq => ?_⟩
          have m1 := same_new (o := .lst [.int 1, .int (10 ^ Int.toNat 20)]) hq
          have bxb := m1 _ _ bxa
          have Lb := m1 _ _ La
          have qb := upd_same (H := H9) (a := q) (o := .lst [.int 1, .int (10 ^ Int.toNat 20)])
          refine ⟨_, rfl, b, 2, xa, ya, 911, rfl, bxb, g2, by omega, by omega, by decide, by decide, by decide, by decide, fun de xc yc f0 f1 f2 _ f3 f4 => ?_⟩
          have kc := kept_box (H := upd H9 q (.lst [.int 1, .int (10 ^ Int.toNat 20)])) (b := b) (o := .lst [.int xc, .int yc, .int 911])
          have bxc : Box (upd (upd H9 q (.lst [.int 1, .int (10 ^ Int.toNat 20)])) b (.lst [.int xc, .int yc, .int 911])) b xc yc 911 := upd_same
          have Lc := kc _ _ Lb (ne_of Lb bxb (by intro z; cases z))
          have qc := kc _ _ qb (ne_of qb bxb (by intro z; cases z))
          obtain ⟨v, ev, mv⟩ := atI_ex (xs := [.int 1, .int (10 ^ Int.toNat 20)]) f0 (by simpa using f1)
          obtain ⟨m', rfl⟩ : ∃ m', v = .int m' := by
            simp only [List.mem_cons, List.not_mem_nil, or_false] at mv
            rcases mv with rfl | rfl
            · exact ⟨_, rfl⟩
            · exact ⟨_, rfl⟩
          clear m1 bxb Lb qb mv bxa La kc
          revert bxc Lc qc
          generalize upd (upd H9 q (.lst [.int 1, .int (10 ^ Int.toNat 20)])) b (.lst [.int xc, .int yc, .int 911]) = HA
          intro bxc Lc qc
          have e8 : (10 : Int) ^ Int.toNat 8 = 100000000 := by decide
          have e9 : (10 : Int) ^ Int.toNat 9 = 1000000000 := by decide
          rw [e9] at g1
          refine ⟨q, _, _, .int m', rfl, rfl, SqL.of qc, ev, _, _, rfl, rfl, .inl ⟨by rw [e8]; omega, by rw [e8]; omega⟩, ?_⟩
          -- the inner loop
          refine ⟨_, rfl, 1, p, rfl, rfl, RgOk.of_le (by decide) (by omega) (by decide) (by omega), fun q1 hq1 => ⟨_, rfl, _, rfl, _, rfl, _, rfl, _, _, rfl, rfl, (by show (0 : Int) < p; omega), _, _, rfl, rfl, (by show 2 ≤ sizeLine; decide), fun q2 hq2 => ?_⟩⟩
          have l1 := upd_same (H := HA) (a := q1) (o := .lst (rgV 1 p))
          have n2 := same_new (o := .lst [.int ((dg - 5 * 10 ^ Int.toNat 8) * m'), .int ((dg - 5 * 10 ^ Int.toNat 8) * m' - (dg - 5 * 10 ^ Int.toNat 8) * m' % p)]) hq2
          refine ⟨q1, q2, _, _, rfl, rfl, n2 _ _ l1, upd_same, ?_, fun L3 hL3 => ?_⟩
          · have h1 := rgV_length 1 p
            have h2 : (rgV 1 p).length + 2 ≤ 1000 := by omega
            exact Nat.le_of_lt (small1000 h2)
          have n3 := same_new (o := .lst (rgV 1 p ++ [.int ((dg - 5 * 10 ^ Int.toNat 8) * m'), .int ((dg - 5 * 10 ^ Int.toNat 8) * m' - (dg - 5 * 10 ^ Int.toNat 8) * m' % p)])) hL3
          have sA := ((same_new (o := .lst (rgV 1 p)) hq1).trans n2).trans n3
          have bxd : Box _ b xc yc 911 := sA _ _ bxc
          have Ld := sA _ _ Lc
          have L3d := upd_same (H := upd (upd HA q1 (.lst (rgV 1 p))) q2 (.lst [.int ((dg - 5 * 10 ^ Int.toNat 8) * m'), .int ((dg - 5 * 10 ^ Int.toNat 8) * m' - (dg - 5 * 10 ^ Int.toNat 8) * m' % p)])) (a := L3) (o := .lst (rgV 1 p ++ [.int ((dg - 5 * 10 ^ Int.toNat 8) * m'), .int ((dg - 5 * 10 ^ Int.toNat 8) * m' - (dg - 5 * 10 ^ Int.toNat 8) * m' % p)]))
          have itsI : ∀ v ∈ rgV 1 p ++ [V.int ((dg - 5 * 10 ^ Int.toNat 8) * m'), .int ((dg - 5 * 10 ^ Int.toNat 8) * m' - (dg - 5 * 10 ^ Int.toNat 8) * m' % p)], ∃ n, v = V.int n := by
            intro v hv
            rcases List.mem_append.mp hv with hv | hv
            · obtain ⟨_, _, e⟩ := List.mem_map.mp hv
              exact ⟨_, e.symm⟩
            · simp only [List.mem_cons, List.not_mem_nil, or_false] at hv
              rcases hv with rfl | rfl
              · exact ⟨_, rfl⟩
              · exact ⟨_, rfl⟩
          refine ⟨L3, rfl, ⟨_, SqL.of L3d⟩, for_list (K := K) (a := L3) (xs := rgV 1 p ++ [V.int ((dg - 5 * 10 ^ Int.toNat 8) * m'), .int ((dg - 5 * 10 ^ Int.toNat 8) * m' - (dg - 5 * 10 ^ Int.toNat 8) * m' % p)])
            (fun j σ H' => ∃ z, σ = [some (.ref a), some (.ref b), some va, some vb, some (.ref p1), some (.ref p2), z1, z2, some (.int (dc - 5)), z3, some (.int p), some (.int ((dg - 5 * 10 ^ Int.toNat 8) * m')), z, none] ∧ Same _ H')
            ⟨z6, rfl, Same.refl _⟩ (fun j σ H' _ z => by obtain ⟨_, _, z⟩ := z; exact SqL.of (z _ _ L3d)) ?_ ?_⟩
          · rintro j y σ HB hj ⟨z, rfl, sB⟩
            obtain ⟨n, rfl⟩ := itsI y (List.mem_of_getElem? hj)
            have inP : ∀ {A : Prop}, isP p = false → A := fun e => by rw [hp] at e; cases e
            refine ⟨_, rfl, _, rfl, _, _, rfl, rfl, (by show (0 : Int) < p; omega), rfl, _, rfl, ?_⟩
            refine ite2 (fun c => ?_) (fun c => ?_)
            · have c' : n % p = 0 := by simpa using c
              refine ⟨_, rfl, _, rfl, n, .int p, _, true, false, rfl, .base (.int _), ki, kb, fun _ => ⟨p, rfl, inP, fun _ => ⟨c', fun q4 HC s4 hn hq4 => ?_⟩⟩, (fun e => nomatch e)⟩
              refine ⟨_, rfl, (by show 2 ≤ sizeLine; decide), fun q6 hq6 => ⟨q4, q6, _, rfl, rfl, SqL.of (same_new (o := .lst [.str "number", .int n]) hq6 _ _ hq4), SqL.of upd_same, ?_, _, rfl, ?_⟩⟩
              · intro v hv
                simp only [List.mem_cons, List.not_mem_nil, or_false] at hv
                rcases hv with rfl | rfl
                · exact .inl rfl
                · exact .inl rfl
              · exact iteF ⟨_, rfl, (sB.trans s4).trans (same_new hq6)⟩
            · have c' : ¬ n % p = 0 := by simpa using c
              refine ⟨_, rfl, _, rfl, _, rfl, rfl, n, .int p, _, true, false, rfl, .base (.int _), ki, kb, fun _ => ⟨p, rfl, inP, fun _ h0 => absurd h0 c', fun _ _ i i1 i2 i3 => ?_⟩, (fun e => nomatch e)⟩
              refine ⟨_, _, rfl, rfl, .inr ⟨by omega, by omega⟩, _, rfl, _, _, rfl, rfl, (by show (0 : Int) < p; omega), rfl, _, rfl, ?_⟩
              refine iteNS (congrArg V.int i3) ?_
              refine ⟨_, rfl, _, rfl, n, .int p, _, true, false, rfl, .base (.int _), ki, kb, fun _ => ⟨p, rfl, inP, fun _ h0 => absurd h0 c', fun _ _ j j1 j2 j3 => ?_⟩, (fun e => nomatch e)⟩
              refine ⟨_, _, rfl, rfl, _, rfl, ?_⟩
              rw [decide_eq_true (show (0 : Int) < j by omega)]
              refine iteT ⟨_, rfl, _, _, rfl, rfl, _, rfl, ?_⟩
              exact iteNS j2 ⟨_, rfl, sB⟩
          · rintro σ HB ⟨z, rfl, sB⟩
            exact ⟨_, _, _, _, _, _, _, _, rfl, sB _ _ bxd, f2, by omega, by omega, sB _ _ Ld⟩
        · rintro σ H' ⟨z1, z2, z3, z4, z5, z6, x, y', rfl, bx, x0, y0, yb, hL⟩
          have yb' : y' ≤ 112 := by simpa using yb
          refine ⟨_, rfl, (by show 6 ≤ sizeLine; decide), fun q hq => ?_⟩
          have m1 := same_new (o := .lst [.int 0, .int 1, .int 4, .int 9, .int 17, .int (-2)]) hq
          have bxb := m1 _ _ bx
          have qb := upd_same (H := H') (a := q) (o := .lst [.int 0, .int 1, .int 4, .int 9, .int 17, .int (-2)])
          refine ⟨_, rfl, b, 6, x, y', 911, rfl, bxb, x0, y0, by omega, by decide, by decide, by decide, by decide, fun dw xa ya g0 g1 g2 _ g3 g4 => ?_⟩
          have kc := kept_box (H := upd H' q (.lst [.int 0, .int 1, .int 4, .int 9, .int 17, .int (-2)])) (b := b) (o := .lst [.int xa, .int ya, .int 911])
          have qc := kc _ _ qb (ne_of qb bxb (by intro z; cases z))
          obtain ⟨v, ev, mv⟩ := atI_ex (xs := [.int 0, .int 1, .int 4, .int 9, .int 17, .int (-2)]) g0 (by simpa using g1)
          obtain ⟨m', rfl, hm'⟩ : ∃ m', v = .int m' ∧ isP m' = false := by
            simp only [List.mem_cons, List.not_mem_nil, or_false] at mv
            rcases mv with rfl | rfl | rfl | rfl | rfl | rfl
            all_goals exact ⟨_, rfl, by decide⟩
          refine ⟨q, _, _, .int m', rfl, rfl, SqL.of qc, ev, ?_⟩
          have noP : ∀ {A : Prop}, isP m' = true → A := fun e => by rw [hm'] at e; cases e
          refine ⟨rfl, fun HX sX => ⟨_, rfl, ?_⟩⟩
          refine iteT ⟨_, rfl, _, rfl, dc - 5, .int m', _, true, false, rfl, .base (.int _), ki, kb, fun _ => ⟨m', rfl, fun _ q4 HC s4 hn hq4 => ?_, noP⟩, (fun e => nomatch e)⟩
          refine ⟨_, rfl, (by show 2 ≤ sizeLine; decide), fun q6 hq6 => ⟨q4, q6, _, rfl, rfl, SqL.of (same_new (o := .lst [.str "prime", .int m']) hq6 _ _ hq4), SqL.of upd_same, ?_, k _⟩⟩
          intro v hv
          simp only [List.mem_cons, List.not_mem_nil, or_false] at hv
          rcases hv with rfl | rfl
          · exact .inl rfl
          · exact .inl rfl
end
end K1

set_option Elab.async false
set_option linter.all false
set_option maxRecDepth 100000
set_option maxHeartbeats 0
/-! ## the end -/
namespace K1
open PySem PySem.Spec PyProof.Rows L2 VX
theorem facts {P : Program} {w : World} {K : PySem.W.Frag} {h : Heap} {mg : Str → Option Value} {f : Addr} (X : K.In h) (G : h.Ns mainGlobals mg) (hfa : mg ("law" : Str) = some (.ref f)) (c : He.SaysD fa fn K) (e : ex K = true) :
    ∃ fd : FuncData, (∀ (s : Shared) (v : Value), BindsTo s fd ⟨[v], []⟩ [("_law_script", v)]) ∧ ∀ base : Heap, K.In base → base.Ns mainGlobals mg → GFn P w K mg base 6 f fd ["_law_script"] (spLaw K) := by
  have T : Txt K mg := txt_mk X G c e
  have D : ∀ p ∈ defs, ∃ fd, FnP K p.1 p.2 (He.ga K p.1) fd := fun p hp => by
    obtain ⟨i, hi, e⟩ := List.mem_iff_getElem.mp (show dD p.1 p.2 ∈ fn from List.mem_append_right _ (List.mem_map.mpr ⟨p, hp, rfl⟩))
    exact c.def_ i (d := dD p.1 p.2) (by rw [List.getElem?_eq_getElem hi, e])
  have ee := hfa.symm.trans (T.dfs ("law", 41) (by decide +kernel))
  cases ee
  obtain ⟨fd, F⟩ := D ("law", 41) (by decide +kernel)
  have b := FunD.bindsA (ps := ["_law_script"]) F fun _ _ _ _ _ _ us hl => match us, hl with | [_], _ => rfl
  refine ⟨fd, fun s v => b s [v] rfl, fun base _ _ => ok_law F T ?_⟩
  have ini : ∀ q ∈ withF, IniOk P w K mg base q.1 q.2.1 := ini_all c T
  obtain ⟨_, Fi⟩ := D ("is_integer", 27) (by decide +kernel)
  obtain ⟨_, Fp⟩ := D ("is_prime", 28) (by decide +kernel)
  obtain ⟨_, Fch⟩ := D ("check_prime", 29) (by decide +kernel)
  obtain ⟨_, Fv⟩ := D ("inverse", 30) (by decide +kernel)
  obtain ⟨_, Fc⟩ := D ("_law_cell", 32) (by decide +kernel)
  obtain ⟨_, Fb⟩ := D ("_law_box", 33) (by decide +kernel)
  obtain ⟨_, Ft⟩ := D ("_law_take", 34) (by decide +kernel)
  obtain ⟨_, Fw⟩ := D ("_law_values", 35) (by decide +kernel)
  obtain ⟨_, Fs⟩ := D ("_law_same", 36) (by decide +kernel)
  obtain ⟨_, Fk⟩ := D ("_law_kept", 37) (by decide +kernel)
  obtain ⟨_, Fn⟩ := D ("_law_kinds", 38) (by decide +kernel)
  obtain ⟨_, Fs2⟩ := D ("_law_bases", 39) (by decide +kernel)
  obtain ⟨_, Ff⟩ := D ("_law_fails", 40) (by decide +kernel)
  obtain ⟨fB, GB, BB, _⟩ := ini _ memBadPrime
  obtain ⟨fN, GN, BN, _⟩ := ini _ memNoInverse
  have GI := ok_inv (P := P) (w := w) (mg := mg) (base := base) Fv T Fch Fi Fp GB BB GN BN
  exact {
    box := ⟨_, Fb, ok_box Fb T Fc⟩
    take := ⟨_, Ft, ok_take Ft T⟩
    vals := ⟨_, Fw, ok_vals Fw T Ft⟩
    same := ⟨_, Fs, ok_same Fs T⟩
    kept := ⟨_, Fk, ok_kept Fk T ini⟩
    isi := ⟨_, Fi, ok_int Fi T⟩
    isp := ⟨_, Fp, ok_prime Fp T Fi⟩
    inv := ⟨_, Fv, GI⟩
    fails := ⟨_, Ff, ok_fails Ff T GI Fv⟩
    bases := ⟨_, Fs2, ok_bases Fs2 T ini Fn⟩ }
end K1
open PySem PySem.W PySem.Calls PyProof.Rows
set_option maxRecDepth 100000 in
set_option maxHeartbeats 0 in
theorem PySem.Challenge.cw_handspaces_k01_errors_and_rests_holds : PySem.Challenge.rw_handspaces_k01_errors_and_rests.Holds := by
  w_on; o_law
  refine HandSHeadRun.head_any (r := K1.R) (q := view K1.R.prog [41]) (H := K1.hk) (ob := K1.ob) (M := 60000) (loose := K1.loose) (d := HandSHeadRun.topDef K1.R.prog 41) (kwd := []) K1.ob_eq
    (by kernel_rfl) (fun s => by kernel_rfl) K1.run (by kernel_rfl) (by kernel_rfl) (by kernel_rfl) (by rfl) (by first | assumption | decide +kernel) (by decide +kernel) ⟨rfl, rfl, rfl, rfl, rfl, by decide +kernel⟩ ?hw ?hc
  case hw => w_witness2
  case hc =>
    refine VX.walk_g (l := PySem.Challenge.rw_handspaces_k01_errors_and_rests) (n := 63) (k := 6) (x := "_law_script") rfl (by decide) (by kernel_rfl) ⟨rfl, by decide, by decide⟩ ?F
    intro w mg fa h Y G hmg0
    obtain ⟨K, KX, c, e⟩ := Y
    have hmg : mg ("law" : PySem.Str) = some (.ref fa) := by
      have q : (HandSHeadRun.topDef K1.R.prog 41).name = ("law" : PySem.Str) := by kernel_rfl
      rw [← q]
      exact hmg0
    obtain ⟨fd, hb, hF⟩ := K1.facts (P := (PySem.Challenge.rw_handspaces_k01_errors_and_rests).prog) (w := w) KX G hmg c e
    exact ⟨K, fd, K1.spLaw K, KX, hb, fun H a ns hl _ hS => ⟨a, ns, rfl, hS, fun _ => rfl⟩, hF⟩
