import PyProof.Rows.All
import Wide.All
import OpenK.AllK
import Wide.FinOn
import HandS.ForMost
import HandS.Exc
import HandS.TryOnly
import HandS.ExcOwn
import HandS.WordsExc
import HandS.TryMany
import HandS.ExcInit
import HandS.ExcField
import HandS.ExcIs
import HandS.ExcValue
import HandS.More
import HandS.IsInst
import HandS.DeepEq
import HandS.Style
import HandS.Conv
import HandS.NoneIn
import HandS.Flow
import KE.KIsAll
import KE.KTryMore
import HandS.Defaults
import HandS.Zip
import HandS.Walk
import HandS.Replace
import HandS.ReplaceDef
import HandS.ReplaceLit
import KE.GoesMore
import KE.GoesEnum
import KE.GoesEnumKw
import OpenK.KMeth
import PyProof.Rows.CallKwBuiltin
import HandS.ClsMeth
import HandS.HeadNt
import HandS.LawCells
import KE.KStateDown
import Lean
import HandS.Head0
import HandS.Head1
import HandS.Head2
import HandS.HeadEnd
import HandS.HeadHook1
import HandS.HeadHook2
import HandS.Property
import HandS.HeadHook3
import HandS.Dict
import KE.KDictDisplayH
import HandS.OwnEq
import HandS.Wide
import HandS.MakeKwOnly
import HandS.DictEq
import HandS.DictComp
import PyProof.FactsAll.dict_1
import PyProof.FactsAll.subtypes
import HandS.Deep
import HandS.TupMul
import HandS.Comp
import HandS.Finally
import HandS.Star
import KE.GoesZip
import HandS.TupLen
import HandS.TupAny
import HandS.SetFor
import PySem.Challenge.RW_handspaces_k32_dimensions_of_words
set_option linter.all false
/-! # the walk of a word's text, on lists of signs (no model) -/
namespace KW
def leafC (c : Nat) : Bool := c == 97 || c == 98 || c == 99 || c == 48 || c == 49
def jointC (c : Nat) : Bool := c == 43 || c == 38
/-- one sign: how many are open, whether a word is wanted -/
def stp (o : Nat) (w : Bool) (c : Nat) : Option (Nat × Bool) :=
  if c = 32 then some (o, w) else if w && leafC c then some (o, false) else if w && c == 40 && decide (o < 9) then some (o + 1, true)
  else if !w && jointC c then some (o, true) else if !w && c == 41 && decide (0 < o) then some (o - 1, false) else none
/-- the column of the error, 0 if there is none; k is the column of the next sign -/
def dueAt : List Nat → Nat → Bool → Nat → Nat
  | [], o, w, k => if w || decide (0 < o) then k else 0
  | c :: l, o, w, k => match stp o w c with
    | none => k
    | some p => dueAt l p.1 p.2 (k + 1)
def due (l : List Nat) : Nat := dueAt l 0 true 1
/-- the rest can be read to its end -/
def Acc : Bool → Nat → List Nat → Bool
  | w, d, [] => !w && d == 0
  | true, d, c :: l => (leafC c && Acc false d l) || (c == 40 && decide (d < 9) && Acc true (d + 1) l)
  | false, d, c :: l => (jointC c && Acc true d l) || (c == 41 && decide (0 < d) && Acc false (d - 1) l)
theorem leaf_no {c : Nat} (h : leafC c = true) : c ≠ 32 ∧ c ≠ 40 ∧ c ≠ 41 ∧ jointC c = false := by
  simp only [leafC, Bool.or_eq_true, beq_iff_eq] at h
  refine ⟨by omega, by omega, by omega, ?_⟩
  simp only [jointC, Bool.or_eq_false_iff, beq_eq_false_iff_ne]
  omega
theorem joint_no {c : Nat} (h : jointC c = true) : c ≠ 32 ∧ c ≠ 40 ∧ c ≠ 41 ∧ leafC c = false := by
  simp only [jointC, Bool.or_eq_true, beq_iff_eq] at h
  refine ⟨by omega, by omega, by omega, ?_⟩
  simp only [leafC, Bool.or_eq_false_iff, beq_eq_false_iff_ne]
  omega
theorem step_o {o o' : Nat} {w w' : Bool} {c : Nat} (ho : o ≤ 9) (h : stp o w c = some (o', w')) : o' ≤ 9 := by
  unfold stp at h
  split at h
  · cases h; exact ho
  split at h
  · cases h; exact ho
  split at h
  · rename_i hh
    cases h
    simp only [Bool.and_eq_true, decide_eq_true_eq] at hh
    omega
  split at h
  · cases h; exact ho
  split at h
  · cases h; omega
  · cases h
theorem acc_of {l : List Nat} : ∀ {o : Nat} {w : Bool} {k : Nat}, 0 < k → dueAt l o w k = 0 → Acc w o (l.filter (· != 32)) = true := by
  induction l with
  | nil =>
    intro o w k hk h
    simp only [dueAt] at h
    cases w with
    | true => rw [if_pos (by simp)] at h; omega
    | false =>
      by_cases c : 0 < o
      · rw [if_pos (by simp [c])] at h; omega
      · have : o = 0 := by omega
        subst this
        rfl
  | cons c l ih =>
    intro o w k hk h
    simp only [dueAt] at h
    cases hs : stp o w c with
    | none => rw [hs] at h; dsimp only at h; omega
    | some p =>
      obtain ⟨o', w'⟩ := p
      rw [hs] at h
      dsimp only at h
      have ih' := ih (Nat.succ_pos k) h
      unfold stp at hs
      by_cases c32 : c = 32
      · rw [if_pos c32] at hs
        cases hs
        rw [List.filter_cons_of_neg (by simp [c32])]
        exact ih'
      · rw [if_neg c32] at hs
        rw [List.filter_cons_of_pos (by simp [c32])]
        split at hs
        · rename_i hh
          cases hs
          simp only [Bool.and_eq_true] at hh
          rw [hh.1]
          simp only [Acc, hh.2, ih', Bool.true_and, Bool.true_or]
        split at hs
        · rename_i hh
          cases hs
          simp only [Bool.and_eq_true] at hh
          rw [hh.1.1]
          simp only [Acc, hh.1.2, hh.2, ih', Bool.and_self, Bool.or_true]
        split at hs
        · rename_i hh
          cases hs
          simp only [Bool.and_eq_true, Bool.not_eq_true'] at hh
          rw [hh.1]
          simp only [Acc, hh.2, ih', Bool.true_and, Bool.true_or]
        split at hs
        · rename_i hh
          cases hs
          simp only [Bool.and_eq_true, Bool.not_eq_true'] at hh
          rw [hh.1.1]
          simp only [Acc, hh.1.2, hh.2, ih', Bool.and_self, Bool.or_true]
        · cases hs
/-- the law's order of tests gives the same -/
theorem acc_wanted {d : Nat} {l : List Nat} (h : Acc true d l = true) : ∃ c r, l = c :: r ∧ ((leafC c = true ∧ Acc false d r = true) ∨ (c = 40 ∧ d < 9 ∧ Acc true (d + 1) r = true)) := by
  cases l with
  | nil => simp [Acc] at h
  | cons c r =>
    refine ⟨c, r, rfl, ?_⟩
    simp only [Acc, Bool.or_eq_true, Bool.and_eq_true, beq_iff_eq, decide_eq_true_eq] at h
    rcases h with h | h
    · exact .inl h
    · exact .inr ⟨h.1.1, h.1.2, h.2⟩
theorem acc_joint {d c : Nat} {r : List Nat} (hj : jointC c = true) (h : Acc false d (c :: r) = true) : Acc true d r = true := by
  have n := joint_no hj
  simp only [Acc, Bool.or_eq_true, Bool.and_eq_true, beq_iff_eq, decide_eq_true_eq] at h
  rcases h with h | h
  · exact h.2
  · exact absurd h.1.1 n.2.2.1
theorem acc_close {d : Nat} {l : List Nat} (hd : 0 < d) (hj : ∀ c r, l = c :: r → jointC c = false) (h : Acc false d l = true) : ∃ r, l = 41 :: r ∧ Acc false (d - 1) r = true := by
  cases l with
  | nil =>
    simp only [Acc, Bool.not_false, Bool.true_and, beq_iff_eq] at h
    omega
  | cons c r =>
    have n := hj c r rfl
    simp only [Acc, Bool.or_eq_true, Bool.and_eq_true, beq_iff_eq, decide_eq_true_eq, n] at h
    rcases h with h | h
    · exact absurd h.1 (by simp)
    · exact ⟨r, by rw [h.1.1], h.2⟩
/-- a word as a tree -/
inductive Tr where
  | lf (c : Nat)
  | nd (c : Nat) (l r : Tr)
/-! what is read: from the list before to the list behind, d parentheses open -/
mutual
inductive RP : Nat → List Nat → Tr → List Nat → Prop
  | leaf {d c : Nat} {r : List Nat} : leafC c = true → RP d (c :: r) (.lf c) r
  | paren {d : Nat} {l r : List Nat} {t : Tr} : d < 9 → RS (d + 1) l t (41 :: r) → RP d (40 :: l) t r
inductive RIs : Nat → Nat → Tr → List Nat → Tr → List Nat → Prop
  | stop {d : Nat} {t : Tr} {r : List Nat} : r.head? ≠ some 38 → RIs d 0 t r t r
  | more {d k : Nat} {t u t' : Tr} {r r1 r' : List Nat} : RP d r u r1 → RIs d k (.nd 38 t u) r1 t' r' → RIs d (k + 1) t (38 :: r) t' r'
inductive RI : Nat → List Nat → Tr → List Nat → Prop
  | mk {d k : Nat} {l r r' : List Nat} {t t' : Tr} : RP d l t r → RIs d k t r t' r' → RI d l t' r'
inductive RSs : Nat → Nat → Tr → List Nat → Tr → List Nat → Prop
  | stop {d : Nat} {t : Tr} {r : List Nat} : r.head? ≠ some 43 → RSs d 0 t r t r
  | more {d k : Nat} {t u t' : Tr} {r r1 r' : List Nat} : RI d r u r1 → RSs d k (.nd 43 t u) r1 t' r' → RSs d (k + 1) t (43 :: r) t' r'
inductive RS : Nat → List Nat → Tr → List Nat → Prop
  | mk {d k : Nat} {l r r' : List Nat} {t t' : Tr} : RI d l t r → RSs d k t r t' r' → RS d l t' r'
end
def PartOk (n : Nat) : Prop := ∀ (l : List Nat) (d : Nat), l.length ≤ n → Acc true d l = true → ∃ t r, RP d l t r ∧ Acc false d r = true ∧ r.length < l.length
def InterOk (n : Nat) : Prop := ∀ (l : List Nat) (d : Nat), l.length ≤ n → Acc true d l = true → ∃ t r, RI d l t r ∧ Acc false d r = true ∧ r.length < l.length ∧ r.head? ≠ some 38
def SumOk (n : Nat) : Prop := ∀ (l : List Nat) (d : Nat), l.length ≤ n → Acc true d l = true → ∃ t r, RS d l t r ∧ Acc false d r = true ∧ r.length < l.length ∧ ∀ c s, r = c :: s → jointC c = false
theorem inters {n : Nat} (hp : PartOk n) : ∀ (m : Nat) (r : List Nat) (d : Nat) (t : Tr), r.length ≤ m → r.length ≤ n → Acc false d r = true → ∃ k t' r', RIs d k t r t' r' ∧ Acc false d r' = true ∧ r'.length ≤ r.length ∧ r'.head? ≠ some 38 := by
  intro m
  induction m with
  | zero =>
    intro r d t h _ a
    have : r = [] := List.length_eq_zero_iff.mp (by omega)
    subst this
    exact ⟨0, t, [], .stop (by simp), a, Nat.le_refl _, by simp⟩
  | succ m ih =>
    intro r d t h hn a
    by_cases hh : r.head? = some 38
    · obtain ⟨s, rfl⟩ : ∃ s, r = 38 :: s := by
        cases r with
        | nil => simp at hh
        | cons c s => exact ⟨s, by rw [Option.some.inj hh]⟩
      have a2 := acc_joint (by decide) a
      simp only [List.length_cons] at h hn
      obtain ⟨u, r1, p1, p2, p3⟩ := hp s d (by omega) a2
      obtain ⟨k, t', r', q1, q2, q3, q4⟩ := ih r1 d (.nd 38 t u) (by omega) (by omega) p2
      exact ⟨k + 1, t', r', .more p1 q1, q2, by simp only [List.length_cons]; omega, q4⟩
    · exact ⟨0, t, r, .stop hh, a, Nat.le_refl _, hh⟩
theorem interOk {n : Nat} (hp : PartOk n) : InterOk n := fun l d h a => by
  obtain ⟨t, r, p1, p2, p3⟩ := hp l d h a
  obtain ⟨k, t', r', q1, q2, q3, q4⟩ := inters hp r.length r d t (Nat.le_refl _) (by omega) p2
  exact ⟨t', r', .mk p1 q1, q2, by omega, q4⟩
theorem sums {n : Nat} (hp : InterOk n) : ∀ (m : Nat) (r : List Nat) (d : Nat) (t : Tr), r.length ≤ m → r.length ≤ n → r.head? ≠ some 38 → Acc false d r = true → ∃ k t' r', RSs d k t r t' r' ∧ Acc false d r' = true ∧ r'.length ≤ r.length ∧ r'.head? ≠ some 43 ∧ r'.head? ≠ some 38 := by
  intro m
  induction m with
  | zero =>
    intro r d t h _ _ a
    have : r = [] := List.length_eq_zero_iff.mp (by omega)
    subst this
    exact ⟨0, t, [], .stop (by simp), a, Nat.le_refl _, by simp, by simp⟩
  | succ m ih =>
    intro r d t h hn h38 a
    by_cases hh : r.head? = some 43
    · obtain ⟨s, rfl⟩ : ∃ s, r = 43 :: s := by
        cases r with
        | nil => simp at hh
        | cons c s => exact ⟨s, by rw [Option.some.inj hh]⟩
      have a2 := acc_joint (by decide) a
      simp only [List.length_cons] at h hn
      obtain ⟨u, r1, p1, p2, p3, p4⟩ := hp s d (by omega) a2
      obtain ⟨k, t', r', q1, q2, q3, q4⟩ := ih r1 d (.nd 43 t u) (by omega) (by omega) p4 p2
      exact ⟨k + 1, t', r', .more p1 q1, q2, by simp only [List.length_cons]; omega, q4⟩
    · exact ⟨0, t, r, .stop hh, a, Nat.le_refl _, hh, h38⟩
theorem sumOk {n : Nat} (hp : InterOk n) : SumOk n := fun l d h a => by
  obtain ⟨t, r, p1, p2, p3, p4⟩ := hp l d h a
  obtain ⟨k, t', r', q1, q2, q3, q4, q5⟩ := sums hp r.length r d t (Nat.le_refl _) (by omega) p4 p2
  refine ⟨t', r', .mk p1 q1, q2, by omega, fun c s e => ?_⟩
  subst e
  simp only [jointC, Bool.or_eq_false_iff, beq_eq_false_iff_ne]
  exact ⟨fun e => q4 (by simp [e]), fun e => q5 (by simp [e])⟩
theorem partOk : ∀ n, PartOk n := by
  intro n
  induction n with
  | zero =>
    intro l d h a
    have : l = [] := List.length_eq_zero_iff.mp (by omega)
    subst this
    simp [Acc] at a
  | succ n ih =>
    intro l d h a
    obtain ⟨c, r, rfl, q⟩ := acc_wanted a
    simp only [List.length_cons] at h
    rcases q with ⟨hl, ha⟩ | ⟨rfl, hd, ha⟩
    · exact ⟨.lf c, r, .leaf hl, ha, by simp⟩
    · obtain ⟨t, r1, p1, p2, p3, p4⟩ := sumOk (interOk ih) r (d + 1) (by omega) ha
      obtain ⟨r2, rfl, a2⟩ := acc_close (Nat.succ_pos d) p4 p2
      simp only [List.length_cons] at p3
      exact ⟨t, r2, .paren hd p1, a2, by simp only [List.length_cons]; omega⟩
/-- a text without an error can be read to its end -/
theorem reads {l : List Nat} (h : due l = 0) : ∃ t, RS 0 (l.filter (· != 32)) t [] := by
  have a := acc_of (Nat.succ_pos 0) h
  obtain ⟨t, r, p1, p2, p3, p4⟩ := sumOk (interOk (partOk _)) _ 0 (Nat.le_refl _) a
  refine ⟨t, ?_⟩
  cases r with
  | nil => exact p1
  | cons c s =>
    have := p4 c s rfl
    simp [Acc, this] at p2
end KW

set_option Elab.async false
set_option linter.all false
set_option maxRecDepth 100000
set_option maxHeartbeats 2000000
namespace VX
open PySem PySem.Spec PyProof.Rows L2
/-! ### ints: a power of a greater base -/
def CPw (i j : Int) : Prop := 0 ≤ j ∧ (Builtin.Int.intBits i : Int) * j ≤ 2 ^ 27
theorem op_pw {X : Cx} : OpR X (binaryOp .Pow) (rI CPw fun i j => .int (i ^ j.toNat)) :=
  opI fun _ _ _ _ _ _ _ c q => pow_int c.1 c.2 q
/-! ### repr of data -/
inductive DX (K : PySem.W.Frag) (H : Hp) : V → PyData → Prop where
  | dp {v : V} {d : PyData} (h : Dp K H v d) : DX K H v d
  | dk {a : Addr} {x : Str} {i : Int} (h : H a = some (.dK [(Sum.inr x, .int i)])) : DX K H (.ref a) (.dict [(.str x, .int i)])
structure Shown (K : PySem.W.Frag) (H : Hp) (v : V) (d : PyData) : Prop where
  dx : DX K H v d
  sh : d.showable = true
  dep : d.depth ≤ 8
  sz : d.shown.length ≤ sizeLine
theorem kv_one {kvs : List (Key × V)} {vs : List (Key × Value)} {x : Str} {i : Int} (r : KV kvs vs) (e : kvs = [(Sum.inr x, V.int i)]) : ∃ t, vs = [(Sum.inr x, Value.int i t)] := by
  subst e
  cases r with
  | cons h t =>
    cases t
    rename_i b
    obtain ⟨k, u⟩ := b
    obtain ⟨h1, h2⟩ := h
    obtain ⟨t, h2⟩ := h2
    dsimp only at h1 h2
    subst h1 h2
    exact ⟨t, rfl⟩
theorem DX.reads {X : Cx} {pins : List (Addr × Obj)} {σ : L2.St} {H : Hp} {s : Shared} (I : Inv X pins σ H s) {d : PyData} {v : V} {u : Value} (h : DX X.K H v d) (r : RelV v u) :
    ∃ as, Reads s.heap u d as ∧ (d.hasDict = true → sysModules ∉ as) := by
  cases h with
  | dp h =>
    obtain ⟨as, q⟩ := Dp.reads I d v u h r
    refine ⟨as, q, fun hd => ?_⟩
    exfalso
    have no : ∀ (d : PyData) (v : V), Dp X.K H v d → d.hasDict = false := by
      intro d
      refine PyData.rec (motive_1 := fun d => ∀ v, Dp X.K H v d → d.hasDict = false) (motive_2 := fun ds => ∀ vs, DpAll X.K H vs ds → PyData.hasDictAll ds = false)
        (motive_3 := fun _ => True) (motive_4 := fun _ => True) ?_ ?_ ?_ ?_ ?_ ?_ ?_ ?_ ?_ ?_ ?_ ?_ d
      all_goals first
        | (intros; simp only [PyData.hasDict]; done)
        | (intro xs ih v h; simp only [PyData.hasDict]; cases h with | lst _ ha => exact ih _ ha)
        | (intro xs ih v h; simp only [PyData.hasDict]; cases h with | tup _ ha => exact ih _ ha)
        | (intro xs ih v h; cases h; done)
        | (intro vs h; simp only [PyData.hasDictAll]; done)
        | (intro x xs ih1 ih2 vs h; cases h with | cons h1 h2 => simp only [PyData.hasDictAll, ih1 _ h1, ih2 _ h2, Bool.or_self])
        | (intros; trivial)
    rw [no d v h] at hd
    cases hd
  | @dk a x i h =>
    cases (show u = Value.ref a from r)
    obtain ⟨_, ns, vs, rv, o, es, ep, e, ex, hd, hk, hp, _⟩ := (show ObjOk X.prog X.w H s.heap a (.dK [(Sum.inr x, .int i)]) from I.hok a _ h)
    obtain ⟨t, rfl⟩ := kv_one rv rfl
    obtain ⟨l⟩ := es
    cases hp with
    | @cons en kv tl tk h1 h2 h3 =>
      cases h3
      obtain ⟨t', ek⟩ := Value.isStrOf_shape (x := x) (v := en.key) (show Value.isStrOf x en.key = true from h1)
      have ev : en.val = Value.int i t := h2
      refine ⟨[a] ++ ([] ++ []) ++ ([] ++ []), Reads.dict (as := [] ++ []) (bs := [] ++ []) e ex.1 hd (ReadsAll.cons ?_ .nil) (ReadsAll.cons ?_ .nil), fun _ => ?_⟩
      · show Reads s.heap en.key (.str x) []
        rw [ek]; exact Reads.str x t'
      · show Reads s.heap en.val (.int i) []
        rw [ev]; exact Reads.int i t
      · intro m
        have e' : sysModules = a := by simpa using m
        rw [← e'] at ns
        exact absurd ns (by simp)
theorem call_repr {X : Cx} (hg : X.A.guards = some []) (hu : X.A.units + 64 < cLine) : CallR X (.builtin "repr") (fun xs H Q => ∃ v d, xs = [v] ∧ Shown X.K H v d ∧ Q (.str d.shown) H) := by
  intro pins s σ H xs us Q I r h
  obtain ⟨v, d, rfl, S, q⟩ := h
  obtain ⟨u, rfl, ru⟩ := vals1 r
  obtain ⟨as, R, hs⟩ := S.dx.reads I ru
  have leaf : ∀ {z : Str} {s' : Shared}, s' = { s with toks := s.toks + 1 } → Q (.str z) H → EP X pins σ Q (.str z s.toks) s' := fun {z s'} e q => by
    subst e
    exact ⟨.str z, H, I.tok _, ⟨_, rfl⟩, q⟩
  have sh := S.sh
  have sz := S.sz
  have dp := S.dep
  clear S ru r
  cases R with
  | none => exact P.repr_of_none (leaf rfl (by simpa only [PyData.shown] using q))
  | bool b => exact P.repr_of_bool (leaf rfl (by simpa only [PyData.shown] using q))
  | int i t => exact P.repr_of_int (by simpa [PyData.showable] using sh) (leaf rfl (by simpa only [PyData.shown] using q))
  | str x t => exact P.repr_of_str (leaf rfl (by simpa only [PyData.shown] using q)) (by simpa only [PyData.shown] using sz)
  | list a b c e => exact repr_of_reads' (Reads.list a b c e) sh hs hg (by omega) (fun _ _ z => z) (fun h' u tk k => ⟨.str _, H, I.kept k, ⟨_, rfl⟩, q⟩) sz
  | tuple a b c e => exact repr_of_reads' (Reads.tuple a b c e) sh hs hg (by omega) (fun _ _ z => z) (fun h' u tk k => ⟨.str _, H, I.kept k, ⟨_, rfl⟩, q⟩) sz
  | dict a b c e f => exact repr_of_reads' (Reads.dict a b c e f) sh hs hg (by omega) (fun _ _ z => z) (fun h' u tk k => ⟨.str _, H, I.kept k, ⟨_, rfl⟩, q⟩) sz
/-! ### lists of the very same things -/
def OneV (v : V) : Prop := flatB v = true ∨ ∃ c, v = .ref c
theorem one_eq {A : Around} {s : Shared} {v : V} {u u' : Value} (o : OneV v) (r : RelV v u) (r' : RelV v u') : SeqAt.EqAt A s u u' true := by
  rcases o with o | ⟨c, rfl⟩
  · exact eqAt_same r r' o
  · cases (show u = Value.ref c from r)
    cases (show u' = Value.ref c from r')
    exact SeqAt.EqAt.same _
theorem all_one {A : Around} {s : Shared} : ∀ {xs : List V} {us ws : List Value}, (∀ v ∈ xs, OneV v) → Vals xs us → Vals xs ws → ∀ j (h1 : j < us.length) (h2 : j < ws.length), SeqAt.EqAt A s us[j] ws[j] true
  | [], _, _, _, .nil, .nil, j, h1, _ => absurd h1 (Nat.not_lt_zero j)
  | x :: xs, _, _, o, .cons a b, .cons a' b', 0, _, _ => one_eq (o x List.mem_cons_self) a a'
  | x :: xs, _, _, o, .cons a b, .cons a' b', j + 1, h1, h2 => all_one (fun v hv => o v (List.mem_cons_of_mem _ hv)) b b' j (Nat.lt_of_succ_lt_succ h1) (Nat.lt_of_succ_lt_succ h2)
def rSame (K : PySem.W.Frag) (b : Bool) : R2 := fun x y H Q => ∃ p q xs, x = .ref p ∧ y = .ref q ∧ SqL K H p xs ∧ SqL K H q xs ∧ (∀ v ∈ xs, OneV v) ∧ Q (.bl b) H
theorem op_neSame {X : Cx} (hu : X.A.units < cLine) : OpR X (compareOp .NotEq) (rSame X.K false) := by
  intro pins s σ H x y v u Q I rx ry h
  obtain ⟨p, q, xs, rfl, rfl, hp, hq, ho, hQ⟩ := h
  cases (show v = Value.ref p from rx)
  cases (show u = Value.ref q from ry)
  obtain ⟨us, r1, p1, _⟩ := I.list hp
  obtain ⟨ws, r2, p2, _⟩ := I.list hq
  have hsz : us.toArray.size = ws.toArray.size := by
    rw [List.size_toArray, List.size_toArray, ← r1.length, ← r2.length]
  refine SeqAt.RcNeAt.lists (e := fun _ => true) p1.isList p2.isList hsz hu (fun j h1 h2 => ?_) _ _ _ _ ?_
  · have k := all_one (A := X.A.in1) (s := s) ho r1 r2 j (by simpa using h1) (by simpa using h2)
    simpa using k
  · rw [show ((List.range us.toArray.size).all fun _ => true) = true from List.all_eq_true.mpr fun _ _ => rfl]
    exact ⟨.bl false, H, I, rfl, hQ⟩
theorem op_eqSame {X : Cx} (hu : X.A.units < cLine) : OpR X (compareOp .Eq) (rSame X.K true) := by
  intro pins s σ H x y v u Q I rx ry h
  obtain ⟨p, q, xs, rfl, rfl, hp, hq, ho, hQ⟩ := h
  cases (show v = Value.ref p from rx)
  cases (show u = Value.ref q from ry)
  obtain ⟨us, r1, p1, _⟩ := I.list hp
  obtain ⟨ws, r2, p2, _⟩ := I.list hq
  have hsz : us.toArray.size = ws.toArray.size := by
    rw [List.size_toArray, List.size_toArray, ← r1.length, ← r2.length]
  refine SeqAt.RcAt.lists (e := fun _ => true) p1.isList p2.isList hsz hu (fun j h1 h2 => ?_) _ _ _ _ ?_
  · have k := all_one (A := X.A.in1) (s := s) ho r1 r2 j (by simpa using h1) (by simpa using h2)
    simpa using k
  · rw [show ((List.range us.toArray.size).all fun _ => true) = true from List.all_eq_true.mpr fun _ _ => rfl]
    exact ⟨.bl true, H, I, rfl, hQ⟩
end VX

set_option Elab.async false
set_option linter.all false
set_option maxRecDepth 100000
set_option maxHeartbeats 4000000
/-! exceptions as values -/
namespace VX
open PySem PySem.Spec PyProof.Rows L2
section
variable {X : Cx} {pins : List (Addr × Obj)} {σ : L2.St} {H : Hp} {s s' : Shared}
/-- the same state, the heap grown -/
theorem Inv.up (I : L2.Inv X pins σ H s) (k : ∀ b o, s.heap.get? b = some o → s'.heap.get? b = some o) (ho : s'.os = s.os) (hb : AllBare s'.gens) : L2.Inv X pins σ H s' :=
  I.call' (ch := []) ho (Un.kept k) (I.hok.kept k) hb fun b z => absurd z (by simp)
/-- the same state, the heap grown by one thing that is tracked from now on -/
theorem Inv.upA {a : Addr} {o : HO} (I : L2.Inv X pins σ H s) (k : ∀ b o, s.heap.get? b = some o → s'.heap.get? b = some o) (n : s.heap.get? a = none) (na : H a = none) (new : ObjOk X.prog X.w (upd H a o) s'.heap a o) (ho : s'.os = s.os) (hb : AllBare s'.gens) :
    L2.Inv X pins σ (upd H a o) s' :=
  I.call' (ch := []) ho (Un.laidN k n na) (I.hok.laidN k na new) hb fun b z => absurd z (by simp)
end
/-- an exception that stands at a, of the class cls, its own dict d -/
def ExD (cls : Value) (d : Option Addr) (a : Addr) : HO := .ext fun h => ∃ (oe : Obj) (vs : Array Value), h.get? a = some oe ∧ Zc cls d oe ∧ oe.data = .fields vs
theorem exD_ok {P : Program} {w : World} {H : Hp} {h : Heap} {a : Addr} {cls : Value} {d : Option Addr} {oe : Obj} {vs : Array Value} (e : h.get? a = some oe) (z : Zc cls d oe) (q : oe.data = .fields vs) : ObjOk P w H h a (ExD cls d a) :=
  ⟨⟨oe, vs, e, z, q⟩, ⟨oe, e⟩, fun _ _ ⟨o, v, p, r⟩ k => ⟨o, v, k o p, r⟩⟩
/-- C(..), the exception itself -/
theorem pe_exV {X : Cx} {e : Expr} {t : L2.St → Hp → XK → Prop} (he : PMk X e t) : PE X e (fun σ H Q => t σ H fun cls d H1 => ∀ a, H1 a = none → Q (.ref a) (upd H1 a (ExD cls d a))) := by
  refine ⟨fun pins s σ H Q I h => ?_⟩
  refine thn (he pins s σ H _ I h) fun u s1 hu => ?_
  obtain ⟨a, oe, vs, sI, H', cls, d, rfl, J, k, n, ha, hz, hd, _, na, os, ag, _, q⟩ := hu
  exact ⟨.ref a, _, Inv.upA J k n na (exD_ok ha hz hd) os ag, rfl, q a na⟩
/-- C(..).n -/
theorem pe_exGet {X : Cx} {e : Expr} {n : Str} {pos : Pos} {t : L2.St → Hp → XK → Prop} (he : PMk X e t) (hb : attributeBase e n X.env (eval e X.env) = eval e X.env := by rfl) :
    PE X (.Attribute e n pos) (fun σ H Q => t σ H fun cls d H1 => ∃ (C dd : Addr) (fs : List (Str × V)) (v : V), cls = .ref C ∧ d = some dd ∧ XfC X.K C ∧ PySem.W.findIn X.K (.ref C) n = some none ∧ H1 dd = some (.xd fs) ∧ fs.lookup n = some v ∧ Q v H1) := by
  refine ⟨fun pins s σ H Q I h => ?_⟩
  refine attr_of hb (thn (he pins s σ H _ I h) fun u s1 hu => ?_)
  obtain ⟨a, oe, vs, sI, H', cls, d, rfl, J, k, n0, ha, hz, hd, _, na, os, ag, _, C, dd, fs, v, rfl, rfl, T, hno, hx, hl, q⟩ := hu
  have J1 := Inv.up (s' := s1) J k os ag
  obtain ⟨mA, hns, hr⟩ := (show ObjOk X.prog X.w H' s1.heap dd (.xd fs) from J1.hok dd _ hx)
  obtain ⟨od, ho, hlk⟩ := lookIn_ns hns
  obtain ⟨u, hu, ru⟩ := RelO.some_of (v := v) (o := mA n) (by rw [← hl]; exact hr n)
  have it : PySem.W.InstAt s1.heap a oe C (some od) := ⟨ha, hz.1, by unfold PySem.W.notCls; rw [hd] <;> rfl, by rw [hz.2]; exact ho⟩
  exact HandSPX.exc_get J1.kIn it T.ga T.gg T.exC (PySem.W.findObj_own T.hdC hno rfl (by rw [hlk, hu])) (handed_of ru) ⟨v, H', J1.tok _, ru, q⟩
end VX

set_option Elab.async false
set_option linter.all false
set_option maxRecDepth 100000
set_option maxHeartbeats 4000000
/-! isinstance of an exception that may have its own dict -/
namespace VX
open PySem PySem.Spec PySem.Calls PyProof.Rows PySem.W
section
variable {pg : Program} {wd : World} {B : Around} {Er : Value → Shared → Prop} {st : Shared} {F : Frag} {y D : Addr} {oy : Obj} {od : Option Obj}
theorem bindsAt {C : Addr} {nm : Str} {a g : Value} (hc : (clsIn F C).isSome = true) (h1 : findIn F (.ref C) nm = some (some a)) (h2 : specialIn F a "__get__" = some (some g)) (h3 : takesIn F a = some true) : findObj F C od nm = some (.bind g a) := by
  cases e : clsIn F C with
  | none => rw [e] at hc; cases hc
  | some cd => simp [findObj, e, h1, h2, h3]
structure ExIs (F : Frag) (D : Addr) : Prop where
  xc : L2.ExcC F D
theorem clsSome (h : hasDictIn F D = true) : (clsIn F D).isSome = true := by
  obtain ⟨cd, hc, _⟩ := any_some h
  rw [hc]; rfl
theorem class_of_exc {Q : Option Value → Shared → Prop} (T : L2.ExcC F D) (X : F.In st.heap) (I : InstAt st.heap y oy D od) (h : Q (some (.ref D)) { st with toks := st.toks + 1 }) : wpAny (model pg wd) B (getAttr? (.ref y) "__class__") Q Er st := by
  have fb : findObj F D od "__class__" = some (.bind (.builtin "getset_descriptor.__get__") (.builtin "object.__class__")) := bindsAt (clsSome T.hd) T.ha T.hn T.ht
  obtain ⟨hp, gs, dr, tk, os⟩ := st
  have a0 := I.type (M := model pg wd)
  have a1 := looks_findIn (M := model pg wd) X T.hg
  have a2 := looks_findIn (M := model pg wd) X T.hk
  have a3 := looks_find (M := model pg wd) X I fb
  have sb : Looks (model pg wd) hp (isInstance (.ref y) (.type "BaseException")) true := a0.andThen (looks_subIn X T.hs)
  have ne : (Value.builtin "BaseException.__getattribute__" == Value.builtin "object.__getattribute__") = false := by decide +kernel
  have nf : (onTheHeap (Value.ref D) && Value.builtin "BaseException.__getattribute__" == Value.builtin "object.__getattribute__") = false := by rw [ne]; rfl
  unfold getAttr? getAttrBy? getAttrBy
  refine wpAny_bind (wpAny_mkText (wpAny_bind (wpAny_attempt (wpAny_holding (wpAny_bind (a0.at (wpAny_bind (a1.at ?z1))))))))
  case z1 =>
    show wpAny _ _ (if (onTheHeap (Value.ref D) && Value.builtin "BaseException.__getattribute__" == Value.builtin "object.__getattribute__") = true then _ else _) _ _ _
    rw [nf, if_neg Bool.false_ne_true]; unfold getAttrByItsOwn hookBefore
    refine wpAny_bind ?z2
    case z2 =>
      rw [if_pos (show onTheHeap (Value.ref D) = true from rfl)]; refine a2.at (wpAny_bind (wpAny_attempt (wpAny_holding ?z3)))
      case z3 =>
        unfold callGetattribute; rw [show (false && onTheHeap (Value.builtin "BaseException.__getattribute__")) = false from rfl, if_neg Bool.false_ne_true]
        unfold boundAndCalled; rw [PySem.F.excAttr_ValueError.ga.bind (.ref y)]
        refine wpAny_bind (wpAny_pure ?z4)
        case z4 =>
          show wpAny _ _ (call (.builtin "BaseException.__getattribute__") [.ref y, .str "__class__" tk]) _ _ _
          refine wpAny_call (codeAny_call_builtin PySem.F.excAttr_ValueError.ga.plain PySem.F.entry_bexc_ga ?z5)
          case z5 =>
            refine @check_slot (model pg wd) _ _ ⟨hp, gs, dr, tk + 1, os⟩ "BaseException.__getattribute__" "BaseException" "__getattribute__" (.ref y) [.str "__class__" tk] [] _ (by decide +kernel) (by decide +kernel) sb (PySem.F.args_bexc_ga (.ref y) (.str "__class__" tk)) ?z6
            case z6 =>
              unfold Builtin.«object.__getattribute__»
              refine wpAny_bind (wpAny_of_eq (a := ((Value.ref y : Value), [Value.str "__class__" tk])) (by first | rfl | (simp only [slotArgs]; rfl)) (wpAny_bind (wpAny_pure (wpAny_bind (a0.at (wpAny_bind (a3.at ?z7)))))))
              case z7 =>
                show wpAny _ _ (holding [Value.builtin "object.__class__"] (call (.builtin "getset_descriptor.__get__") [.builtin "object.__class__", .ref y, .ref D]) >>= ret) _ _ _
                refine wpAny_bind (wpAny_holding (wpAny_call (class_get (s := ⟨hp, gs, dr, tk + 1, os⟩) (ox := oy) (od := od) X I T.hm (wpAny_pure ?z8))))
                case z8 =>
                  show wpAny _ _ (handedOut (.ref D)) _ _ _
                  rw [handedOut_of (v := .ref D) rfl]
                  first | exact wpAny_pure (wpAny_pure h) | exact wpAny_pure h | exact wpAny_pure (wpAny_bind (wpAny_pure (wpAny_pure h)))
theorem kitx_exd (T : L2.ExcC F D) : KitX F (.ref y) (.ref D) (fun h => ∃ oy od, InstAt h y oy D od) where
  ty := fun _ _ _ ⟨_, _, I⟩ => I.type
  it := fun M h X _ A Q E s k q => by
    have z := clsSome T.hd
    unfold clsIn at z
    split at z
    · rename_i hk
      unfold isType loadHead
      exact wpAny_bind (wpAny_loadPart (k _ _ (X _ _ hk)) (wpAny_pure q))
    · cases z
  ne := fun h tp dd its n sl X htp => by
    cases e : (Value.ref D == Value.ref tp) with
    | false => rfl
    | true =>
      have e2 : D = tp := Value.ref.inj (beq_iff_eq.mp e)
      subst e2
      have z := clsSome T.hd
      unfold clsIn at z
      split at z
      · rename_i hk
        exact nomatch (X _ _ hk).symm.trans htp
      · cases z
  ca := fun X ⟨_, _, I⟩ q => class_of_exc T X I q
end
end VX
namespace VX
open PySem PySem.Spec PyProof.Rows L2
/-- isinstance(e, c) of such an exception -/
def rIsX (K : PySem.W.Frag) : List V → Hp → VK → Prop := fun xs H Q => ∃ (a D : Addr) (d : Option Addr) (c : V) (cv : Value) (b : Bool), xs = [.ref a, c] ∧ ExcC K D ∧ H a = some (ExD (.ref D) d a) ∧ (∀ dd, d = some dd → ∃ o, H dd = some o) ∧ ClsV c cv ∧ PySem.W.kitOne K (.ref D) cv = some b ∧ Q (.bl b) H
theorem call_isX {X : Cx} : CallR X (.builtin "isinstance") (rIsX X.K) := by
  intro pins s σ H xs us Q I r h
  obtain ⟨a, D, d, c, cv, b, rfl, T, ha, hd, hc, e, q⟩ := h
  obtain ⟨u1, u2, rfl, r1, r2⟩ := vals2 r
  have e2 := hc.eq r2
  subst e2
  cases (show u1 = Value.ref a from r1)
  have ok : ObjOk X.prog X.w H s.heap a (.ext fun h => ∃ (oe : Obj) (vs : Array Value), h.get? a = some oe ∧ Zc (.ref D) d oe ∧ oe.data = .fields vs) := I.hok a _ ha
  obtain ⟨⟨oe, vs, ho, hz, hf⟩, _, _⟩ := ok
  have J : ∃ od, PySem.W.InstAt s.heap a oe D od := by
    have nc : PySem.W.notCls oe = true := by unfold PySem.W.notCls; rw [hf] <;> rfl
    cases d with
    | none => exact ⟨none, ho, hz.1, nc, by rw [hz.2]; trivial⟩
    | some dd =>
      obtain ⟨o, hdd⟩ := hd dd rfl
      obtain ⟨ob, hob⟩ := objOk_get (I.hok dd o hdd)
      exact ⟨some ob, ho, hz.1, nc, by rw [hz.2]; exact hob⟩
  obtain ⟨od, J⟩ := J
  exact PySem.W.kia_one (kitx_exd T) I.kIn ⟨oe, od, J⟩ e (fun z => nomatch z) fun tk => ⟨.bl b, H, I.tok tk, rfl, q⟩
end VX

set_option Elab.async false
set_option linter.all false
set_option maxRecDepth 100000
set_option maxHeartbeats 4000000
/-! C(f = v), C an exception's class with its own __init__ -/
namespace VX
open PySem PySem.Calls PySem.HandSPX
section
variable {M : Model} {pg : Program} {wd : World} {B : Around} {Er : Value → Shared → Prop} {R : Result → Shared → Prop} {hh : Heap} {gs : Array GenState} {dr : Drawn} {tk : Nat} {os : OsState}
variable {nm q : Str} {C N : Addr} {bs bm bB : List Value} {hd : Bool} {sn : List Str} {sub : List Value} {ab : Bool} {col : Option Bool} {dd : Option Addr} {m0 m1 m2 m3 m5 : Option Value} {T nid iid : String} {kw : List (Str × Value)}
theorem chkNewK (F : ExcBaseFacts T nid iid bB) (hT : ∀ Y : String, bm.contains (.type Y) = bB.contains (.type Y)) {Q : Unit → Shared → Prop} (hC : hh.get? C = some (excClassObj nm q C N bs bm hd sn sub ab col dd m0 m1 m2 m3 m5 nid)) (hq : Q () ⟨hh, gs, dr, tk, os⟩) :
    wpAny M B (checkBuiltinCall nid ⟨[.ref C], kw⟩) Q Er ⟨hh, gs, dr, tk, os⟩ := by
  have hc : (Value.ref C :: bm).contains (.type T) = true := by rw [List.contains_cons, hT, F.hasB, Bool.or_true]
  have hs := F.noStar
  simp only [checkBuiltinCall, F.newKind, F.newSplit, F.newRow]
  repeat (first | refine wpAny_loadPart_at hC ?_ | (refine wpAny_isSubtype_exc hC ?_; rw [hc]) | refine wpAny_staticBase_exc hC ?_ | refine wpAny_madeBy_exc hC ?_ | simp only [bne_self_eq_false, Bool.false_eq_true, if_false] | wp_step)
  exact hq
end
section
variable {pg : Program} {wd : World} {B : Around} {Er : Value → Shared → Prop} {R : Result → Shared → Prop} {hh : Heap} {gs : Array GenState} {dr : Drawn} {tk : Nat} {os : OsState}
variable {nm q : Str} {C N : Addr} {bs bm bB : List Value} {hd : Bool} {sn : List Str} {sub : List Value} {ab : Bool} {col : Option Bool} {dd : Option Addr} {m0 m1 m2 m3 m5 : Option Value} {T nid iid : String} {kw : List (Str × Value)}
/-- the heap behind C.__new__(C, f = v) -/
abbrev born (hh : Heap) (C : Addr) : Heap := (hh.push (W.kdv_tup [])).push (excO C hh.objs.size)
theorem newK (F : ExcBaseFacts T nid iid bB) (hT : ∀ Y : String, bm.contains (.type Y) = bB.contains (.type Y)) (hC : hh.get? C = some (excClassObj nm q C N bs bm hd sn sub ab col dd m0 m1 m2 m3 m5 nid))
    (hq : R (.ok (.ret (.ref (hh.objs.size + 1)))) ⟨born hh C, gs, dr, tk, os⟩) : codeAny (model pg wd) B (.builtin nid ⟨[.ref C], kw⟩) R ⟨hh, gs, dr, tk, os⟩ := by
  have he := F.ends
  have cB : (Value.ref C :: bm).contains (.type T) = true := by rw [List.contains_cons, hT, F.hasB, Bool.or_true]
  have cA : (Value.ref C :: bm).contains (.type "AttributeError") = false := by rw [List.contains_cons, hT, F.noAttr]; rfl
  have cN : (Value.ref C :: bm).contains (.type "NameError") = false := by rw [List.contains_cons, hT, F.noName]; rfl
  refine codeAny_builtinAt F.entry ?_
  unfold Builtin.«BaseException.__new__»
  refine wpAt_bind ?_
  show wpAt _ _ _ (stack >>= _) _ _ _
  refine wpAt_bind (wpAt_stack fun p below => wpAt_of_wpAny ?_)
  wp_walk
  refine wpAt_of_wpAny ?_
  rw [F.owner]
  repeat (first | with_reducible refine wpAny_madeHere_exc F.canon hC ?_ | with_reducible refine wpAny_loadPart_at hC ?_ | (with_reducible refine wpAny_isSubtype_exc hC ?_; first | rw [cB] | rw [cA] | rw [cN]) | wp_step)
  show R _ _
  rw [Heap.size_push]
  exact hq
theorem typeCallK (F : ExcBaseFacts T nid iid bB) (hT : ∀ Y : String, bm.contains (.type Y) = bB.contains (.type Y)) {fI : Addr} {Q : Fin → Shared → Prop} (hC : hh.get? C = some (excClassObj nm q C N bs bm hd sn sub ab col dd m0 m1 m2 m3 m5 nid))
    (hi : W.Looks (model pg wd) hh (typeLookup (.ref C) "__init__") (some (.ref fI))) (hb : ∀ o, W.Looks (model pg wd) hh (bindSpecial (.ref fI) o) (.ref fI, [o]))
    (hq : codeAny (model pg wd) B (.call (.ref fI) ⟨[.ref (hh.objs.size + 1)], kw⟩) (fun r s' => match r with | .ok (.ret v) => v = .none ∧ Q (.done (.ret (.ref (hh.objs.size + 1)))) s' | .ok _ => False | .error e => Er e s') ⟨born hh C, gs, dr, tk, os⟩) :
    wpAny (model pg wd) B (Builtin.«type.__call__» ⟨[.ref C], kw⟩) Q Er ⟨hh, gs, dr, tk, os⟩ := by
  repeat (first | with_reducible refine wpAny_loadPart_at hC ?_ | with_reducible refine wpAny_madeBy_exc hC ?_ | wp_step)
  refine codeAny_call_builtin_code (Code.quiet_builtin _ F.quiet) (chkNewK F hT hC (newK F hT hC ?_))
  show wpAny _ _ _ _ _ _
  have k : ∀ b o, hh.get? b = some o → (born hh C).get? b = some o := fun b o e => Heap.get?_push_of_some _ (Heap.get?_push_of_some _ e)
  have hC1 := k _ _ hC
  have hg : (born hh C).get? (hh.objs.size + 1) = some (excO C hh.objs.size) := by heap_get
  have cC : (Value.ref C :: bm).contains (.ref C) = true := by simp
  have i1 := hi.keeps k
  have b1 := (hb (.ref (hh.objs.size + 1))).keeps k
  unfold isInstance
  repeat (first | with_reducible refine wpAny_loadPart_at hg ?_ | (with_reducible refine wpAny_isSubtype_exc hC1 ?_; rw [cC]) | wp_step)
  show wpAny _ _ (typeLookup (.ref C) _) _ _ _
  refine i1.at ?_
  refine wpAny_holding (wpAny_bind (b1.at (wpAny_bind (wpAny_call (codeAny_mono hq fun r s' z => ?_)))))
  rcases r with e | (v | _ | _ | _) <;> first | exact z | exact z.elim | skip
  obtain ⟨rfl, z⟩ := z
  first
    | exact wpAny_pure (wpAny_pure z)
    | (wp_walk; exact z)
theorem callK (F : ExcBaseFacts T nid iid bB) (hT : ∀ Y : String, bm.contains (.type Y) = bB.contains (.type Y)) {fI : Addr} (hC : hh.get? C = some (excClassObj nm q C N bs bm hd sn sub ab col dd m0 m1 m2 m3 m5 nid))
    (hi : W.Looks (model pg wd) hh (typeLookup (.ref C) "__init__") (some (.ref fI))) (hb : ∀ o, W.Looks (model pg wd) hh (bindSpecial (.ref fI) o) (.ref fI, [o]))
    (hq : codeAny (model pg wd) (B.under (.builtin "type.__call__" ⟨[.ref C], kw⟩)) (.call (.ref fI) ⟨[.ref (hh.objs.size + 1)], kw⟩) (W.InitBack (hh.objs.size + 1) R) ⟨born hh C, gs, dr, tk, os⟩) :
    codeAny (model pg wd) B (.call (.ref C) ⟨[], kw⟩) R ⟨hh, gs, dr, tk, os⟩ := by
  have f1 := tc_lookup
  have f2 := tc_bind (.ref C)
  have tT : (⟨hh, gs, dr, tk, os⟩ : Shared).TypeIs (.ref C) "type" := ⟨_, hC, rfl⟩
  have ck : wpAny (model pg wd) B.in1 (checkBuiltinCall "type.__call__" ⟨[.ref C], kw⟩) (fun _ s => s = ⟨hh, gs, dr, tk, os⟩) (fun _ _ => False) ⟨hh, gs, dr, tk, os⟩ := by
    have f3 := tc_sub
    simp only [checkBuiltinCall, tc_kind, tc_split]
    repeat (any_goals (first | assumption | rfl | with_reducible refine wpAny_loadPart_at hC ?_ | with_reducible refine wpAny_onRaise ?_ | with_reducible refine wpAny_map ?_ | wp_step))
  refine codeAny_of_tree ?_
  show wpAny _ _ (callAny (.ref C) _) _ _ _
  repeat (any_goals (first | assumption | with_reducible refine wpAny_loadPart_at hC ?_ | wp_step))
  refine ⟨rfl, codeAny_call_builtin_at (Code.quiet_builtin _ (by decide +kernel)) entry_typeCall (wpAny_mono ck (fun _ s' e => ?_) fun _ _ z => False.elim z)⟩
  subst e
  refine typeCallK F hT hC hi hb (codeAny_mono hq fun r s' z => ?_)
  rcases r with e | (v | _ | _ | _) <;> exact z
end
end VX
namespace VX
open PySem PySem.Spec PyProof.Rows L2
/-- C(f = v), C's own __init__ keeping sp -/
def tMkK (C : Addr) (sp : Sp) (ta : TA) : L2.St → Hp → XK → Prop := fun σ H Q => ta σ H fun zs H1 => zs.length = 1 ∧ ∀ a, H1 a = none → sp (.ref a :: zs) (upd H1 a (exo a C none))
  (fun v H2 => v = .non ∧ ∃ (d : Addr) (fs : List (Str × V)), H2 a = some (exo a C (some d)) ∧ H2 d = some (exd d fs) ∧ H1 d = none ∧ Q (.ref C) (some d) (upd (del H2 a) d (.xd fs))) (fun _ _ _ => False)
theorem pmk_oexK {X : Cx} {CX : CXT} {x f : Str} {C fI : Addr} {k : Nat} {fd : FuncData} {sp : Sp} {p kpos pos : Pos} {e : Expr} {ta : TA} (T : OexC X.K C) (iC : PySem.W.findIn X.K (.ref C) "__init__" = some (some (.ref fI))) (tI : PySem.W.typeIn X.K (.ref fI) = some (.type "function"))
    (F1 : FnOk X.prog X.w X.K X.mg X.base CX k fI fd ["self", f] sp) (hr : Room (k + 1) X.A) (hb : ∀ (s : Shared) (u v : Value), X.K.In s.heap → BindsTo s fd ⟨[u], [(f, v)]⟩ [("self", u), (f, v)]) (hx : Passes CX X (fun _ _ _ => False)) (hg : Gl X x) (hm : X.mg x = some (.ref C))
    (ha : PK X [⟨some f, e, kpos⟩] ta) (hdb : (x == ("__debug__" : Str)) = false := by decide) (hpl : ((backTo pos (starEach [] X.env)).any (·.1) || (backToKw pos (keywordEach [⟨some f, e, kpos⟩] X.env)).any (·.1.isNone)) = false := by rfl)
    (hall : (backToKw pos (keywordEach [⟨some f, e, kpos⟩] X.env)).all (·.1.isSome) = true := by rfl) (hks : (backToKw pos (keywordEach [⟨some f, e, kpos⟩] X.env)).filterMap (·.1) = [f] := by rfl) :
    PMk X (.Call (.Name x p) [] [⟨some f, e, kpos⟩] pos) (tMkK C sp ta) := by
  intro pins s σ H Q I h
  obtain ⟨nm, q, N, bs, bm, sn, sub, ab, col, dd, k0, k1, k2, k3, k5, hC, hbm⟩ := T.cls
  refine wpAny_Call_Name_kw (ld_glob I hg hm ?_ hdb)
  refine PySem.W.callWith_KW0 (h₀ := X.base) I.ok.mod.kin T.kC hall ?_ hpl
  refine thn (ha.run pos pins s σ H _ I h) fun ws s1 ⟨zs, H1, I1, rz, l1, q1⟩ => ⟨I1.kIn, ?_⟩
  rw [hks]
  obtain ⟨z, rfl⟩ : ∃ z, zs = [z] := by
    cases zs with
    | nil => cases l1
    | cons z r =>
      cases r with
      | nil => exact ⟨z, rfl⟩
      | cons _ _ => cases l1
  obtain ⟨u, rfl, ru⟩ := vals1 rz
  show wpAny _ _ (call (.ref C) [] [(f, u)]) _ _ _
  obtain ⟨hp, g, dr, tk, os⟩ := s1
  have hsz : hp.objs.size ≤ hp.objs.size + 1 := Nat.le_succ _
  have hn : H1 (hp.objs.size + 1) = none := I1.hok.fresh hsz
  have hq := q1 (hp.objs.size + 1) hn
  have kk : ∀ b o, hp.get? b = some o → (born hp C).get? b = some o := fun b o e => Heap.get?_push_of_some _ (Heap.get?_push_of_some _ e)
  have hget : (born hp C).get? (hp.objs.size + 1) = some (PySem.HandSPX.excO C hp.objs.size) := by heap_get
  have I2 : L2.Inv X pins σ (upd H1 (hp.objs.size + 1) (exo (hp.objs.size + 1) C none)) ⟨born hp C, g, dr, tk, os⟩ :=
    I1.laid (t' := tk) (a := hp.objs.size + 1) (o := exo (hp.objs.size + 1) C none) (h' := born hp C) kk hsz (exo_ok hget)
  have r2 : Vals [V.ref (hp.objs.size + 1), z] [Value.ref (hp.objs.size + 1), u] := .cons rfl (.cons ru .nil)
  have e1 : Env0 X.prog X.w X.K X.mg X.base (X.A.under (.builtin "type.__call__" ⟨[.ref C], [(f, u)]⟩)) X.stack ⟨born hp C, g, dr, tk, os⟩ (upd H1 (hp.objs.size + 1) (exo (hp.objs.size + 1) C none)) := I2.env0.make C [] [(f, u)]
  refine wpAny_call (callK PySem.F.excBase_ValueError (fun Y => PySem.HandSPX.refsVE_contains Y bm hbm) (I1.kIn _ _ hC) (PySem.W.looks_findIn I1.kIn iC) (fun o => PySem.W.bind_fn I1.kIn o tI)
    (codeAny_mono (F1.run _ X.stack _ _ ⟨[Value.ref (hp.objs.size + 1)], [(f, u)]⟩ [Value.ref (hp.objs.size + 1), u] _ _ (fun _ _ _ => False) (hr.make C [] [(f, u)]) e1 (hb _ _ _ I2.kIn) r2 hq) fun r s' hq' => ?_))
  cases r with
  | error er => exact hx pins σ _ _ er s' I2 hq'
  | ok fl =>
    cases fl with
    | ret u =>
      obtain ⟨v, H2, os2, bare2, un2, hok2, rv, ev, d, fs, ea, ed, hd1, q2⟩ := hq'
      subst ev
      obtain ⟨h2, g2, d2, t2, os'⟩ := s'
      exact ⟨rv, mk_end (raises_own T.exC T.tyC) I1 hsz kk un2 hok2 os2 bare2 ea ed hd1 q2⟩
    | next => exact False.elim hq'
    | brk => exact False.elim hq'
    | cont => exact False.elim hq'
/-- C(), C an exception's class without an __init__ of its own -/
theorem pmk_own0 {X : Cx} {C : Addr} {bmB : List Value} {B newId initId : String} {x : Str} {p pos : Pos} (F : ExcBaseFacts B newId initId bmB) (q : PySem.W.excIn X.K C bmB newId = true) (gC : X.mg x = some (.ref C)) (kC : PySem.W.keepIn X.K (.ref C) = true) (r : Raises X (.ref C)) (hg : Gl X x)
    (hdb : (x == ("__debug__" : Str)) = false := by decide) : PMk X (.Call (.Name x p) [] [] pos) (fun _ H Q => Q (.ref C) none H) := by
  intro pins s σ H Q I h
  refine wpAny_Call_Name_kw (ld_glob I hg gC ?_ hdb)
  refine PySem.W.callWith_K0 I.kIn kC ?_
  show wpAny _ _ (call (.ref C) []) _ _ _
  obtain ⟨bm, N, nm, qn, bs, hdct, sn, sub, ab, col, dd, k0, k1, k2, k3, k5, mN, hC, hN, hni, T⟩ := exc_obj I.kIn q
  refine wpAny_call_exc_subT F T hC hN hni (fun h' e hm => ?_) (by show 0 ≤ sizeLine; omega)
  exact mk_of I hm r h (I.hok.gone hm.new)
end VX

set_option Elab.async false
set_option linter.all false
set_option maxRecDepth 100000
set_option maxHeartbeats 4000000
/-! defs that are called where no repr runs -/
namespace VX
open PySem PySem.Spec PyProof.Rows L2
/-- a def's promise, kept wherever no repr runs around the call -/
structure GFn (P : Program) (w : World) (K : PySem.W.Frag) (mg : Str → Option Value) (base : Heap) (k : Nat) (f : Addr) (fd : FuncData) (ps : List Str) (sp : Sp) : Prop where
  len : ∀ {vs H Q E}, sp vs H Q E → vs.length = ps.length
  go : ∀ {A : Around}, A.guards = some [] → Room k A → ∀ {outer : List Env} {s : Shared} {H : Hp}, Env0 P w K mg base A outer s H → ∀ {args : Args} {us : List Value} {vs : List V} {Q : VK} {E : XK}, BindsTo s fd args (ps.zip us) → Vals vs us → sp vs H Q E →
    codeAny (model P w) A (.call (.ref f) args) (CR CX0 outer P w H s Q E) s
section
variable {P : Program} {w : World} {K : PySem.W.Frag} {mg : Str → Option Value} {base : Heap} {x qual : Str} {pa : Arguments} {bd : List Stmt} {sc : Scope} {f : Addr} {fd : FuncData} {N ps : List Str} {k : Nat} {sp : Sp}
/-- the rule for such a def: the guards told -/
theorem GFn.of (F : FunD K x qual pa bd sc [] [] f fd) (S : FnScope N ps sc) (len : ∀ {vs H Q E}, sp vs H Q E → vs.length = ps.length)
    (body : ∀ (cdv : Value) (A : Around) (outer : List Env) (s : Shared) (H : Hp) (vs : List V) (Q : VK) (E : XK), A.guards = some [] → Room k (A.deeper (envOfC qual sc s.heap.objs.size f cdv)) → sp vs H Q E →
      ∃ t, PSs (cxOf CX0 P w K mg base N qual sc f cdv A outer s H E).nox bd t ∧ t { nx := fun _ H' => Q .non H', rt := Q } (start N vs) H) : GFn P w K mg base (k + 1) f fd ps sp := by
  obtain ⟨oc, od, dV, kV, doc, pm, an, cdv, ct, osl, rfl, lk, hcd, _, _⟩ := F.ex
  refine ⟨len, fun {A} hg hr {outer s H} e0 {args us vs Q E} hb r q => ?_⟩
  have KX : K.In s.heap := e0.mod.kin.keeps fun b o e => (e0.bs b o e).1
  have nl : s.heap.NoLimit := e0.mod.nolimit.keeps fun b o e => (e0.bs b o e).1
  have kinds : ∀ y ∈ ps.zip us, sc.names.lookup y.1 = some .local ∨ (sc.names.lookup y.1 = some .cell ∧ ((cellsFrom (s.heap.objs.size + 1) sc.names []).lookup y.1).isSome = true) := by
    rintro ⟨n, v⟩ hy
    have hn := S.par n (List.of_mem_zip hy).1
    exact hn.elim .inl fun z => .inr ⟨z, PySem.W.cellsFrom_some _ _ _ (.inl z)⟩
  refine codeAny_call_function hr.depth (KX _ _ lk) rfl S.co S.gen rfl (PySem.W.codeRec_of KX hcd) (hb _ _ _ _ (wpAny_newFunctionEnv_cells S.kind kinds ?_))
  rintro env rfl s1 ic
  refine ⟨nl.keeps ic.toInCall.keep, codeAny_func ?_⟩
  obtain ⟨t, ht, tq⟩ := body cdv A outer s H vs Q E hg (hr.deeper _) q
  have I : L2.Inv (cxOf CX0 P w K mg base N qual sc f cdv A outer s H E) [] (start N vs) H s1 := inv_start S hr.hd e0 (len q) r ic
  have back : ∀ {σ' : L2.St} {H' : Hp} {s' : Shared} {v : V} {u : Value}, L2.Inv (cxOf CX0 P w K mg base N qual sc f cdv A outer s H E) [] σ' H' s' → RelV v u → Q v H' → CE outer P w H s Q u s' :=
    fun J rv z => ⟨_, _, J.os, J.bare, J.base, J.hok, rv, z⟩
  refine wpAny_mono (ht.nox.run [] s1 (start N vs) H _ I tq) (fun fl s' h => ?_) fun _ _ h => h
  cases fl with
  | next => obtain ⟨_, _, J, z⟩ := h; exact back (v := V.non) (u := Value.none) J rfl z
  | ret u => obtain ⟨_, _, _, J, rv, z⟩ := h; exact back J rv z
  | brk => obtain ⟨_, _, _, z⟩ := h; exact z.elim
  | cont => obtain ⟨_, _, _, z⟩ := h; exact z.elim
end
section
variable {X : Cx} {k : Nat} {f : Addr} {fd : FuncData} {ps : List Str} {sp : Sp} {x : Str} {p pos : Pos} {e : Expr} {es : List Expr} {t : TA}
/-- f(e, ..) of such a def, where no repr runs -/
theorem pe_gcall (F : GFn X.prog X.w X.K X.mg X.base k f fd ps sp) (hg0 : X.A.guards = some []) (hr : Room k X.A) (hg : Gl X x) (hm : X.mg x = some (.ref f)) (hk : PySem.W.keepIn X.K (.ref f) = true) (hb : Binds X.K fd ps []) (ha : PA X (e :: es) t)
    (hdb : (x == ("__debug__" : Str)) = false := by decide) (he : starEach (e :: es) X.env = (false, eval e X.env) :: starEach es X.env := by rfl) (hpl : (backTo pos (starEach es X.env)).any (·.1) = false := by rfl) :
    PE X (.Call (.Name x p) (e :: es) [] pos) (tCall sp [] E0 t) := by
  refine ⟨fun pins s σ H Q I h => wpAny_Call_Name_kw (ld_glob I hg hm ?_ hdb)⟩
  refine PySem.W.callWith_K (h₀ := X.base) I.ok.mod.kin hk (thn (ha.run pos pins s σ H _ I h) fun us s1 ⟨vs, H1, I1, r, q⟩ => ⟨I1.kIn, ?_⟩) he hpl
  have q : sp vs H1 Q E0 := by have z : sp (vs ++ []) H1 Q E0 := q; rw [List.append_nil] at z; exact z
  have hl : us.length = ps.length := by rw [← r.length]; exact F.len q
  have b := hb s1 us I1.kIn (by rw [List.append_nil]; exact hl)
  rw [List.append_nil] at b
  refine wpAny_call (codeAny_mono (F.go hg0 hr I1.env0 b r q) fun r s' hq => ?_)
  match r, hq with
  | .ok (.ret u), hq => exact I1.after hq
  | .error _, hq => exact hq.elim
end
/-- the call's base: the heap without the script -/
theorem base_of {P : Program} {w : World} {K : PySem.W.Frag} {mg mb : Str → Option Value} {s : Shared} {H : Hp} {a : Addr} {vs : Array Value} (KX : K.In s.heap) (g1 : s.heap.Ns mainGlobals mg) (g2 : s.heap.Ns builtinsNs mb) (g3 : ∀ x : Str, x ≠ "__name__" → mb x = bootBuiltins x)
    (g4 : s.heap.NoLimit) (g5 : s.gens = #[]) (ha : s.heap.get? a = some { cls := .type "list", data := .seq vs }) (ok : HOk P w H s.heap) (only : ∀ b, b ≠ a → H b = none) (hK : H a ≠ none → K.lookup a = none) : Env0 P w K mg (hidT s.heap H) callerA [] s H := by
  have dk : ∀ {b : Addr} {o : Obj} {es : Array DictEntry} {ep : Nat}, s.heap.get? b = some o → o.data = .dict es ep → H b = none := by
    intro b o es ep e d
    by_cases hb : b = a
    · rw [hb, ha] at e
      rw [← Option.some.inj e] at d
      cases d
    · exact only b hb
  have ns : ∀ {b : Addr} {m : Str → Option Value}, s.heap.Ns b m → (hidT s.heap H).Ns b m := by
    rintro b m ⟨o, es, ep, e, d, r⟩
    exact ⟨o, es, ep, hidT_get e (dk e d), d, r⟩
  have kin : K.In (hidT s.heap H) := by
    intro b o e
    refine hidT_get (KX b o e) ?_
    by_cases hb : b = a
    · subst hb
      cases z : H b with
      | none => rfl
      | some u => rw [hK (by rw [z]; exact fun n => nomatch n)] at e; cases e
    · exact only b hb
  obtain ⟨mc, l1, l2⟩ := g4
  exact { frames := rfl, mod := { kin := kin, glob := ns g1, blt := ⟨mb, ns g2, g3⟩, nolimit := ⟨mc, ns l1, l2⟩ }, bs := fun b o e => of_hidT e, bsz := Nat.le_of_eq (hidT_size _ _), funs := trivial, frf := fun b hb => (nomatch hb), hok := ok, bare := .of_eq g5 }
/-- the law's own end, its def's promise kept where no repr runs -/
theorem walk_g {l : PySem.W.OpenLaw} {n k : Nat} {q : Program} {loose : List Str} {XP : (Str → Option Value) → Heap → Prop} {YP : World → Heap → Prop} {d : DefRec} {x : Str}
    (hn : l.most = some n) (hn2 : n ≤ sizeLine) (hdf : d.params.defaults = []) (hr : Room k callerA)
    (F : ∀ (w : World) (mg : Str → Option Value) (fa : Addr) (h : Heap), YP w h → h.Ns mainGlobals mg → mg d.name = some (.ref fa) →
      ∃ (K : PySem.W.Frag) (fd : FuncData) (sp : Sp), K.In h ∧ (∀ (s : Shared) (u : Value), BindsTo s fd ⟨[u], []⟩ [(x, u)]) ∧
        (∀ (H : Hp) (a : Addr) (ns : List Int), ns.length ≤ n → Only H → SqL K H a (ns.map V.int) → sp [.ref a] H (fun v _ => v = .bl true) fun _ _ _ => False) ∧
        ∀ base : Heap, K.In base → base.Ns mainGlobals mg → GFn l.prog w K mg base k fa fd [x] sp) :
    PySem.W.WalkO q loose XP YP l.row.toRowW d [] (fun f vs => PySem.call f vs) := by
  refine Att.attach_call hn hdf fun w s₀ s₁ mg mb fa o pm cd doc a vs ns G Y ho hd hcd hmg hobj hints hlen hg => ?_
  obtain ⟨K, fd, sp, KX, hb, hsp, hF⟩ := F w mg fa _ Y G.T.g hmg
  have rv := vals_ints hints
  have lv := hints.length
  have core : ∀ H : Hp, Only H → SqL K H a (ns.map V.int) → HOk l.prog w H s₁.heap → (∀ b, b ≠ a → H b = none) → (H a ≠ none → K.lookup a = none) →
      codeAny (model l.prog w) callerA (.call (.ref fa) ⟨[.ref a], []⟩) (fun r s' => r = .ok (.ret (.bool true)) ∧ OldK s₁.heap s'.heap ∧ s'.os = s₁.os ∧ AllBare s'.gens) s₁ := by
    intro H oH sH ok on hK
    have e0 := base_of (P := l.prog) (w := w) (mg := mg) KX G.T.g G.T.b G.T.builtins G.T.nolimit hg hobj ok on hK
    refine codeAny_mono ((hF _ e0.mod.kin e0.mod.glob).go (A := callerA) rfl hr e0 (us := [.ref a]) (vs := [V.ref a]) (hb s₁ (.ref a)) (.cons rfl .nil) (hsp H a ns hlen oH sH)) fun r s' h => ?_
    match r, h with
    | .error _, h => exact h.elim
    | .ok (.ret u), h =>
      obtain ⟨v, H', os, bare, un, ok', rr, rfl⟩ := h
      refine ⟨congrArg (fun u => Except.ok (Flow.ret u)) rr, OldK.of_keep fun b o e => ?_, os, bare⟩
      rcases oH b with z | ⟨ob, xs, z⟩
      · exact un.keep b o e z (fun m => nomatch m) (by simp)
      · have f1 := (ok b _ z).1
        have f2 := (ok' b _ (un.frzs b ob _ z)).1
        rw [e] at f1
        rw [f2, ← Option.some.inj f1]
  cases hk : K.lookup a with
  | some o1 =>
    have e := KX a o1 hk
    rw [hobj] at e
    cases e
    refine core (fun _ => none) (fun _ => .inl rfl) (.inr ⟨_, vs.toArray, _, hk, rfl, rfl, rfl, ?_, by simpa using rv⟩) (fun b u z => nomatch z) (fun b _ => rfl) fun z => absurd rfl z
    rw [List.size_toArray, lv]
    exact Nat.le_trans hlen hn2
  | none =>
    let fz : HO := .frz { cls := .type "list", data := .seq vs.toArray } (.lst (ns.map V.int))
    refine core (upd (fun _ => none) a fz) (fun b => ?_) (.inl (.inr ⟨_, upd_same⟩)) (fun b u z => ?_) (fun b hb => upd_ne hb) fun _ => hk
    · by_cases hb : b = a
      · exact .inr ⟨_, _, by rw [hb]; exact upd_same⟩
      · exact .inl (upd_ne hb)
    · by_cases hb : b = a
      · subst hb
        rw [upd_same] at z
        cases z
        exact ⟨hobj, by rw [List.length_map]; exact Nat.le_trans hlen hn2, vs, _, rv, hobj⟩
      · rw [upd_ne hb] at z
        cases z
end VX

set_option Elab.async false
set_option linter.all false
set_option maxRecDepth 100000
set_option maxHeartbeats 4000000
/-! # for i, c in enumerate(a text, start=k); x + y by an own __add__; replace in a def -/
namespace VX
open PySem PySem.Spec PyProof.Rows L2
/-! ### enumerate(text, start=k) -/
def IteS (x : Str) (k0 : Int) : It :=
  ⟨fun i _ => i < x.cps.size, fun i H v H' => ∃ T c, v = .ref T ∧ H T = none ∧ x.cps[i]? = some c ∧ H' = upd H T (.tup [.int (k0 + (i : Nat)), .str ⟨#[c]⟩]), fun i _ => x.cps.size = i⟩
structure EnS (x : Str) (t : Tok) (k0 : Int) (h : Heap) (e j : Addr) (i : Nat) : Prop where
  en : ∃ old, IsEnum h e j (k0 + (i : Int)) old
  hj : h.IsStrIter j (strIterType x) x t i
  ei : e ≠ j
theorem turn_enumS {P : Program} {w : World} {K : PySem.W.Frag} {elts : List Expr} {kk : Nat} {tpos : Pos} (x : Str) (t : Tok) (k0 : Int) (e it : Addr) :
    Turn P w K (.Tuple elts kk tpos) (IteS x k0) [e, it] e (fun i h => EnS x t k0 h e it i) where
  mem := by simp
  obj := fun i h st b hb => by
    obtain ⟨⟨old, he⟩, ⟨o, ho, _, hd⟩, _⟩ := st
    rcases (by simpa using hb : b = e ∨ b = it) with rfl | rfl
    · exact ⟨_, he, fun v q => nomatch q⟩
    · exact ⟨o, ho, fun v q => by rw [hd] at q; cases q⟩
  keep := fun i h h' st k => by
    obtain ⟨⟨old, he⟩, ⟨o, ho, r⟩, n1⟩ := st
    exact ⟨⟨old, k e (by simp) _ he⟩, ⟨o, k it (by simp) _ ho, r⟩, n1⟩
  item := by
    intro X hP hw hK hc i pins s σ H E I hf st hg
    subst hP hw hK
    obtain ⟨⟨old, he⟩, hit, n1⟩ := st
    have el : e < s.heap.objs.size := Heap.lt_size he
    have il : it < s.heap.objs.size := by obtain ⟨_, q, _⟩ := id hit; exact Heap.lt_size q
    refine wpAny_pyNext_enum_itemC (Draws.text (prog := X.prog) (w := X.w) (A := X.A.in1) (I.ok.hd hc) it x t) he hit hg n1 (by simp [n1]) fun y h' tk hy ho hst hT _ hk => ?_
    obtain ⟨c, u, hcx, rfl⟩ := hy
    refine ⟨_, rfl, wpAny_letOwnedTupleGo_enum (s := { s with heap := h', toks := tk + 1 }) ho fun h2 he2 sb => ?_⟩
    have hT2 : h2.get? s.heap.objs.size = some { cls := .type "tuple", data := .seq #[.int (k0 + (i : Int)) tk, .str ⟨#[c]⟩ u] } := (sb.2 _ (Nat.ne_of_gt el)).trans hT
    have new : ObjOk X.prog X.w (upd H s.heap.objs.size (.tup [.int (k0 + (i : Nat)), .str ⟨#[c]⟩])) h2 s.heap.objs.size (.tup [.int (k0 + (i : Nat)), .str ⟨#[c]⟩]) :=
      ⟨by show 2 ≤ sizeLine; decide, [.int (k0 + (i : Int)) tk, .str ⟨#[c]⟩ u], .cons ⟨_, rfl⟩ (.cons ⟨_, rfl⟩ .nil), ⟨_, hT2, rfl, _, rfl⟩⟩
    have I1 : Inv X pins σ (upd H s.heap.objs.size (.tup [.int (k0 + (i : Nat)), .str ⟨#[c]⟩])) { s with heap := h2, toks := tk + 1 } :=
      I.turnedNew (ch := [e, it]) (fun b ob hb q => (sb.2 b fun z => hb (by simp [z])).trans (hk b ob (fun z => hb (by simp [z])) (fun z => hb (by simp [z])) q)) hf (Nat.le_refl _) new
    refine ⟨.ref s.heap.objs.size, _, I1, rfl, ⟨_, c, rfl, I.hok.fresh (Nat.le_refl _), hcx, rfl⟩, ⟨⟨.str ⟨#[c]⟩ u, ?_⟩, ?_, n1⟩, fun b hb => ?_⟩
    · rw [show k0 + ((i + 1 : Nat) : Int) = k0 + (i : Int) + 1 by omega]
      exact he2
    · obtain ⟨o, ho', r⟩ := hst
      exact ⟨o, (sb.2 it (Ne.symm n1)).trans ho', r⟩
    · have lt : b < s.heap.objs.size := by
        rcases (by simpa using hb : b = e ∨ b = it) with rfl | rfl
        · exact el
        · exact il
      rw [upd_ne (Nat.ne_of_lt lt)]
      exact (hf b hb).1
  done := by
    intro X hP hw hK hc i pins s σ H E I hf st hg
    subst hP hw hK
    obtain ⟨⟨old, he⟩, hit, n1⟩ := st
    obtain ⟨f0, f1, f2, f3, f4, f5⟩ := hf it (by simp)
    have hg : x.cps.size = i := hg
    subst hg
    exact wpAny_pyNext_enum_endD (Draws.text (prog := X.prog) (w := X.w) (A := X.A.in1) (I.ok.hd hc) it x t) he hit fun h' eb => ⟨rfl, I.turned (t' := s.toks) (fun b o hb q => eb b o hb q) f0 f1 f3 f4 f5⟩
  self := fun A i s Q E st h => let ⟨_, he⟩ := st.en; wpAny_pyIter_enum he h
def iEnumS (ta : TA) (k0 : Int) : TI := fun σ H R => ta σ H fun vs H1 => ∃ x, vs = [.str x] ∧ R (IteS x k0) H1
theorem walk_enumS {x : Str} {k0 : Int} : Walk (IteS x k0) x.cps.size (fun _ => True) (YPair (fun i => some (.int (k0 + (i : Nat)))) (fun i => x.cps[i]?.map fun c => .str ⟨#[c]⟩)) := by
  refine ⟨fun i _ hi _ => hi, fun _ _ => rfl, fun i H v H' _ _ y => ?_⟩
  obtain ⟨T, c, k1, k2, k3, k4⟩ := y
  exact ⟨T, .int (k0 + (i : Nat)), .str ⟨#[c]⟩, k1, k2, k4, rfl, by show x.cps[i]?.map _ = _; rw [k3]; rfl⟩
theorem callWith_type_kw {M : Model} {A : Around} {E : Value → Shared → Prop} {s : Shared} {pos : Pos} {T : String} {args : List (Bool × Sem Value)} {kws : List (Option Str × Sem Value)} {Q : Value → Shared → Prop} (hplain : args.any (·.1) = false) (hkw : kws.any (·.1.isNone) = false)
    (h : wpAny M A (evalArgs (.type T) true args kws) (fun a s₁ => wpAny M A (call (.type T) a.pos a.kw) Q E s₁) E s) :
    wpAny M A (callWith pos (.type T) [] args kws) Q E s := by
  unfold callWith
  refine wpAny_bind (wpAny_holding (wpAny_mono h (fun a s₁ h₁ => wpAny_bind (wpAny_standAt ?_)) fun _ _ x => x))
  simp only [hplain, hkw, Bool.or_false]
  refine wpAny_bind (wpAny_pure ?_)
  exact wpAny_bind (wpAny_mono h₁ (fun r s₂ hr => wpAny_bind (wpAny_holding (wpAny_point (wpAny_pure hr)))) fun _ _ x => x)
theorem pi_enumS {X : Cx} {e : Expr} {ta : TA} {p pos tpos kp kp2 : Pos} {elts : List Expr} {kk jz : Nat} {k0 : Int} (hg : Gl X "enumerate") (hm : X.mg "enumerate" = none) (ha : PA X [e] ta) (h0 : -(2 ^ 63) ≤ k0 := by decide) (h1 : k0 < 2 ^ 63 := by decide)
    (st : starEach [e] X.env = (false, eval e X.env) :: starEach [] X.env := by rfl)
    (hall : (backToKw pos (keywordEach [⟨some "start", .Constant (.int k0) jz kp, kp2⟩] X.env)).all (·.1.isSome) = true := by rfl)
    (hkw : (backToKw pos (keywordEach [⟨some "start", .Constant (.int k0) jz kp, kp2⟩] X.env)).any (·.1.isNone) = false := by rfl)
    (hks : (backToKw pos (keywordEach [⟨some "start", .Constant (.int k0) jz kp, kp2⟩] X.env)).filterMap (·.1) = [("start" : Str)] := by rfl)
    (hpl : (backTo pos (starEach [e] X.env)).any (·.1) = false := by rfl)
    (hbt : backTo pos (starEach [e] X.env) = (false, eval e X.env) :: backTo pos (starEach [] X.env) := by rfl) :
    PI X (.Tuple elts kk tpos) (.Call (.Name "enumerate" p) [e] [⟨some "start", .Constant (.int k0) jz kp, kp2⟩] pos) (iEnumS ta k0) := by
  have hk : PK X [⟨some "start", .Constant (.int k0) jz kp, kp2⟩] (tCons (tC (.int k0)) tNil) := pk_cons pe_int pk_nil
  refine ⟨fun pins s σ H R I h => ?_⟩
  refine wpAny_Call_Name_kw (ld_blt I hg hm boot_enumerate ?_)
  refine callWith_type_kw hpl hkw ?_
  have run := ha.run pos pins s σ H _ I h
  rw [hbt] at run ⊢
  refine evalArgs_kwB hall (thn run fun us s1 ⟨vs, H1, I1, r1, x, ex, q1⟩ => ?_)
  subst ex
  obtain ⟨u, rfl, ru⟩ := vals1 r1
  obtain ⟨t, rfl⟩ := ru
  refine thn (hk.run pos pins s1 σ H1 (fun zs H2 => H2 = H1 ∧ zs = [.int k0]) I1 ⟨rfl, rfl⟩) fun ws s2 ⟨zs, H2, I2, rz, e1, e2⟩ => ?_
  subst e1 e2
  obtain ⟨u2, rfl, ru2⟩ := vals1 rz
  obtain ⟨t2, rfl⟩ := ru2
  rw [hks]
  show wpAny _ _ (call (.type "enumerate") [.str x t] [(Str.ofString "start", .int k0 t2)]) _ _ _
  refine enum_begins_start (begins_text x t) trivial h0 h1 fun h' he' ht _ hkk => wpAny_pyIter_enum he' ?_
  have I3 : Inv X pins σ H2 { s2 with heap := h' } := I2.kept (t' := s2.toks) hkk
  refine ⟨s2.heap.objs.size + 1, [s2.heap.objs.size + 1, s2.heap.objs.size], _, _, H2, rfl, I3, turn_enumS x t k0 (s2.heap.objs.size + 1) s2.heap.objs.size, ⟨⟨.none, ?_⟩, ⟨_, ht, rfl, rfl⟩, Nat.succ_ne_self _⟩, fun b hb => ?_, q1⟩
  · simpa using he'
  · have le : s2.heap.objs.size ≤ b := by
      rcases (by simpa using hb : b = s2.heap.objs.size + 1 ∨ b = s2.heap.objs.size) with z | z
      · rw [z]; exact Nat.le_add_right _ _
      · rw [z]; exact Nat.le_refl _
    exact I2.fpOk le (I2.hok.fresh le)
/-! ### x + y by an own __add__ -/
def rOwnB (C : Addr) (sp : Sp) (E : XK) : R2 := fun x y H Q => ∃ a b dx dy fs gs, x = .ref a ∧ y = .ref b ∧ H a = some (.ins C dx fs) ∧ H b = some (.ins C dy gs) ∧ sp [.ref a, .ref b] H Q E
theorem op_ownB {X : Cx} {CX : CXT} {C f : Addr} {n : Nat} {sp : Sp} {E : XK} {op : Operator} (F : FnR X.prog X.w X.K X.mg X.base CX n f sp) (hc : PySem.W.selfFirst X.K C = true)
    (hs : PySem.W.findIn X.K (.ref C) (PySem.dunder op.info.2) = some (some (.ref f))) (hf : PySem.W.isFn X.K (.ref f) = true) (hx : Passes CX X E) (hr : Room n X.A) : OpR X (binaryOp op) (rOwnB C sp E) := by
  intro pins s σ H x y v u Q I rx ry hq
  obtain ⟨a, b, dx, dy, fs, gs, rfl, rfl, ha, hb, h⟩ := hq
  cases rx
  cases ry
  obtain ⟨mA, J, _⟩ := ins_get I.hok ha
  obtain ⟨mB, J', _⟩ := ins_get I.hok hb
  obtain ⟨od, J, _⟩ := J.look
  obtain ⟨od', J', _⟩ := J'.look
  obtain ⟨m, hF⟩ := I.fr
  refine PySem.W.binop_K (op := op) hF I.ok.mod.kin J J'.type hc hs hf ?_
  have r2 : Vals [V.ref a, V.ref b] [Value.ref a, Value.ref b] := .cons rfl (.cons rfl .nil)
  refine wpAny_call (codeAny_mono (run_fnR F hr hx I r2 h) fun r s' z => ?_)
  cases r with
  | error e => exact z
  | ok fl =>
    cases fl with
    | ret w =>
      obtain ⟨v, H1, I1, rv, q⟩ := z
      show PySem.W.CmpBack _ w s'
      cases w with
      | notImplemented => cases v <;> first | (cases rv; done) | (obtain ⟨_, z⟩ := rv; cases z)
      | _ => exact ⟨v, H1, I1, rv, q⟩
    | next => exact z.elim
    | brk => exact z.elim
    | cont => exact z.elim
end VX

set_option Elab.async false
set_option linter.all false
set_option maxRecDepth 100000
set_option maxHeartbeats 4000000
/-! # a def whose body gives out a token; a Hook with one more Bool, classmethods -/
namespace VX
open PySem PySem.Spec PyProof.Rows L2 CwR
section
variable {P : Program} {w : World} {K : PySem.W.Frag} {mg : Str → Option Value} {base : Heap} {x qual : Str} {params : Arguments} {body : List Stmt} {scope : Scope} {dvs : List V} {kws : List (Str × V)} {f : Addr} {fd : FuncData}
theorem okT {CX : CXT} {N ps : List Str} {k : Nat} {sp : Sp} (F : FunD K x qual params body scope dvs kws f fd) (S : FnScope N ps scope) (hnc : ∀ y ∈ scope.names, y.2 ≠ .cell) (hps : 1 ≤ ps.length) (len : ∀ vs H Q E, sp vs H Q E → vs.length = ps.length)
    (hbody : ∀ (cdv : Value) (A : Around) (outer : List Env) (s : Shared) (H : Hp) (vs : List V) (Q : VK) (E : XK), Room k (A.deeper (envOfC qual scope s.heap.objs.size f cdv)) → sp vs H Q E →
      ∃ t, PSsT (cxOf CX P w K mg base N qual scope f cdv A outer s H E) body t ∧ t { nx := fun _ H' => Q .non H', rt := Q } (start N vs) H) : FnOk P w K mg base CX (k + 1) f fd ps sp := by
  obtain ⟨oc, od, dV, kV, doc, pm, an, cdv, ct, osl, rfl, lk, hcd, _, _⟩ := F.ex
  exact fn_ofT lk hcd S hnc hps len fun A outer s H vs Q E hr hsp => hbody cdv A outer s H vs Q E hr hsp
end
section
variable {X : Cx} {CX : CXT} {k : Nat} {f C : Addr} {fd : FuncData} {ps : List Str} {sp : Sp} {dvs : List V} {ds : List Value} {E : XK} {x m : Str} {p pos apos : Pos} {e o : Expr} {es : List Expr} {ta : TE} {t : TA} {te : TE}
theorem pet_call (F : FnOk X.prog X.w X.K X.mg X.base CX k f fd ps sp) (hr : Room k X.A) (hg : Gl X x) (hm : X.mg x = some (.ref f)) (hk : PySem.W.keepIn X.K (.ref f) = true) (hb : Binds X.K fd ps ds) (hd : Vals dvs ds) (hx : Passes CX X E)
    (ha : PAT X (e :: es) t) (hdb : (x == ("__debug__" : Str)) = false := by decide) (he : starEach (e :: es) X.env = (false, eval e X.env) :: starEach es X.env := by rfl) (hpl : (backTo pos (starEach es X.env)).any (·.1) = false := by rfl) :
    PET X (.Call (.Name x p) (e :: es) [] pos) (tCall sp dvs E t) := by
  intro pins s σ H Q h0 I h
  refine wpAny_Call_Name_kw (ld_glob I hg hm ?_ hdb)
  refine PySem.W.callWith_K (h₀ := X.base) I.ok.mod.kin hk (thn (ha pos pins s σ H _ h0 I h) fun us s1 ⟨vs, H1, I1, r, q⟩ => ⟨I1.kIn, ?_⟩) he hpl
  exact run_fn F hr hb hd hx I1 r q
theorem pst_asg {tg : Expr} {g : TG} (he : PET X e te) (hg : PG X tg g) (hs : swapsWithSole [tg] e pos.line X.env = pure false := by rfl) (hw : swappedStores [tg] e X.env = pure none := by rfl)
    (h1 : (assignEach [tg] X.env).map (·.2) = [assign tg X.env] := by rfl) : PST X (.Assign [tg] e pos) (tAsg te g) := by
  intro pins s σ H D h0 I h
  refine wpAny_Assign_stores (thn (he pins s σ H _ h0 I h) fun v s1 ⟨x, H1, I1, r1, q1⟩ => ?_) hs hw
  rw [h1]
  exact thn (hg.run pins s1 σ H1 x v _ I1 r1 q1) fun _ s2 q => q
end
/-! ### a Hook -/
open He5 in
def hookMA (n : Nat) (fa : List He.Fa) (fn : List DefA) (ex : PySem.W.Frag → Bool) : PySem.W.Hook where
  α := He.AlD × Bool
  obs := fun s => (obsA fa fn (He.frG s.heap.get? (asA s.heap.get? n)), ex (He.frG s.heap.get? (asA s.heap.get? n)))
  val := fun _ => (valA fn, true)
  says := fun _ h => ∃ K : PySem.W.Frag, K.In h ∧ SaysA fa fn K ∧ ex K = true
  of := fun _ _ e => ⟨_, He.frG_in, congrArg (fun z : He.AlD × Bool => z.1) e, congrArg (fun z : He.AlD × Bool => z.2) e⟩
  keeps := fun _ _ _ ⟨K, hK, c⟩ k => ⟨K, PySem.W.Frag.In.keeps hK k, c⟩
open He5 in
def obsMA (n : Nat) (fa : List He.Fa) (fn : List DefA) (ex : PySem.W.Frag → Bool) (g : Addr → Option Obj) : He.AlD × Bool := (fun K => (obsA fa fn K, ex K)) (He.frG g (asA g n))
theorem obsMA_eq {n : Nat} {fa : List He.Fa} {fn : List He5.DefA} {ex : PySem.W.Frag → Bool} {g : Addr → Option Obj} {s : Shared} (h : ∀ a, g a = s.heap.get? a) : obsMA n fa fn ex g = (hookMA n fa fn ex).obs s := by
  have e : g = s.heap.get? := funext h
  rw [e] <;> rfl
/-! ### an error's class, as Bools of the written part -/
def clsB (K : PySem.W.Frag) (C : Addr) : Bool := match K.lookup C with
  | some ⟨.type "type", _, .cls cd, sl⟩ => (match cd.mro, sl.toList with
    | .ref D :: bm, [_, _, _, _, some (.builtin n), _] => D == C && (n == "ValueError.__new__" && (!cd.hasDel && (cd.hasDict && PySem.HandSPX.refsVE bm)))
    | _, _ => false)
  | _ => false
theorem clsB_ok {K : PySem.W.Frag} {C : Addr} (h : clsB K C = true) : ∃ nm q N bs bm sn sub ab col dd k0 k1 k2 k3 k5, K.lookup C = some (excClassObj nm q C N bs bm true sn sub ab col dd k0 k1 k2 k3 k5 "ValueError.__new__") ∧ PySem.HandSPX.refsVE bm = true := by
  unfold clsB at h
  split at h
  · rename_i dd cd sl ho
    split at h
    · rename_i D bm k0 k1 k2 k3 n k5 hm hs
      simp only [Bool.and_eq_true, beq_iff_eq, Bool.not_eq_true'] at h
      obtain ⟨rfl, rfl, hdel, hdc, hv⟩ := h
      obtain ⟨nm, bs, mro, ns, qn, hd, sn, sub, ab, col, del⟩ := cd
      dsimp only at hm hdel hdc
      subst hm hdel hdc
      have hsl : sl = #[k0, k1, k2, k3, some (.builtin "ValueError.__new__"), k5] := by
        obtain ⟨l⟩ := sl
        simp only at hs
        rw [hs]
      subst hsl
      exact ⟨nm, qn, ns, bs, bm, sn, sub, ab, col, dd, k0, k1, k2, k3, k5, ho, hv⟩
    · cases h
  · cases h
/-- of every error's class -/
def exB (K : PySem.W.Frag) (C : Addr) : Bool := He.eqO (PySem.W.findIn K (.ref C) "__getattribute__") (some (some (.builtin "BaseException.__getattribute__"))) && (He.eqO (PySem.W.findIn K (.ref C) "__getattr__") (some none) && (decide (PySem.W.subIn K (.ref C) (.type "BaseException") = some true) && (PySem.W.hasDictIn K C &&
  (He.eqO (PySem.W.findIn K (.ref C) "__class__") (some (some (.builtin "object.__class__"))) && (He.eqO (PySem.W.specialIn K (.builtin "object.__class__") "__get__") (some (some (.builtin "getset_descriptor.__get__"))) && (decide (PySem.W.takesIn K (.builtin "object.__class__") = some true) && (decide (PySem.W.mroIn K C (.type "object") = some true) &&
  (decide (PySem.W.typeIn K (.ref C) = some (.type "type")) && PySem.W.keepIn K (.ref C)))))))))
structure ExF (K : PySem.W.Frag) (C : Addr) : Prop where
  xf : XfC K C
  xc : ExcC K C
  ty : PySem.W.typeIn K (.ref C) = some (.type "type")
  kp : PySem.W.keepIn K (.ref C) = true
theorem exB_ok {K : PySem.W.Frag} {C : Addr} (h : exB K C = true) : ExF K C := by
  obtain ⟨h1, h⟩ := He.ba h
  obtain ⟨h2, h⟩ := He.ba h
  obtain ⟨h3, h⟩ := He.ba h
  obtain ⟨h4, h⟩ := He.ba h
  obtain ⟨h5, h⟩ := He.ba h
  obtain ⟨h6, h⟩ := He.ba h
  obtain ⟨h7, h⟩ := He.ba h
  obtain ⟨h8, h⟩ := He.ba h
  obtain ⟨h9, h10⟩ := He.ba h
  have e3 := of_decide_eq_true h3
  exact ⟨⟨He.eqO_ok h1, He.eqO_ok h2, e3, h4⟩, ⟨He.eqO_ok h1, He.eqO_ok h2, e3, h4, He.eqO_ok h5, He.eqO_ok h6, of_decide_eq_true h7, of_decide_eq_true h8⟩, of_decide_eq_true h9, h10⟩
/-- of one with an __init__ of its own that stores the field f -/
def inB (K : PySem.W.Frag) (C : Addr) (f : Str) : Bool := clsB K C && (He.eqO (PySem.W.findIn K (.ref C) "__setattr__") (some (some (.builtin "object.__setattr__"))) && (He.eqO (PySem.W.findIn K (.ref C) f) (some none) &&
  (He.eqO (PySem.W.findIn K (.ref C) "__init__") (some (some (.ref (He.ma K C "__init__")))) && decide (PySem.W.typeIn K (.ref (He.ma K C "__init__")) = some (.type "function")))))
structure InF (K : PySem.W.Frag) (C : Addr) (f : Str) : Prop where
  oe : OexC K C
  no : PySem.W.findIn K (.ref C) f = some none
  ini : PySem.W.findIn K (.ref C) "__init__" = some (some (.ref (He.ma K C "__init__")))
  fn : PySem.W.typeIn K (.ref (He.ma K C "__init__")) = some (.type "function")
theorem inB_ok {K : PySem.W.Frag} {C : Addr} {f : Str} (x : ExF K C) (h : inB K C f = true) : InF K C f := by
  obtain ⟨h1, h⟩ := He.ba h
  obtain ⟨h2, h⟩ := He.ba h
  obtain ⟨h3, h⟩ := He.ba h
  obtain ⟨h4, h5⟩ := He.ba h
  exact ⟨⟨clsB_ok h1, He.eqO_ok h2, x.xf.exC, x.ty, x.kp⟩, He.eqO_ok h3, He.eqO_ok h4, of_decide_eq_true h5⟩
/-! ### short facts -/
theorem same_new {H : Hp} {a : Addr} {o : HO} (h : H a = none) : Same H (upd H a o) := fun c u e => by
  rw [upd_ne (ne_of_none e h)]
  exact e
theorem same_two {H : Hp} {a b : Addr} {o u : HO} (ha : H a = none) (hb : upd H a o b = none) : Same H (upd (upd H a o) b u) := fun c z e => by
  have k : upd H a o c = some z := by rw [upd_ne (ne_of_none e ha)]; exact e
  rw [upd_ne (ne_of_none k hb)]
  exact k
theorem none_of {H : Hp} {a b : Addr} {o : HO} (hb : upd H a o b = none) : H b = none := by
  by_cases e : b = a
  · rw [e, upd_same] at hb; cases hb
  · rwa [upd_ne e] at hb
def Kept (b : Addr) (H H' : Hp) : Prop := ∀ c o, H c = some o → c ≠ b → H' c = some o
theorem kept_box {H : Hp} {b : Addr} {o : HO} : Kept b H (upd H b o) := fun c u e n => by
  rw [upd_ne n]
  exact e
theorem Kept.of {H H' : Hp} {b : Addr} (k : Same H H') : Kept b H H' := fun c o e _ => k c o e
theorem Kept.trans {H H' H'' : Hp} {b : Addr} (k : Kept b H H') (q : Kept b H' H'') : Kept b H H'' := fun c o e n => q c o (k c o e n) n
theorem lt_line {n : Nat} (h : n ≤ 100000) : n < sizeLine := Nat.lt_of_le_of_lt h (by decide)
/-! ### an error's __init__ -/
def spIni (K : PySem.W.Frag) (C : Addr) (g : Str) : Sp := fun vs H Q _ => ∃ (a : Addr) (v : V), vs = [.ref a, v] ∧ H a = some (exo a C none) ∧ ∀ dx, H dx = none → dx ≠ a → Q .non (upd (upd H dx (exd dx [(g, v)])) a (exo a C (some dx)))
section
variable {P : Program} {w : World} {K : PySem.W.Frag} {mg : Str → Option Value} {base : Heap} {f : Addr} {fd : FuncData}
theorem ok_ini {x g qual : Str} {pa : Arguments} {bd : List Stmt} {sc : Scope} {C : Addr} {q1 q2 q3 q4 : Pos} (F : FunD K x qual pa bd sc [] [] f fd) (S : FnScope ["self", g] ["self", g] sc) (hb : bd = [.Assign [.Attribute (.Name "self" q1) g q2] (.Name g q3) q4]) (I : InF K C g)
    (hd : (g == ("__debug__" : Str)) = false) (hc : (g == ("__classdict__" : Str)) = false) : FnOk P w K mg base CX0 1 f fd ["self", g] (spIni K C g) := by
  subst hb
  refine F.ok S (fun vs H Q E h => ?_) (fun cdv A outer s H vs Q E hr h => ?_)
  · obtain ⟨a, v, rfl, _⟩ := h
    rfl
  · obtain ⟨a, v, rfl, ha, k⟩ := h
    refine ⟨_, PSs.nox (pss_one (ps_ost (pe_var (i := 0) rfl (vis_par S (x := "self") (.head _))) (pe_var (i := 1) rfl (vis_par S (.tail _ (.head _))) hd hc))), ?_⟩
    exact ⟨_, rfl, _, rfl, a, C, rfl, I.oe, I.no, .inl ⟨ha, k⟩⟩
/-- an error's __init__: its promise, its arguments by place -/
def IniOk (P : Program) (w : World) (K : PySem.W.Frag) (mg : Str → Option Value) (base : Heap) (x g : Str) : Prop := ∃ fd, FnOk P w K mg base CX0 1 (He.ma K (He.ga K x) "__init__") fd ["self", g] (spIni K (He.ga K x) g) ∧ Binds K fd ["self", g] []
end
/-! ### the draws' box -/
/-- the box, of which at most N numbers were mixed -/
def BoxK (H : Hp) (b : Addr) (N : Nat) : Prop := ∃ x y z : Int, H b = some (.lst [.int x, .int y, .int z]) ∧ 0 ≤ x ∧ 0 ≤ y ∧ y ≤ N ∧ 0 ≤ z ∧ z ≤ 100000000
theorem Kept.refl {b : Addr} {H : Hp} : Kept b H H := fun _ _ h _ => h
theorem BoxK.same {H H' : Hp} {b : Addr} {N : Nat} (s : Same H H') (h : BoxK H b N) : BoxK H' b N := by
  obtain ⟨x, y, z, hb, r⟩ := h
  exact ⟨x, y, z, s _ _ hb, r⟩
theorem BoxK.at {H : Hp} {b : Addr} {N : Nat} (h : BoxK H b N) : ∃ xs, H b = some (.lst xs) := let ⟨_, _, _, hb, _⟩ := h; ⟨_, hb⟩
theorem BoxK.mono {H : Hp} {b : Addr} {N M : Nat} (h : BoxK H b N) (l : N ≤ M) : BoxK H b M := by
  obtain ⟨x, y, z, hb, x0, y0, yN, r⟩ := h
  exact ⟨x, y, z, hb, x0, y0, by omega, r⟩
def spTake : Sp := fun vs H Q _ => ∃ (b : Addr) (m x y z : Int), vs = [.ref b, .int m] ∧ H b = some (.lst [.int x, .int y, .int z]) ∧ 0 ≤ x ∧ 0 ≤ y ∧ y ≤ 1000000 ∧ 0 ≤ z ∧ z ≤ 100000000 ∧ 0 < m ∧ m ≤ 1000000000 ∧
  ∀ d x' y', 0 ≤ d → d < m → 0 ≤ x' → x' ≤ x → y ≤ y' → y' ≤ y + 1 → Q (.int d) (upd H b (.lst [.int x', .int y', .int z]))
theorem take_use {H : Hp} {b : Addr} {N : Nat} {m : Int} {Q : VK} {E : XK} (h : BoxK H b N) (hN : N ≤ 900000) (m0 : 0 < m) (m1 : m ≤ 1000000000)
    (k : ∀ d H', 0 ≤ d → d < m → Kept b H H' → BoxK H' b (N + 1) → (∀ c, H c = none → H' c = none) → Q (.int d) H') : spTake [.ref b, .int m] H Q E := by
  obtain ⟨x, y, z, hb, x0, y0, yN, z0, z1⟩ := h
  refine ⟨b, m, x, y, z, rfl, hb, x0, y0, by omega, z0, z1, m0, m1, fun d x' y' d0 d1 x0' x1' y1 y2 => k d _ d0 d1 (fun c o q ne => by rw [upd_ne ne]; exact q) ⟨x', y', z, upd_same, x0', by omega, by omega, z0, z1⟩ fun c hc => ?_⟩
  rw [upd_ne (fun e => by rw [e, hb] at hc; cases hc)]
  exact hc
theorem pw_ok {i : Int} (h0 : 0 ≤ i) (h1 : i < 2 ^ 90) : CPw i 3 := by
  refine ⟨by decide, ?_⟩
  have h : Builtin.Int.intBits i ≤ 90 := intBits_le (by omega)
  have h2 : (Builtin.Int.intBits i : Int) ≤ 90 := by exact_mod_cast h
  omega
def spBox (K : PySem.W.Frag) : Sp := fun vs H Q _ => ∃ (l : Addr) (ns : List Int) (j : Nat), vs = [.ref l, .int j] ∧ SqL K H l (ns.map V.int) ∧ j ≤ 100 ∧ ∀ p H', H p = none → Same H H' → BoxK H' p 0 → Q (.ref p) H'
theorem atI_ex {xs : List V} {d : Int} (h0 : 0 ≤ d) (h1 : d < xs.length) : ∃ v, atI xs d = some v ∧ v ∈ xs := by
  have hl : d.toNat < xs.length := by omega
  refine ⟨xs[d.toNat], ?_, List.getElem_mem hl⟩
  have e : ((d.toNat : Nat) : Int) = d := Int.toNat_of_nonneg h0
  have q := atI_nat (xs := xs) (j := d.toNat) (List.getElem?_eq_getElem hl)
  rwa [e] at q
/-- the heap behind an error's making -/
theorem raise_heap {H : Hp} {a d C : Addr} {g : Str} {v : V} (ha : H a = none) (hd : d ≠ a) : upd (del (upd (upd (upd H a (exo a C none)) d (exd d [(g, v)])) a (exo a C (some d))) a) d (.xd [(g, v)]) = upd H d (.xd [(g, v)]) := by
  funext b
  by_cases hb : b = d
  · rw [hb, upd_same, upd_same]
  · rw [upd_ne hb, upd_ne hb]
    by_cases hba : b = a
    · rw [hba, del_same, ha]
    · rw [del_ne hba, upd_ne hba, upd_ne hb, upd_ne hba]
/-- what C(v) asks, C of one field -/
theorem make_read {K : PySem.W.Frag} {C : Addr} {g : Str} {v : V} {H : Hp} {X : XK} (k : ∀ d, H d = none → X (.ref C) (some d) (upd H d (.xd [(g, v)]))) (a : Addr) (ha : H a = none) :
    spIni K C g [.ref a, v] (upd H a (exo a C none)) (fun u H2 => u = .non ∧ ∃ (d : Addr) (fs : List (Str × V)), H2 a = some (exo a C (some d)) ∧ H2 d = some (exd d fs) ∧ H d = none ∧ X (.ref C) (some d) (upd (del H2 a) d (.xd fs))) (fun _ _ _ => False) := by
  refine ⟨a, v, rfl, upd_same, fun d hd ne => ⟨rfl, d, [(g, v)], upd_same, ?_, ?_, ?_⟩⟩
  · rw [upd_ne ne, upd_same]
  · rwa [upd_ne ne] at hd
  · rw [raise_heap ha ne]
    rw [upd_ne ne] at hd
    exact k d hd
end VX

set_option Elab.async false
set_option linter.all false
set_option maxRecDepth 100000
set_option maxHeartbeats 4000000
/-! several except clauses, each «as n», one name -/
namespace VX
open PySem PySem.Spec PyProof.Rows L2
/-- what the clauses wish of an exception of the body, from the first on; the name in slot i is empty behind a suite -/
def wNamed (K : PySem.W.Frag) (i : Nat) (Wout : WX) (D : Ends) : List (Value × (Addr → Value → Option Addr → TS)) → WX
  | [] => Wout
  | (c, ts) :: r => fun cls d σ H => ∃ b, PySem.W.exmOne K cls c = some b ∧ (b = true → ∀ a, H a = none →
      ts a cls d { nx := fun σ' H' => D.nx (σ'.set i none) H', rt := D.rt, bk := fun σ' H' => D.bk (σ'.set i none) H', ct := fun σ' H' => D.ct (σ'.set i none) H' } (σ.set i (some (.ref a))) H) ∧ (b = false → wNamed K i Wout D r cls d σ H)
inductive Clauses (X : Cx) (n : Str) : List ExceptHandler → List (Value × (Addr → Value → Option Addr → TS)) → Prop
  | nil : Clauses X n [] []
  | cons {x : Str} {c : Value} {ts : Addr → Value → Option Addr → TS} {b₀ : Stmt} {su : List Stmt} {p1 p2 : Pos} {hs : List ExceptHandler} {l : List (Value × (Addr → Value → Option Addr → TS))} (hc : Names X x c)
      (hsu : ∀ (a : Addr) (oe : Obj) (cls : Value) (d : Option Addr) (pn : List (Addr × Obj)), Zc cls d oe → (∃ vs, oe.data = .fields vs) → PSs (X.suite a ((a, oe) :: pn)) (b₀ :: su) (ts a cls d)) (r : Clauses X n hs l) :
      Clauses X n (.ExceptHandler (some (.Name x p1)) (some n) (b₀ :: su) p2 :: hs) ((c, ts) :: l)
theorem ps_try_named {X : Cx} {n : Str} {i : Nat} {body : List Stmt} {h₀ : ExceptHandler} {hds : List ExceptHandler} {l : List (Value × (Addr → Value → Option Addr → TS))} {pos : Pos} {tb : WX → TS} {Wout : WX}
    (hs : X.stack = X.env :: X.outer) (hf : X.env.frame = some X.env.locals) (hN : X.N.Nodup) (hi : X.N[i]? = some n) (hln : X.env.kindOf n = some .local) (tk : Takes X Wout)
    (hb : ∀ (W : WX) (pn : List (Addr × Obj)) (xe : Value → Shared → Prop), Takes (X.tr pn xe) W → PassesOwn (model X.prog X.w) X.A X.env xe → PSs (X.tr pn xe) body (tb W)) (hh : Clauses X n (h₀ :: hds) l) :
    PS X (.Try body (h₀ :: hds) [] [] pos) (fun D σ H => tb (wNamed X.K i Wout D l) D σ H) := by
  refine ⟨fun pins s σ H D I h => wpAny_Try_except ?_⟩
  have ok := I.ok
  have fr : X.A.frames = some (X.env :: X.outer) := by rw [ok.frames, hs]
  have lc : Loc X.env.scope n := .inl hln
  refine wpAny_mono ((hb (wNamed X.K i Wout D l) (X.pn ++ pins) (fun e t1 => wpAny (model X.prog X.w) X.A (noteFrame e X.env) (fun _ t2 => wpAny (model X.prog X.w) X.A (setFlight e none) (fun _ t3 =>
    wpAny (model X.prog X.w) X.A (handleBy e X.env (h₀ :: hds)) (SP X pins D) X.xe t3) X.xe t2) X.xe t1) (fun u s' xx => ?caught) PassesOwn.looking).run [] s σ H D (I.toTry _) h) (fun f s1 q => ?through) (fun _ _ z => z)
  case through =>
    cases f with
    | next => obtain ⟨σ', H', J, q⟩ := q; exact wpAny_execs_nil ⟨σ', H', J.ofTry ok, q⟩
    | brk => obtain ⟨σ', H', J, q⟩ := q; exact ⟨σ', H', J.ofTry ok, q⟩
    | cont => obtain ⟨σ', H', J, q⟩ := q; exact ⟨σ', H', J.ofTry ok, q⟩
    | ret u => obtain ⟨v, σ', H', J, r, q⟩ := q; exact ⟨v, σ', H', J.ofTry ok, r, q⟩
  case caught =>
    obtain ⟨a, B, sI, ps', σ', H', cls, d, rfl, J', nb, up, sky, na, os, ag, w⟩ := xx
    have J : L2.Inv X pins σ' H' sI := J'.ofTry ok
    have sk : Sky B (X.env :: X.outer) a (Zc cls d) X.env.locals s'.heap := by rw [← hs]; exact sky
    show wpAny (model X.prog X.w) X.A (noteFrame (.ref a) X.env) _ _ _
    refine Sky.land Zc.steady fr hf sk fun h3 fl3 up3 => ?_
    have J3 : L2.Inv X pins σ' H' { s' with heap := h3 } := J.landed nb fl3.1 (up.trans up3) os ag
    obtain ⟨oe, vs, he, hz, hd⟩ := fl3.there
    have nfr : a ∉ frs (X.env :: X.outer) := fun hm => by
      obtain ⟨_, o', e', hnf⟩ := fl3.2.2.1.mem hm
      rw [he] at e'
      cases e'
      exact hnf _ hd
    have nL : a ≠ X.env.locals := fun z => nfr (List.mem_filterMap.mpr ⟨X.env, .head _, by rw [hf, z]⟩)
    have nF : a ∉ X.fs := fun hm => by
      obtain ⟨e, m, q⟩ := List.mem_filterMap.mp hm
      exact nfr (List.mem_filterMap.mpr ⟨e, .tail _ m, q⟩)
    have S3 := J3.suite he hd na nL nF
    have go : ∀ {hs' : List ExceptHandler} {l' : List (Value × (Addr → Value → Option Addr → TS))}, Clauses X n hs' l' → wNamed X.K i Wout D l' cls d σ' H' → wpAny (model X.prog X.w) X.A (handleBy (.ref a) X.env hs') (SP X pins D) X.xe { s' with heap := h3 } := by
      intro hs' l' hk
      induction hk with
      | nil =>
        intro w
        refine wpAny_handleBy_nil ?_
        obtain ⟨_, _, _, oe1, vs1, T, oT, ts1, he1, hz1, hd1, h1, _⟩ := id fl3
        unfold PySem.passOn
        refine wpAny_bind (wpAny_field he1 hd1 h1 ?_)
        rw [if_neg (show ¬ ((Value.ref T == Value.none) = true) by simp)]
        have fin : wpAny (model X.prog X.w) X.A (setFlight (.ref a) X.env.frame) (fun _ s4 => wpAny (model X.prog X.w) X.A (throw (.ref a) : Sem Flow) (SP X pins D) X.xe s4) X.xe { s' with heap := h3 } := by
          rw [hf]
          exact HandSPX.setFlight_upZ fl3 fun h4 hh4 up4 => wpAny_throw (tk _ _ ⟨a, B, sI, pins, σ', H', cls, d, rfl, J, nb, (up.trans up3).trans up4, .inr (.inr (by rw [hs]; exact hh4)), na, os, ag, w⟩)
        first | exact wpAny_bind (wpAny_pure (wpAny_bind fin)) | exact wpAny_bind fin
      | @cons x c ts b₀ su p1 p2 hs2 l2 hc hsu r ih =>
        rintro ⟨b, hb1, hy, hno⟩
        refine wpAny_handleBy_cons (codeAny_handlers_test ?_) (by intro q; cases q)
        have ty : PySem.W.Looks (model X.prog X.w) h3 (typeOf (.ref a)) cls := fun A Q E t k q => wpAny_typeOf_ref (k _ _ he) (by rw [hz.1]; exact q)
        have lk := PySem.W.exm_one (M := model X.prog X.w) (J3.kIn) ty hb1
        have asked : ∀ {Q E : Value → Shared → Prop}, Q c { s' with heap := h3 } → wpAny (model X.prog X.w) (X.A.mark (some (.ref a))) (eval (.Name x p1) X.env) Q E { s' with heap := h3 } := by
          intro Q E q
          obtain ⟨hg, hdb, hm | ⟨hm, hv, hn⟩⟩ := hc
          · exact ld_glob (X := X.suite a ((a, oe) :: (X.pn ++ pins))) S3 hg hm q hdb
          · exact ld_blt (X := X.suite a ((a, oe) :: (X.pn ++ pins))) S3 hg hm hv q hn hdb
        refine asked (lk.here ?_)
        cases b with
        | false => exact ih (hno rfl)
        | true =>
          refine codeAny_handlers_suite_as (HandSPX.lands_againZ fl3 fun h4 fl4 up4 => ?_)
          have J4 : L2.Inv X pins σ' H' { s' with heap := h4 } := J.landed nb fl4.1 ((up.trans up3).trans up4) os ag
          obtain ⟨oe4, vs4, he4, hz4, hd4⟩ := fl4.there
          refine store_ok (X := X.suite a ((a, oe4) :: (X.pn ++ pins))) (v := .ref a) (J4.suite he4 hd4 na nL nF) hN hi lc rfl (fun s5 S5 => ?_) (.inr hln)
          refine wpAny_mono ((hsu a oe4 cls d (X.pn ++ pins) hz4 ⟨_, hd4⟩).run [] s5 _ H' _ S5 (hy rfl a na)) (fun f s6 q => ?_) (fun _ _ z => False.elim z)
          have over : ∀ {σ6 : L2.St} {H6 : Hp} {Q : Shared → Prop}, L2.Inv (X.suite a ((a, oe4) :: (X.pn ++ pins))) [] σ6 H6 s6 → (∀ s7, L2.Inv X pins (σ6.set i none) H6 s7 → Q s7) →
              wpAny (model X.prog X.w) X.A (do bindName X.env n .none; unbindBehindTheSuite X.env n p2) (fun _ s7 => Q s7) X.xe s6 := fun S6 hq => gone_ok (S6.unsuite ok) hN hi hln hq
          cases f with
          | next => obtain ⟨σ6, H6, S6, q6⟩ := q; exact over S6 fun s7 J7 => ⟨_, _, J7, q6⟩
          | brk => obtain ⟨σ6, H6, S6, q6⟩ := q; exact over S6 fun s7 J7 => ⟨_, _, J7, q6⟩
          | cont => obtain ⟨σ6, H6, S6, q6⟩ := q; exact over S6 fun s7 J7 => ⟨_, _, J7, q6⟩
          | ret u => obtain ⟨v6, σ6, H6, S6, r6, q6⟩ := q; exact over S6 fun s7 J7 => ⟨_, _, _, J7, r6, q6⟩
    exact go hh w
end VX

set_option Elab.async false
set_option linter.all false
set_option maxRecDepth 100000
set_option maxHeartbeats 4000000
/-! # facts of a module's top, as Bools of the written part -/
namespace VY
open PySem PySem.Spec PyProof.Rows L2 VX
/-- a property's getter -/
def pG (K : PySem.W.Frag) (C : Addr) (m : Str) : Addr := match PySem.W.recIn K (He.ma K C m) "property" with
  | some (.ref g :: _) => g
  | _ => 0
def propB (K : PySem.W.Frag) (C : Addr) (m : Str) : Bool := He.eqO (PySem.W.findIn K (.ref C) m) (some (some (.ref (He.ma K C m)))) && (He.eqO (PySem.W.specialIn K (.ref (He.ma K C m)) "__get__") (some (some (.builtin "property.__get__"))) && (decide (PySem.W.takesIn K (.ref (He.ma K C m)) = some true) &&
  (match PySem.W.recIn K (He.ma K C m) "property" with
    | some (.ref _ :: _) => true
    | _ => false)))
theorem propB_ok {K : PySem.W.Frag} {C : Addr} {m : Str} (h : propB K C m = true) : PropOf K C m (He.ma K C m) (pG K C m) := by
  obtain ⟨h1, h⟩ := He.ba h
  obtain ⟨h2, h⟩ := He.ba h
  obtain ⟨h3, h4⟩ := He.ba h
  refine ⟨He.eqO_ok h1, He.eqO_ok h2, of_decide_eq_true h3, ?_⟩
  unfold pG
  split at h4
  · rename_i g r e
    exact ⟨r, by rw [e]⟩
  · cases h4
/-- an empty tuple stands at a -/
def nilB (K : PySem.W.Frag) (a : Addr) : Bool := match K.lookup a with
  | some ⟨.type c, _, .seq its _, _⟩ => decide (c = "tuple") && decide (its.size = 0)
  | _ => false
theorem nilB_ok {K : PySem.W.Frag} {a : Addr} (h : nilB K a = true) (H : Hp) : SqT K H a [] := by
  unfold nilB at h
  cases q : K.lookup a with
  | none => rw [q] at h; cases h
  | some o =>
    obtain ⟨oc, od, dt, osl⟩ := o
    rw [q] at h
    cases oc with
    | type c =>
      cases dt with
      | seq its n =>
        obtain ⟨h1, h2⟩ := He.ba (show (decide (c = "tuple") && decide (its.size = 0)) = true from h)
        have e : its = #[] := Array.eq_empty_of_size_eq_zero (of_decide_eq_true h2)
        subst e
        exact .inr ⟨_, #[], n, q, congrArg Value.type (of_decide_eq_true h1), rfl, by simp, .nil⟩
      | _ => cases h
    | _ => cases dt <;> cases h
/-- a keyword-only default that is an object -/
def kwA (C m x : Str) (K : PySem.W.Frag) : Addr := match K.lookup (He.ma K (He.ga K C) m) with
  | some ⟨_, _, .func fd, _⟩ => (match fd.kwdefaults with
    | .ref D => (match PySem.W.nsIn K D x with
      | some (some (.ref a)) => a
      | _ => 0)
    | _ => 0)
  | _ => 0
def crB (K : PySem.W.Frag) (C : Addr) : Bool := PySem.W.readsIn K C (.type "type") && He.eqO (PySem.W.specialIn K (.ref C) "__getattribute__") (some (some (.builtin "type.__getattribute__")))
theorem crB_ok {K : PySem.W.Frag} {C : Addr} (h : crB K C = true) : ClX.CRead K C (.type "type") := by
  obtain ⟨h1, h2⟩ := He.ba h
  exact ⟨h1, He.eqO_ok h2⟩
def cmB (K : PySem.W.Frag) (C : Addr) (m : Str) : Bool := He5.wrapB K C "classmethod" "classmethod.__get__" m && PySem.W.fnIn K (He5.wf K C "classmethod" m)
theorem cmB_ok {K : PySem.W.Frag} {C : Addr} {m : Str} (h : cmB K C m = true) : ClX.CMet K C (.type "type") m (He.ma K C m) (He5.wf K C "classmethod" m) := by
  obtain ⟨h1, h2⟩ := He.ba h
  exact He5.cmet_of h1 h2
/-- an own operator's def -/
structure OpOf (K : PySem.W.Frag) (C : Addr) (m : Str) : Prop where
  find : PySem.W.findIn K (.ref C) m = some (some (.ref (He.ma K C m)))
  fn : PySem.W.isFn K (.ref (He.ma K C m)) = true
def opB (K : PySem.W.Frag) (C : Addr) (m : Str) : Bool := He.eqO (PySem.W.findIn K (.ref C) m) (some (some (.ref (He.ma K C m)))) && PySem.W.isFn K (.ref (He.ma K C m))
theorem opB_ok {K : PySem.W.Frag} {C : Addr} {m : Str} (h : opB K C m = true) : OpOf K C m := by
  obtain ⟨h1, h2⟩ := He.ba h
  exact ⟨He.eqO_ok h1, h2⟩
/-- what the class of an instance is -/
structure TyOf (K : PySem.W.Frag) (C : Addr) : Prop where
  c1 : PySem.W.findIn K (.ref C) "__class__" = some (some (.builtin "object.__class__"))
  c2 : PySem.W.specialIn K (.builtin "object.__class__") "__get__" = some (some (.builtin "getset_descriptor.__get__"))
  c3 : PySem.W.takesIn K (.builtin "object.__class__") = some true
  c4 : PySem.W.mroIn K C (.type "object") = some true
def tyB (K : PySem.W.Frag) (C : Addr) : Bool := He.eqO (PySem.W.findIn K (.ref C) "__class__") (some (some (.builtin "object.__class__"))) && (He.eqO (PySem.W.specialIn K (.builtin "object.__class__") "__get__") (some (some (.builtin "getset_descriptor.__get__"))) &&
  (decide (PySem.W.takesIn K (.builtin "object.__class__") = some true) && decide (PySem.W.mroIn K C (.type "object") = some true)))
theorem tyB_ok {K : PySem.W.Frag} {C : Addr} (h : tyB K C = true) : TyOf K C := by
  obtain ⟨a1, e⟩ := He.ba h
  obtain ⟨a2, e⟩ := He.ba e
  obtain ⟨a3, a4⟩ := He.ba e
  exact ⟨He.eqO_ok a1, He.eqO_ok a2, of_decide_eq_true a3, of_decide_eq_true a4⟩
structure ExcOf (K : PySem.W.Frag) (C : Addr) : Prop where
  x : PySem.W.excIn K C He.veBase "ValueError.__new__" = true
  k : PySem.W.keepIn K (.ref C) = true
  b : PySem.W.subIn K (.ref C) (.type "BaseException") = some true
  t : PySem.W.typeIn K (.ref C) = some (.type "type")
end VY

set_option Elab.async false
set_option linter.all false
set_option maxRecDepth 100000
set_option maxHeartbeats 4000000
/-! # a written dict with text keys; a Hook with such tables -/
namespace VY
open PySem PySem.Spec PyProof.Rows L2 VX
/-- at a: a written dict with these entries in this order -/
structure WDict (K : PySem.W.Frag) (w : World) (a : Addr) (kvs : List (Str × V)) : Prop where
  ex : ∃ es n, K.lookup a = some ⟨.type "dict", none, .dict es n, #[]⟩ ∧ Paired (fun (e : DictEntry) (q : Str × V) => (∃ t, e.key = .str q.1 t) ∧ e.hash = PyData.keyHash w.params q.1 ∧ RelV q.2 e.val) es.toList kvs
  low : (a == sysModules) = false
  nd : (kvs.map (·.1)).Nodup
  len : kvs.length ≤ sizeLine
def kvK (kvs : List (Str × V)) : List (Key × V) := kvs.map fun q => (Sum.inr q.1, q.2)
theorem WDict.pairs {P : Program} {w : World} : ∀ {es : List DictEntry} {kvs : List (Str × V)}, Paired (fun (e : DictEntry) (q : Str × V) => (∃ t, e.key = .str q.1 t) ∧ e.hash = PyData.keyHash w.params q.1 ∧ RelV q.2 e.val) es kvs →
    Pairs (mixKind P w) es ((es.zip kvs).map fun z => (Sum.inr z.2.1, z.1.val)) ∧ KV (kvK kvs) ((es.zip kvs).map fun z => ((Sum.inr z.2.1 : Key), z.1.val)) ∧ (∀ e ∈ es, ∃ k, (mixKind P w).is k e.key = true ∧ e.hash = (mixKind P w).hash k) ∧ ((es.zip kvs).map fun z => ((Sum.inr z.2.1 : Key), z.1.val)).map (·.1) = kvs.map fun q => (Sum.inr q.1 : Key)
  | _, _, .nil => ⟨Pairs.nil, Paired.nil, (fun e h => nomatch h), rfl⟩
  | e :: es, q :: kvs, .cons ⟨⟨t, hk⟩, hh, hv⟩ r => by
    obtain ⟨a, b, c, d⟩ := WDict.pairs (P := P) r
    have his : (mixKind P w).is (Sum.inr q.1) e.key = true := by rw [hk]; exact keyIs_str q.1 t
    refine ⟨.cons his rfl a, .cons ⟨rfl, hv⟩ b, fun x hx => ?_, ?_⟩
    · rcases List.mem_cons.mp hx with hx | hx
      · rw [hx]
        exact ⟨_, his, hh⟩
      · exact c x hx
    · simp only [List.zip_cons_cons, List.map_cons, d]
theorem WDict.dictOf {K : PySem.W.Frag} {w : World} {a : Addr} {kvs : List (Str × V)} {P : Program} {h : Heap} (D : WDict K w a kvs) (X : K.In h) : ∃ vs, KV (kvK kvs) vs ∧ h.DictOf (mixKind P w) a vs := by
  obtain ⟨es, n, hl, hp⟩ := D.ex
  obtain ⟨p1, p2, p3, p4⟩ := WDict.pairs (P := P) hp
  refine ⟨_, p2, _, es, n, X _ _ hl, ⟨rfl, rfl, rfl⟩, rfl, fun e he => p3 e (by simpa using he), p1, ?_⟩
  rw [p4]
  have : (kvs.map fun q => (Sum.inr q.1 : Key)) = (kvs.map (·.1)).map Sum.inr := by rw [List.map_map]; rfl
  rw [this]
  exact List.Pairwise.map _ (fun a b h e => h (Sum.inr.inj e)) D.nd
/-- dict(d) of a written dict -/
theorem call_dictW {X : Cx} (K : PySem.W.Frag) (w : World) (hK : X.K = K := by rfl) (hw : X.w = w := by rfl) : CallR X (.type "dict") (fun xs H Q => ∃ (a : Addr) (kvs : List (Str × V)), xs = [.ref a] ∧ WDict K w a kvs ∧ ∀ p, H p = none → Q (.ref p) (upd H p (.dK (kvK kvs)))) := by
  subst hK hw
  intro pins s σ H xs us Q I r q
  obtain ⟨a, kvs, ex, hd, q⟩ := q
  subst ex
  obtain ⟨u, eu, rx⟩ := vals1 r
  subst eu
  cases rx
  obtain ⟨vs, rel, dd⟩ := hd.dictOf (P := X.prog) I.kIn
  have hz : (kvK kvs).length ≤ sizeLine := by unfold kvK; rw [List.length_map]; exact hd.len
  refine kt_call_dict hd.low dd (by rw [← rel.length]; exact hz) fun h' d' hs => ?_
  have hm : (s.heap.objs.size == sysModules) = false := beq_eq_false_iff_ne.mpr (Nat.ne_of_gt I.big)
  exact ⟨.ref s.heap.objs.size, upd H s.heap.objs.size (.dK (kvK kvs)), I.laid (t' := s.toks) (fun b u e => (hs.2 b (Nat.ne_of_lt (Heap.lt_size e))).trans (Heap.get?_push_of_some _ e)) (Nat.le_refl _)
    (show ObjOk X.prog X.w _ _ _ (.dK (kvK kvs)) from ⟨hz, hm, vs, rel, d'⟩), rfl, q _ (I.hok.fresh (Nat.le_refl _))⟩
/-- d[k] of a written dict -/
theorem op_itemW {X : Cx} (K : PySem.W.Frag) (w : World) (hK : X.K = K := by rfl) (hw : X.w = w := by rfl) : OpR X getItem (fun x y H Q => ∃ (a : Addr) (kvs : List (Str × V)) (z : Str) (v0 : V), x = .ref a ∧ y = .str z ∧ WDict K w a kvs ∧ (z, v0) ∈ kvs ∧ Q v0 H) := by
  subst hK hw
  intro pins s σ H x y v u Q I rx ry h
  obtain ⟨a, kvs, z, v0, rfl, rfl, D, hm, q⟩ := h
  cases rx
  obtain ⟨t, rfl⟩ := ry
  obtain ⟨es, n, hl, hp⟩ := D.ex
  have lit : ∀ {es : List DictEntry} {kvs : List (Str × V)}, Paired (fun (e : DictEntry) (q : Str × V) => (∃ t, e.key = .str q.1 t) ∧ e.hash = PyData.keyHash X.w.params q.1 ∧ RelV q.2 e.val) es kvs → PySem.W.KeysLit X.w.params es := by
    intro es kvs h
    induction h with
    | nil => trivial
    | cons h _ ih =>
      obtain ⟨⟨t, h1⟩, h2, _⟩ := h
      exact ⟨⟨_, t, h1, h2⟩, ih⟩
  have fnd : ∀ {es : List DictEntry} {kvs : List (Str × V)}, Paired (fun (e : DictEntry) (q : Str × V) => (∃ t, e.key = .str q.1 t) ∧ e.hash = PyData.keyHash X.w.params q.1 ∧ RelV q.2 e.val) es kvs → (kvs.map (·.1)).Nodup → (z, v0) ∈ kvs →
      ∃ e, es.find? (fun d => Value.isStrOf z d.key) = some e ∧ RelV v0 e.val := by
    intro es kvs h
    induction h with
    | nil => intro _ h; cases h
    | @cons e q es kvs h hr ih =>
      intro nd hm
      obtain ⟨⟨t, h1⟩, h2, h3⟩ := h
      have eis : Value.isStrOf z e.key = decide (z = q.1) := by
        rw [h1]
        show (q.1 == z) = decide (z = q.1)
        rw [Bool.eq_iff_iff, beq_iff_eq, decide_eq_true_eq]
        exact eq_comm
      rw [List.find?_cons, eis]
      rw [List.map_cons, List.nodup_cons] at nd
      rcases List.mem_cons.mp hm with hm | hm
      · cases hm
        rw [decide_eq_true rfl]
        exact ⟨e, rfl, h3⟩
      · have ne : z ≠ q.1 := fun e => nd.1 (by rw [← e]; exact List.mem_map.mpr ⟨_, hm, rfl⟩)
        rw [decide_eq_false ne]
        exact ih nd.2 hm
  obtain ⟨e, he, hv⟩ := fnd hp D.nd hm
  refine wpAny_getItem_of (PySem.strKind_is X.prog X.w z t) (PySem.W.mapOf_K (prog := X.prog) I.kIn hl (lit hp)) (v := e.val) ?_ ⟨v0, H, I.tok _, hv, q⟩
  show findBy Value.isStrOf es z = some e.val
  obtain ⟨l⟩ := es
  unfold findBy
  rw [List.find?_toArray]
  rw [show l.find? (fun d => Value.isStrOf z d.key) = some e from he]
  rfl
/-- the i-th value of the dict x of the module, if it is an object -/
def dvalA (x : Str) (i : Nat) (K : PySem.W.Frag) : Addr := match K.lookup (He.ga K x) with
  | some ⟨_, _, .dict es _, _⟩ => (match es.toList[i]? with
    | some ⟨_, _, .ref a⟩ => a
    | _ => 0)
  | _ => 0
/-- a tuple of these stands at a -/
def tupAB (K : PySem.W.Frag) (a : Addr) (vs : List He.Dv) : Bool := match K.lookup a with
  | some ⟨.type c, _, .seq its _, _⟩ => decide (c = "tuple") && (decide (its.size ≤ sizeLine) && He.relAll (vs.map (He.Dv.v K)) its.toList)
  | _ => false
theorem tupAB_ok {K : PySem.W.Frag} {a : Addr} {vs : List He.Dv} (h : tupAB K a vs = true) (H : Hp) : SqT K H a (vs.map (He.Dv.v K)) := by
  unfold tupAB at h
  cases q : K.lookup a with
  | none =>
    rw [q] at h
    cases h
  | some o =>
    obtain ⟨oc, od, dt, osl⟩ := o
    rw [q] at h
    cases oc with
    | type c =>
      cases dt with
      | seq its n =>
        obtain ⟨h1, h2⟩ := He.ba (show (decide (c = "tuple") && (decide (its.size ≤ sizeLine) && He.relAll (vs.map (He.Dv.v K)) its.toList)) = true from h)
        obtain ⟨h3, h4⟩ := He.ba h2
        exact .inr ⟨_, its, n, q, congrArg Value.type (of_decide_eq_true h1), rfl, of_decide_eq_true h3, He.relAll_ok h4⟩
      | _ => cases h
    | _ => cases dt <;> cases h
/-! ### the Hook -/
abbrev Tab : Type := Str × List (Str × He.Dv)
def obsV (K : PySem.W.Frag) (a : Addr) (vs : List He.Dv) : Bool := match K.lookup a with
  | some ⟨_, _, .dict es _, _⟩ => He.relAll (vs.map (He.Dv.v K)) (es.toList.map (·.val))
  | _ => false
open He5 in
def hookMT (n : Nat) (fa : List He.Fa) (fn : List DefA) (ex : PySem.W.Frag → Bool) (ts : List Tab) : PySem.W.Hook where
  α := (He.AlD × Bool) × List (Option (List (Option (Str × Int))))
  obs := fun s => ((obsA fa fn (He.frG s.heap.get? (asA s.heap.get? n)), ex (He.frG s.heap.get? (asA s.heap.get? n))), ts.map fun t => He.dicW (He.frG s.heap.get? (asA s.heap.get? n)) (He.ga (He.frG s.heap.get? (asA s.heap.get? n)) t.1))
  val := fun w => ((valA fn, true), ts.map fun t => some (He.keysIn w.params (t.2.map (·.1))))
  says := fun w h => ∃ K : PySem.W.Frag, K.In h ∧ SaysA fa fn K ∧ ex K = true ∧ (ts.map fun t => He.dicW K (He.ga K t.1)) = ts.map fun t => some (He.keysIn w.params (t.2.map (·.1)))
  of := fun _ _ e => ⟨_, He.frG_in, congrArg (fun z : (He.AlD × Bool) × List (Option (List (Option (Str × Int)))) => z.1.1) e, congrArg (fun z : (He.AlD × Bool) × List (Option (List (Option (Str × Int)))) => z.1.2) e, congrArg (fun z : (He.AlD × Bool) × List (Option (List (Option (Str × Int)))) => z.2) e⟩
  keeps := fun _ _ _ ⟨K, hK, c⟩ k => ⟨K, PySem.W.Frag.In.keeps hK k, c⟩
open He5 in
def obsMT (n : Nat) (fa : List He.Fa) (fn : List DefA) (ex : PySem.W.Frag → Bool) (ts : List Tab) (g : Addr → Option Obj) : (He.AlD × Bool) × List (Option (List (Option (Str × Int)))) := (fun K => ((obsA fa fn K, ex K), ts.map fun t => He.dicW K (He.ga K t.1))) (He.frG g (asA g n))
theorem obsMT_eq {n : Nat} {fa : List He.Fa} {fn : List He5.DefA} {ex : PySem.W.Frag → Bool} {ts : List Tab} {g : Addr → Option Obj} {s : Shared} (h : ∀ a, g a = s.heap.get? a) : obsMT n fa fn ex ts g = (hookMT n fa fn ex ts).obs s := by
  have e : g = s.heap.get? := funext h
  rw [e] <;> rfl
theorem pair_of {P : Params} {K : PySem.W.Frag} : ∀ {es : List DictEntry} {kds : List (Str × He.Dv)}, es.map He.keyOf = He.keysIn P (kds.map (·.1)) → He.relAll ((kds.map (·.2)).map (He.Dv.v K)) (es.map (·.val)) = true →
    Paired (fun (e : DictEntry) (q : Str × V) => (∃ t, e.key = .str q.1 t) ∧ e.hash = PyData.keyHash P q.1 ∧ RelV q.2 e.val) es (kds.map fun q => (q.1, q.2.v K))
  | [], [], _, _ => .nil
  | [], _ :: _, h, _ => by cases h
  | e :: es, [], h, _ => by cases h
  | e :: es, q :: kds, h, hr => by
    have h1 : He.keyOf e :: es.map He.keyOf = some (q.1, PyData.keyHash P q.1) :: He.keysIn P (kds.map (·.1)) := h
    injection h1 with h2 h3
    have hr2 : Vals ((q.2.v K) :: ((kds.map (·.2)).map (He.Dv.v K))) (e.val :: es.map (·.val)) := He.relAll_ok hr
    cases hr2 with
    | cons r1 r2 =>
      refine .cons ⟨?_, ?_, r1⟩ (pair_of h3 ?_)
      · unfold He.keyOf at h2
        split at h2
        · rename_i x t hq
          obtain ⟨h5, h6⟩ := Prod.mk.inj (Option.some.inj h2)
          exact ⟨t, by rw [hq, h5]⟩
        · cases h2
      · unfold He.keyOf at h2
        split at h2
        · rename_i x t hq
          obtain ⟨h5, h6⟩ := Prod.mk.inj (Option.some.inj h2)
          exact h6
        · cases h2
      · have := hr
        simp only [List.map_cons, He.relAll, Bool.and_eq_true] at this
        exact this.2
theorem wdict_of {K : PySem.W.Frag} {w : World} {ts : List Tab} (c : (ts.map fun t => He.dicW K (He.ga K t.1)) = ts.map fun t => some (He.keysIn w.params (t.2.map (·.1)))) (t : Tab) (ht : t ∈ ts) (hv : obsV K (He.ga K t.1) (t.2.map (·.2)) = true) (hn : (t.2.map (·.1)).Nodup) (hl : t.2.length ≤ sizeLine) :
    WDict K w (He.ga K t.1) (t.2.map fun q => (q.1, q.2.v K)) := by
  have e : He.dicW K (He.ga K t.1) = some (He.keysIn w.params (t.2.map (·.1))) := by
    obtain ⟨i, hi, rfl⟩ := List.mem_iff_getElem.mp ht
    have q : (ts.map fun t => He.dicW K (He.ga K t.1))[i]? = (ts.map fun t => some (He.keysIn w.params (t.2.map (·.1))))[i]? := by rw [c]
    rw [List.getElem?_map, List.getElem?_map, List.getElem?_eq_getElem hi] at q
    exact Option.some.inj q
  have ee := e
  unfold He.dicW at e
  unfold obsV at hv
  cases q : K.lookup (He.ga K t.1) with
  | none => rw [q] at e; cases e
  | some o =>
    obtain ⟨oc, od, dt, osl⟩ := o
    rw [q] at e hv
    cases oc with
    | type c =>
      cases od with
      | none =>
        cases dt with
        | dict es n =>
          have h1 : (match decide (c = "dict") && (osl.isEmpty && !((He.ga K t.1) == sysModules)) with
            | true => some (es.toList.map He.keyOf)
            | false => none) = some (He.keysIn w.params (t.2.map (·.1))) := e
          cases z : decide (c = "dict") && (osl.isEmpty && !((He.ga K t.1) == sysModules)) with
          | false => rw [z] at h1; cases h1
          | true =>
            rw [z] at h1
            obtain ⟨z1, z2⟩ := He.ba z
            obtain ⟨z3, z4⟩ := He.ba z2
            have e1 : c = "dict" := of_decide_eq_true z1
            have e2 : osl = #[] := Array.isEmpty_iff.mp z3
            have e3 : ((He.ga K t.1) == sysModules) = false := by
              cases y : (He.ga K t.1) == sysModules with
              | false => rfl
              | true => rw [y] at z4; cases z4
            subst e1 e2
            exact ⟨⟨es, n, q, pair_of (Option.some.inj h1) hv⟩, e3, by rw [List.map_map]; exact hn, by rw [List.length_map]; exact hl⟩
        | _ => cases e
      | some b => cases dt <;> cases e
    | _ => cases od <;> cases dt <;> cases e
end VY

set_option Elab.async false
set_option linter.all false
set_option maxRecDepth 100000
set_option maxHeartbeats 4000000
/-! # {k: v}, k a tuple; len(o) by an own __len__ -/
namespace VX
open PySem PySem.Spec PyProof.Rows L2
def tDispT (tk tv : TE) : TE := fun σ H Q => ∀ p, H p = none → tk σ (upd H p (.dT [])) fun x H1 => tv σ H1 fun z H2 => H2 p = some (.dT []) ∧ ∃ (b : Addr) (ks : List Key), x = .ref b ∧ H2 b = some (.tup (ks.map kV)) ∧ Q (.ref p) (upd H2 p (.dT [(ks, z)]))
theorem pe_dispT {X : Cx} {pos : Pos} {k v : Expr} {tk tv : TE} (hu : X.A.units < cLine) (hk : PE X k tk) (hv : PE X v tv) : PE X (.Dict [some k] [v] pos) (tDispT tk tv) := by
  refine ⟨fun pins s σ H Q I q => ?_⟩
  have hn := I.hok.fresh (Nat.le_refl s.heap.objs.size)
  have I1 := I.laid (a := s.heap.objs.size) (o := .dT []) (h' := s.heap.push { cls := .type "dict", data := .dict #[] }) (t' := s.toks) (fun _ _ q => Heap.get?_push_of_some _ q) (Nat.le_refl _) (dt_empty s.heap I.big)
  rw [arm_eval_Dict, zip_pairTrees [some k] [v] X.env pos rfl rfl, dictDisplay_pairs (pairTrees [some k] [v] X.env pos) (by simp [pairTrees]) (by simp [pairTrees])]
  refine wpAny_bind (wpAny_standAt (wpAny_bind (wpAny_subDictH (knd := tupleKind (mixKind X.prog X.w)) (Q := fun d s' => wpAny (model X.prog X.w) X.A (pure (Value.ref d)) (EP X pins σ Q) X.xe s') ?hr (by simp [pairTrees]) ?_)))
  case hr => exact hu
  refine pairTrees_cons_walk (thn (hk.run pins _ σ _ _ I1 (q _ hn)) fun u s1 ⟨x, H1, I2, r1, q1⟩ => thn (hv.run pins s1 σ H1 _ I2 q1) fun w s2 ⟨z, H2, I3, r2, e, b, ks, ex, eb, q2⟩ => pairTrees_nil_walk ?_)
  subst ex
  cases (show u = Value.ref b from r1)
  obtain ⟨z0, hd, xs, rel, dd⟩ := dt_of I3.hok e
  cases rel
  refine ⟨[(ks, b, w)], ⟨rfl, rfl, key_of I3.hok eb, True.intro⟩, dd, fun h' tk' dd' hs => wpAny_pure ⟨.ref s.heap.objs.size, _, ?_, rfl, q2⟩⟩
  obtain ⟨qo, es, ep, hq, h2, h3, h4, _, h5⟩ := dd'
  refine d_write I3 (by rw [e]; exact True.intro) hs ⟨qo, hq⟩ ⟨by show 1 ≤ sizeLine; decide, hd, _, .cons ⟨rfl, ?_, r2⟩ .nil, qo, es, ep, hq, h2, h3, h4, h5⟩
  rw [upd_ne (ne_of eb e (fun z => nomatch z))]
  exact eb
/-- len(o) by an own __len__ -/
def rLenO (C : Addr) (sp : Sp) (E : XK) : List V → Hp → VK → Prop := fun xs H Q => ∃ a dx fs, xs = [.ref a] ∧ H a = some (.ins C dx fs) ∧ sp [.ref a] H (fun v H' => ∃ i : Int, v = .int i ∧ 0 ≤ i ∧ i < 2 ^ 62 ∧ Q v H') E
theorem call_lenO {X : Cx} {CX : CXT} {C f : Addr} {n : Nat} {sp : Sp} {E : XK} (F : FnR X.prog X.w X.K X.mg X.base CX n f sp) (hs : PySem.W.findIn X.K (.ref C) "__len__" = some (some (.ref f))) (hf : PySem.W.isFn X.K (.ref f) = true) (hx : Passes CX X E) (hr : Room (n + 1) X.A) :
    CallR X (.builtin "len") (rLenO C sp E) := by
  intro pins s σ H xs us Q I r h
  obtain ⟨a, dx, fs, rfl, ha, h⟩ := h
  obtain ⟨u, rfl, ru⟩ := vals1 r
  cases (show u = Value.ref a from ru)
  obtain ⟨mA, J, _⟩ := ins_get I.hok ha
  obtain ⟨od, J, _⟩ := J.look
  obtain ⟨m, hF⟩ := I.fr
  refine PySem.W.len_K hF I.ok.mod.kin J hs hf ?_
  have e0 : Env0 X.prog X.w X.K X.mg X.base X.A.in1 X.stack s H := by
    have e := I.env0
    exact ⟨e.frames, e.mod, e.bs, e.bsz, e.funs, e.frf, e.hok, e.bare⟩
  refine wpAny_call (codeAny_mono (F X.A.in1 X.stack s H [.ref a] [.ref a] _ E hr.in1 e0 (.cons rfl .nil) h) fun r s' hq => ?_)
  cases r with
  | error e => exact hx pins σ H s e s' I hq
  | ok fl =>
    cases fl with
    | ret w =>
      obtain ⟨z, H', I', rz, i, rfl, h0, h1, q⟩ := I.after hq
      obtain ⟨t, rfl⟩ := rz
      exact ⟨⟨h0, by omega⟩, .int i, H', I'.tok _, ⟨_, rfl⟩, q⟩
    | next => exact False.elim hq
    | brk => exact False.elim hq
    | cont => exact False.elim hq
end VX

set_option Elab.async false
set_option linter.all false
set_option maxRecDepth 100000
set_option maxHeartbeats 4000000
/-! # x != y of own objects whose class has __eq__ and no __ne__ -/
namespace VX
open PySem PySem.Spec PyProof.Rows L2
/-- the class has its own __eq__, no __ne__, and stands right under object -/
def neB (K : PySem.W.Frag) (C : Addr) : Bool := match K.lookup C with
  | some ⟨.type t, _, .cls cd, sl⟩ => decide (t = "type") && ((match cd.mro with
      | [.ref C', .type o] => C' == C && decide (o = "object")
      | _ => false) && (!cd.hasDel && (PySem.W.nsOkIn K cd.ns && ((match sl.toList with
      | [_, _, _, _, some (.builtin _), _] => true
      | _ => false) && (He.eqO (PySem.W.nsIn K cd.ns "__eq__") (some (some (.ref (He.ma K C "__eq__")))) && (He.eqO (PySem.W.nsIn K cd.ns "__ne__") (some none) && PySem.W.isFn K (.ref (He.ma K C "__eq__"))))))))
  | _ => false
theorem ns_some {K : PySem.W.Frag} {h : Heap} {N : Addr} {n : Str} {v : Value} (X : K.In h) (ok : PySem.W.nsOkIn K N = true) : ∃ m, h.Ns N m ∧ (PySem.W.nsIn K N n = some (some v) → m n = some v) := by
  unfold PySem.W.nsOkIn at ok
  split at ok
  · rename_i cls dict es ep sl e
    refine ⟨nsFind es, ⟨_, es, ep, X _ _ e, rfl, fun d hd => ?_, fun _ => rfl⟩, fun h => ?_⟩
    · have := Array.all_eq_true_iff_forall_mem.mp ok d hd
      split at this
      · rename_i s t k
        exact ⟨s, t, k⟩
      · cases this
    · unfold PySem.W.nsIn at h
      rw [e] at h
      obtain ⟨l⟩ := es
      simp only at h
      split at h
      · rename_i d hd
        have hv : d.val = v := Option.some.inj (Option.some.inj h)
        unfold nsFind findBy
        rw [List.find?_toArray]
        rw [show l.find? (fun d => d.key.isStr n) = some d from hd]
        rw [← hv]
        rfl
      · split at h
        · cases h
        · cases Option.some.inj h
  · cases ok
/-- what != asks of a class -/
structure NeOf (K : PySem.W.Frag) (C : Addr) : Prop where
  ex : ∀ h : Heap, K.In h → ∀ (x : Addr) (o : Obj), h.get? x = some o → o.cls = .ref C → h.OwnEqNoNe x C (He.ma K C "__eq__") "object" [.type "object"]
theorem neB_ok {K : PySem.W.Frag} {C : Addr} (h : neB K C = true) : NeOf K C := by
  refine ⟨fun hp X x o hx hc => ?_⟩
  unfold neB at h
  split at h
  · rename_i t d cd sl e
    obtain ⟨h1, h⟩ := He.ba h
    obtain ⟨h2, h⟩ := He.ba h
    obtain ⟨h3, h⟩ := He.ba h
    obtain ⟨h4, h⟩ := He.ba h
    obtain ⟨h5, h⟩ := He.ba h
    obtain ⟨h6, h⟩ := He.ba h
    obtain ⟨h7, h8⟩ := He.ba h
    have et : t = "type" := of_decide_eq_true h1
    subst et
    split at h2
    · rename_i C' b em
      obtain ⟨h9, h10⟩ := He.ba h2
      have eC : C' = C := by simpa using h9
      have eb : b = "object" := of_decide_eq_true h10
      subst eC
      subst eb
      split at h5
      · rename_i k0 k1 k2 k3 nid k5 es
        obtain ⟨m, hm, hs⟩ := ns_some (n := "__eq__") (v := .ref (He.ma K C' "__eq__")) X h4
        have hn := PySem.W.ns_none_of X hm (He.eqO_ok h7)
        have hdel : cd.hasDel = false := by simpa using h3
        obtain ⟨nm, bs, mro, ns, qn, hd, sn, sub, ab, col, hdl⟩ := cd
        simp only at em hdel hm hs hn h6
        subst em
        subst hdel
        obtain ⟨sl⟩ := sl
        simp only at es
        subst es
        obtain ⟨of, hof, hcl⟩ : ∃ of, K.lookup (He.ma K C' "__eq__") = some of ∧ of.cls = .type "function" := by
          have h8 : ((K.lookup (He.ma K C' "__eq__")).map (·.cls) == some (Value.type "function")) = true := h8
          cases q : K.lookup (He.ma K C' "__eq__") with
          | none => rw [q] at h8; cases h8
          | some of => rw [q] at h8; exact ⟨of, rfl, by simpa using h8⟩
        exact ⟨o, of, nm, qn, ns, bs, hd, sn, sub, ab, col, d, k0, k1, k2, k3, k5, nid, m, _, hx, hc, X _ _ e, hm, hs (He.eqO_ok h6), X _ _ hof, hcl, PySem.F.cmp_object.mro, PySem.F.cmp_object.eq.lookup, hn⟩
      · cases h5
    · cases h2
  · cases h
/-- x != y -/
def rNeO (C : Addr) (sp : Sp) (E : XK) : R2 := fun x y H Q => ∃ a b dx dy fs gs, x = .ref a ∧ y = .ref b ∧ H a = some (.ins C dx fs) ∧ H b = some (.ins C dy gs) ∧ sp [.ref a, .ref b] H (fun v H' => ∃ z, v = .bl z ∧ Q (.bl (!z)) H') E
theorem op_neO {X : Cx} {CX : CXT} {C : Addr} {n : Nat} {sp : Sp} {E : XK} (F : FnR X.prog X.w X.K X.mg X.base CX n (He.ma X.K C "__eq__") sp) (hn : NeOf X.K C) (hx : Passes CX X E) (hr : Room (n + 1) X.A) (hu : X.A.units + 1 < cLine) : OpR X (compareOp .NotEq) (rNeO C sp E) := by
  intro pins s σ H x y v u Q I rx ry hq
  obtain ⟨a, b, dx, dy, fs, gs, rfl, rfl, ha, hb, h⟩ := hq
  cases rx
  cases ry
  obtain ⟨mA, J, _⟩ := ins_get I.hok ha
  obtain ⟨mB, J', _⟩ := ins_get I.hok hb
  obtain ⟨od, J, _⟩ := J.look
  obtain ⟨od', J', _⟩ := J'.look
  have ow := hn.ex s.heap I.kIn a _ J.at_ J.cls
  have e0 : Env0 X.prog X.w X.K X.mg X.base X.A.in1 X.stack s H := by
    have e := I.env0
    exact ⟨e.frames, e.mod, e.bs, e.bsz, e.funs, e.frf, e.hok, e.bare⟩
  obtain ⟨hp, gn, dr, tk, os⟩ := s
  refine PySem.compareOp_ne_ownEq PySem.F.cmp_object ow J'.at_ J'.cls hu ?_
  refine wpAny_call (codeAny_mono (F X.A.in1 X.stack _ H [.ref a, .ref b] [.ref a, .ref b] _ E hr.in1 e0 (.cons rfl (.cons rfl .nil)) h) fun r s' hq => ?_)
  cases r with
  | error e => exact hx pins σ H _ e s' I hq
  | ok fl =>
    cases fl with
    | ret w =>
      obtain ⟨z, H', I', rz, b', rfl, q⟩ := I.after hq
      cases (show w = Value.bool b' from rz)
      exact ⟨b', rfl, .bl (!b'), H', I', rfl, q⟩
    | next => exact False.elim hq
    | brk => exact False.elim hq
    | cont => exact False.elim hq
end VX

set_option Elab.async false
set_option linter.all false
set_option maxRecDepth 100000
set_option maxHeartbeats 4000000
/-! # law_k32_dimensions_of_words: the defs of the text, what a walk knows of the module -/
namespace KV
open PySem PySem.Spec PyProof.Rows L2 VX
def top (i : Nat) : Stmt := PySem.Challenge.pw_handspaces_k32_dimensions_of_words.main.body.getD i (.Pass ⟨0, 0, 0, 0⟩)
abbrev iKLen : Nat := 9
abbrev iFits : Nat := 14
abbrev iLeaves : Nat := 15
abbrev iPText : Nat := 16
abbrev iCheck : Nat := 17
abbrev iSum : Nat := 18
abbrev iInter : Nat := 19
abbrev iPart : Nat := 20
abbrev iRW : Nat := 21
abbrev iWithin : Nat := 24
abbrev iSumM : Nat := 25
abbrev iComM : Nat := 26
abbrev iLetM : Nat := 27
abbrev iMark : Nat := 28
abbrev iCoef : Nat := 30
abbrev iCoefs : Nat := 31
abbrev jTape : Nat := 33
abbrev jPick : Nat := 34
abbrev jAdd : Nat := 35
abbrev jSpan : Nat := 36
abbrev jSum : Nat := 37
abbrev jCut : Nat := 38
abbrev jSize : Nat := 39
abbrev jUnit : Nat := 40
abbrev jShape : Nat := 41
abbrev jWord : Nat := 42
abbrev jWorth : Nat := 43
abbrev jKinds : Nat := 44
abbrev jMark : Nat := 45
abbrev jCoef : Nat := 46
abbrev jFrame : Nat := 47
abbrev jAmounts : Nat := 48
abbrev jLen : Nat := 49
abbrev jRows : Nat := 50
abbrev jMixed : Nat := 51
abbrev jMoved : Nat := 52
abbrev jDrawn : Nat := 53
abbrev jVec : Nat := 54
abbrev jShapes : Nat := 55
abbrev jCounted : Nat := 56
abbrev jSets : Nat := 57
abbrev iLaw : Nat := 58
abbrev iWord : Nat := 22
abbrev s_Word_init : Stmt := inClass (top 22) 0
abbrev s_Word_read : Stmt := inClass (top 22) 1
abbrev s_Word_sign : Stmt := inClass (top 22) 2
abbrev s_Word_parts : Stmt := inClass (top 22) 3
abbrev s_Word_add : Stmt := inClass (top 22) 4
abbrev s_Word_and : Stmt := inClass (top 22) 5
abbrev s_Word_eq : Stmt := inClass (top 22) 6
abbrev s_Word_len : Stmt := inClass (top 22) 7
abbrev s_Word_text : Stmt := inClass (top 22) 8
abbrev s_BadSign_init : Stmt := inClass (top 3) 0
abbrev s_BadColumn_init : Stmt := inClass (top 4) 0
def defs : List (Str × Nat) := ([("kind_length", iKLen), ("fits", iFits), ("check_text", iCheck), ("read_sum", iSum), ("read_intersection", iInter), ("read_part", iPart), ("read_word", iRW), ("is_within", iWithin), ("sum_mark", iSumM), ("common_mark", iComM), ("letter_mark", iLetM), ("mark", iMark), ("coefficient", iCoef), ("coefficients", iCoefs), ("_law_tape", jTape), ("_law_pick", jPick), ("_law_added", jAdd), ("_law_span", jSpan), ("_law_sum", jSum), ("_law_cut", jCut), ("_law_size", jSize), ("_law_unit", jUnit), ("_law_shape", jShape), ("_law_word", jWord)] : List (Str × Nat)) ++
  ([("_law_worth", jWorth), ("_law_kinds", jKinds), ("_law_mark", jMark), ("_law_coefficient", jCoef), ("_law_frame", jFrame), ("_law_amounts", jAmounts), ("_law_length", jLen), ("_law_rows", jRows), ("_law_mixed", jMixed), ("_law_moved", jMoved), ("_law_drawn", jDrawn), ("_law_vector", jVec), ("_law_shapes", jShapes), ("_law_counted", jCounted), ("_law_sets", jSets), ("law", iLaw)] : List (Str × Nat))
def free : List Str := ["len", "int", "abs", "range", "tuple", "list", "sum", "str"]
abbrev FnP (K : PySem.W.Frag) (x : Str) (i : Nat) (f : Addr) (fd : FuncData) : Prop := FunD K x x (defArgs (top i)) (defBody (top i)) (defScope (top i)) [] [] f fd
structure Txt (K : PySem.W.Frag) (mg : Str → Option Value) : Prop where
  dfs : ∀ p ∈ defs, mg p.1 = some (.ref (He.ga K p.1))
  free : ∀ x ∈ free, mg x = none
  g_HANDS : mg "HANDS" = some (.ref (He.ga K "HANDS"))
  t_HANDS : ∀ H, SqT K H (He.ga K "HANDS") [.str "a", .str "b", .str "c"]
  s_PLANE : ∃ t, mg "PLANE" = some (.str "plane" t)
  g_KINDS : mg "KINDS" = some (.ref (He.ga K "KINDS"))
  t_KINDS : ∀ H, SqT K H (He.ga K "KINDS") [.str "", .str "a", .str "b", .str "c", .str "ab", .str "ac", .str "bc", .str "abc", .str "plane"]
  g_LEAVES : mg "LEAVES" = some (.ref (He.ga K "LEAVES"))
  t_LEAVES : ∀ H, SqT K H (He.ga K "LEAVES") [.str "a", .str "b", .str "c", .str "0", .str "1"]
  g_JOINTS : mg "JOINTS" = some (.ref (He.ga K "JOINTS"))
  t_JOINTS : ∀ H, SqT K H (He.ga K "JOINTS") [.str "+", .str "&"]
  n_MOST_OPEN : ∃ t, mg "MOST_OPEN" = some (.int 9 t)
  g_Word : mg "Word" = some (.ref (He.ga K "Word"))
  c_Word : Cls K (He.ga K "Word")
  a_Word_sign : NoAttr K (He.ga K "Word") "_sign"
  a_Word_parts : NoAttr K (He.ga K "Word") "_parts"
  f_Word : PySem.W.selfFirst K (He.ga K "Word") = true
  k_Word : Mk K (He.ga K "Word") (He.ma K (He.ga K "Word") "__init__")
  p_Word_sign : PropOf K (He.ga K "Word") "sign" (He.ma K (He.ga K "Word") "sign") (VY.pG K (He.ga K "Word") "sign")
  p_Word_parts : PropOf K (He.ga K "Word") "parts" (He.ma K (He.ga K "Word") "parts") (VY.pG K (He.ga K "Word") "parts")
  o_Word_add : VY.OpOf K (He.ga K "Word") "__add__"
  o_Word_and : VY.OpOf K (He.ga K "Word") "__and__"
  if_BadColumn : InF K (He.ga K "BadColumn") "column"
theorem Txt.fr {K : PySem.W.Frag} {mg : Str → Option Value} (T : Txt K mg) (x : Str) (h : x ∈ KV.free := by decide +kernel) : mg x = none := T.free x h
theorem Txt.df {K : PySem.W.Frag} {mg : Str → Option Value} (T : Txt K mg) (x : Str) (i : Nat) (h : (x, i) ∈ defs := by decide +kernel) : mg x = some (.ref (He.ga K x)) := T.dfs (x, i) h
structure Dfs (K : PySem.W.Frag) : Prop where
  d : ∀ p ∈ defs, ∃ fd, FnP K p.1 p.2 (He.ga K p.1) fd
  Word_init : (∃ fd, FunD K "__init__" "Word.__init__" (defArgs s_Word_init) (defBody s_Word_init) (defScope s_Word_init) [.ref (He.dflAt ("Word", some "__init__") 0 K)] [] (He.ma K (He.ga K "Word") "__init__") fd) ∧ (∀ H, SqT K H (He.dflAt ("Word", some "__init__") 0 K) [])
  Word_read : (∃ fd, FunD K "read" "Word.read" (defArgs s_Word_read) (defBody s_Word_read) (defScope s_Word_read) [] [] (He5.wf K (He.ga K "Word") "classmethod" "read") fd)
  Word_sign : (∃ fd, FunD K "sign" "Word.sign" (defArgs s_Word_sign) (defBody s_Word_sign) (defScope s_Word_sign) [] [] (VY.pG K (He.ga K "Word") "sign") fd)
  Word_parts : (∃ fd, FunD K "parts" "Word.parts" (defArgs s_Word_parts) (defBody s_Word_parts) (defScope s_Word_parts) [] [] (VY.pG K (He.ga K "Word") "parts") fd)
  Word_add : (∃ fd, FunD K "__add__" "Word.__add__" (defArgs s_Word_add) (defBody s_Word_add) (defScope s_Word_add) [] [] (He.ma K (He.ga K "Word") "__add__") fd)
  Word_and : (∃ fd, FunD K "__and__" "Word.__and__" (defArgs s_Word_and) (defBody s_Word_and) (defScope s_Word_and) [] [] (He.ma K (He.ga K "Word") "__and__") fd)
  BadColumn_init : ∃ fd, FunD K "__init__" "BadColumn.__init__" (defArgs s_BadColumn_init) (defBody s_BadColumn_init) (defScope s_BadColumn_init) [] [] (He.ma K (He.ga K "BadColumn") "__init__") fd
theorem Dfs.def {K : PySem.W.Frag} (A : Dfs K) (x : Str) (i : Nat) (h : (x, i) ∈ defs := by decide +kernel) : ∃ fd, FnP K x i (He.ga K x) fd := A.d (x, i) h
end KV

set_option Elab.async false
set_option linter.all false
set_option maxRecDepth 100000
set_option maxHeartbeats 4000000
/-! # a Hook that looks at the first N objects as they lie: no search for what is reached -/
namespace VX
open PySem PySem.Spec PyProof.Rows L2
/-- the globals and what every text has, then all the others -/
def asR (N : Nat) : List Addr := PySem.mainGlobals :: cStatics :: (List.range N).reverse
open He5 in
def hookR (N : Nat) (fa : List He.Fa) (fn : List DefA) (ex : PySem.W.Frag → Bool) : PySem.W.Hook where
  α := He.AlD × Bool
  obs := fun s => (obsA fa fn (He.frG s.heap.get? (asR N)), ex (He.frG s.heap.get? (asR N)))
  val := fun _ => (valA fn, true)
  says := fun _ h => ∃ K : PySem.W.Frag, K.In h ∧ SaysA fa fn K ∧ ex K = true
  of := fun _ _ e => ⟨_, He.frG_in, congrArg (fun z : He.AlD × Bool => z.1) e, congrArg (fun z : He.AlD × Bool => z.2) e⟩
  keeps := fun _ _ _ ⟨K, hK, c⟩ k => ⟨K, PySem.W.Frag.In.keeps hK k, c⟩
open He5 in
def obsR (N : Nat) (fa : List He.Fa) (fn : List DefA) (ex : PySem.W.Frag → Bool) (g : Addr → Option Obj) : He.AlD × Bool := (fun K => (obsA fa fn K, ex K)) (He.frG g (asR N))
theorem obsR_eq {N : Nat} {fa : List He.Fa} {fn : List He5.DefA} {ex : PySem.W.Frag → Bool} {g : Addr → Option Obj} {s : Shared} (h : ∀ a, g a = s.heap.get? a) : obsR N fa fn ex g = (hookR N fa fn ex).obs s := by
  have e : g = s.heap.get? := funext h
  rw [e] <;> rfl
open He5 VY in
def hookRT (N : Nat) (fa : List He.Fa) (fn : List DefA) (ex : PySem.W.Frag → Bool) (ts : List Tab) : PySem.W.Hook where
  α := (He.AlD × Bool) × List (Option (List (Option (Str × Int))))
  obs := fun s => ((obsA fa fn (He.frG s.heap.get? (asR N)), ex (He.frG s.heap.get? (asR N))), ts.map fun t => He.dicW (He.frG s.heap.get? (asR N)) (He.ga (He.frG s.heap.get? (asR N)) t.1))
  val := fun w => ((valA fn, true), ts.map fun t => some (He.keysIn w.params (t.2.map (·.1))))
  says := fun w h => ∃ K : PySem.W.Frag, K.In h ∧ SaysA fa fn K ∧ ex K = true ∧ (ts.map fun t => He.dicW K (He.ga K t.1)) = ts.map fun t => some (He.keysIn w.params (t.2.map (·.1)))
  of := fun _ _ e => ⟨_, He.frG_in, congrArg (fun z : (He.AlD × Bool) × List (Option (List (Option (Str × Int)))) => z.1.1) e, congrArg (fun z : (He.AlD × Bool) × List (Option (List (Option (Str × Int)))) => z.1.2) e, congrArg (fun z : (He.AlD × Bool) × List (Option (List (Option (Str × Int)))) => z.2) e⟩
  keeps := fun _ _ _ ⟨K, hK, c⟩ k => ⟨K, PySem.W.Frag.In.keeps hK k, c⟩
open He5 VY in
def obsRT (N : Nat) (fa : List He.Fa) (fn : List DefA) (ex : PySem.W.Frag → Bool) (ts : List Tab) (g : Addr → Option Obj) : (He.AlD × Bool) × List (Option (List (Option (Str × Int)))) := (fun K => ((obsA fa fn K, ex K), ts.map fun t => He.dicW K (He.ga K t.1))) (He.frG g (asR N))
theorem obsRT_eq {N : Nat} {fa : List He.Fa} {fn : List He5.DefA} {ex : PySem.W.Frag → Bool} {ts : List VY.Tab} {g : Addr → Option Obj} {s : Shared} (h : ∀ a, g a = s.heap.get? a) : obsRT N fa fn ex ts g = (hookRT N fa fn ex ts).obs s := by
  have e : g = s.heap.get? := funext h
  rw [e] <;> rfl
end VX

set_option Elab.async false
set_option linter.all false
set_option maxRecDepth 100000
set_option maxHeartbeats 4000000
/-! # a Hook that looks at objects in a given order: those that the facts want stand in front -/
namespace VX
open PySem PySem.Spec PyProof.Rows L2
/-- the globals and what every text has, then the others in the order that is handed in -/
def asL (l : List Nat) : List Addr := PySem.mainGlobals :: cStatics :: l
section
variable (l : List Nat) (fa : List He.Fa) (fn : List He5.DefA) (ex : PySem.W.Frag → Bool)
def seeL (K : PySem.W.Frag) : He.AlD × Bool := (He5.obsA fa fn K, ex K)
def seeT (ts : List VY.Tab) (K : PySem.W.Frag) : (He.AlD × Bool) × List (Option (List (Option (Str × Int)))) := (seeL fa fn ex K, ts.map fun t => He.dicW K (He.ga K t.1))
def hookL : PySem.W.Hook where
  α := He.AlD × Bool
  obs := fun s => seeL fa fn ex (He.frG s.heap.get? (asL l))
  val := fun _ => (He5.valA fn, true)
  says := fun _ h => ∃ K : PySem.W.Frag, K.In h ∧ He5.SaysA fa fn K ∧ ex K = true
  of := fun w h e => ⟨He.frG h.heap.get? (asL l), He.frG_in, (Prod.mk.inj e).1, (Prod.mk.inj e).2⟩
  keeps := fun _ _ _ ⟨K, hK, c⟩ k => ⟨K, PySem.W.Frag.In.keeps hK k, c⟩
def obsL (g : Addr → Option Obj) : He.AlD × Bool := seeL fa fn ex (He.frG g (asL l))
theorem obsL_eq {g : Addr → Option Obj} {s : Shared} (h : ∀ a, g a = s.heap.get? a) : obsL l fa fn ex g = (hookL l fa fn ex).obs s := by
  obtain rfl : g = s.heap.get? := funext h
  rfl
variable (ts : List VY.Tab)
def hookLT : PySem.W.Hook where
  α := (He.AlD × Bool) × List (Option (List (Option (Str × Int))))
  obs := fun s => seeT fa fn ex ts (He.frG s.heap.get? (asL l))
  val := fun w => ((He5.valA fn, true), ts.map fun t => some (He.keysIn w.params (t.2.map (·.1))))
  says := fun w h => ∃ K : PySem.W.Frag, K.In h ∧ He5.SaysA fa fn K ∧ ex K = true ∧ (ts.map fun t => He.dicW K (He.ga K t.1)) = ts.map fun t => some (He.keysIn w.params (t.2.map (·.1)))
  of := fun w h e => ⟨He.frG h.heap.get? (asL l), He.frG_in, (Prod.mk.inj (Prod.mk.inj e).1).1, (Prod.mk.inj (Prod.mk.inj e).1).2, (Prod.mk.inj e).2⟩
  keeps := fun _ _ _ ⟨K, hK, c⟩ k => ⟨K, PySem.W.Frag.In.keeps hK k, c⟩
def obsLT (g : Addr → Option Obj) : (He.AlD × Bool) × List (Option (List (Option (Str × Int)))) := seeT fa fn ex ts (He.frG g (asL l))
theorem obsLT_eq {g : Addr → Option Obj} {s : Shared} (h : ∀ a, g a = s.heap.get? a) : obsLT l fa fn ex ts g = (hookLT l fa fn ex ts).obs s := by
  obtain rfl : g = s.heap.get? := funext h
  rfl
end
end VX

set_option Elab.async false
set_option linter.all false
set_option maxRecDepth 100000
set_option maxHeartbeats 0
/-! ## the facts of the top -/
namespace KV
open PySem PySem.Spec PyProof.Rows L2 VX
def dD (x : Str) (i : Nat) : He5.DefA := ⟨fun K => He.ga K x, x, x, defArgs (top i), defBody (top i), defScope (top i), [], []⟩
def mets : List He5.DefA := (⟨fun K => (He.ma K (He.ga K "Word") "__init__"), "__init__", "Word.__init__", defArgs s_Word_init, defBody s_Word_init, defScope s_Word_init, [.adr (He.dflAt ("Word", some "__init__") 0)], []⟩) :: (⟨fun K => (He5.wf K (He.ga K "Word") "classmethod" "read"), "read", "Word.read", defArgs s_Word_read, defBody s_Word_read, defScope s_Word_read, [], []⟩) :: (⟨fun K => (VY.pG K (He.ga K "Word") "sign"), "sign", "Word.sign", defArgs s_Word_sign, defBody s_Word_sign, defScope s_Word_sign, [], []⟩) :: (⟨fun K => (VY.pG K (He.ga K "Word") "parts"), "parts", "Word.parts", defArgs s_Word_parts, defBody s_Word_parts, defScope s_Word_parts, [], []⟩) :: (⟨fun K => (He.ma K (He.ga K "Word") "__add__"), "__add__", "Word.__add__", defArgs s_Word_add, defBody s_Word_add, defScope s_Word_add, [], []⟩) :: (⟨fun K => (He.ma K (He.ga K "Word") "__and__"), "__and__", "Word.__and__", defArgs s_Word_and, defBody s_Word_and, defScope s_Word_and, [], []⟩) :: (⟨fun K => He.ma K (He.ga K "BadColumn") "__init__", "__init__", "BadColumn.__init__", defArgs s_BadColumn_init, defBody s_BadColumn_init, defScope s_BadColumn_init, [], []⟩) :: []
def fn : List He5.DefA := (defs.map fun p => dD p.1 p.2) ++ mets
def more : List He.Fa := (.glo "HANDS") :: (.str "PLANE" "plane") :: (.glo "KINDS") :: (.glo "LEAVES") :: (.glo "JOINTS") :: (.int "MOST_OPEN" 9) :: (.glo "Word") :: (.cls "Word") :: (.noat "Word" "_sign") :: (.noat "Word" "_parts") :: (.mkr "Word") :: []
def fa : List He.Fa := ((defs.map fun p => He.Fa.glo p.1) ++ free.map He.Fa.free) ++ more
def exL (K : PySem.W.Frag) : List Bool := (He.tupB K "HANDS" [.str "a", .str "b", .str "c"]) :: (He.tupB K "KINDS" [.str "", .str "a", .str "b", .str "c", .str "ab", .str "ac", .str "bc", .str "abc", .str "plane"]) :: (He.tupB K "LEAVES" [.str "a", .str "b", .str "c", .str "0", .str "1"]) :: (He.tupB K "JOINTS" [.str "+", .str "&"]) :: (PySem.W.selfFirst K (He.ga K "Word")) :: (VY.propB K (He.ga K "Word") "sign") :: (VY.propB K (He.ga K "Word") "parts") :: (VY.opB K (He.ga K "Word") "__add__") :: (VY.opB K (He.ga K "Word") "__and__") :: (exB K (He.ga K "BadColumn")) :: (inB K (He.ga K "BadColumn") "column") :: (VY.nilB K (He.dflAt ("Word", some "__init__") 0 K)) :: []
def ex (K : PySem.W.Frag) : Bool := (exL K).all id
theorem ex_in {K : PySem.W.Frag} (e : ex K = true) {b : Bool} (h : b ∈ exL K) : b = true := List.all_eq_true.mp e b h
theorem fa_in {K : PySem.W.Frag} (c : He5.SaysA fa fn K) (f : He.Fa) (hf : f ∈ fa) : f.ok K = true := by
  obtain ⟨i, hi, e⟩ := List.mem_iff_getElem.mp hf
  exact c.fact i (f := f) (by rw [List.getElem?_eq_getElem hi, e])
theorem fn_in {K : PySem.W.Frag} (c : He5.SaysA fa fn K) (d : He5.DefA) (hd : d ∈ fn) : ∃ fd, FunD K d.name d.qual d.params d.body d.scope (d.dvs K) (d.kws K) (d.at_ K) fd := by
  obtain ⟨i, hi, e⟩ := List.mem_iff_getElem.mp hd
  exact c.def_ i (d := d) (by rw [List.getElem?_eq_getElem hi, e])
theorem met_in {K : PySem.W.Frag} (c : He5.SaysA fa fn K) (i : Nat) (h : i < mets.length) : ∃ fd, FunD K mets[i].name mets[i].qual mets[i].params mets[i].body mets[i].scope (mets[i].dvs K) (mets[i].kws K) (mets[i].at_ K) fd := fn_in c _ (List.mem_append_right _ (List.getElem_mem h))
theorem txt_mk {K : PySem.W.Frag} {h : Heap} {mg : Str → Option Value} (X : K.In h) (G : h.Ns mainGlobals mg) (c : He5.SaysA fa fn K) (e : ex K = true) : Txt K mg where
  dfs := fun p hp => He.glo_ok X G (fa_in c _ (List.mem_append_left _ (List.mem_append_left _ (List.mem_map.mpr ⟨p, hp, rfl⟩))))
  free := fun x hx => He.free_ok X G (fa_in c _ (List.mem_append_left _ (List.mem_append_right _ (List.mem_map.mpr ⟨x, hx, rfl⟩))))
  g_HANDS := He.glo_ok X G (fa_in c (.glo "HANDS") (List.mem_append_right _ (.head _)))
  t_HANDS := fun H => He.tupB_ok (ex_in e (.head _)) H
  s_PLANE := He.str_ok X G (fa_in c (.str "PLANE" "plane") (List.mem_append_right _ (.tail _ (.head _))))
  g_KINDS := He.glo_ok X G (fa_in c (.glo "KINDS") (List.mem_append_right _ (.tail _ (.tail _ (.head _)))))
  t_KINDS := fun H => He.tupB_ok (ex_in e (.tail _ (.head _))) H
  g_LEAVES := He.glo_ok X G (fa_in c (.glo "LEAVES") (List.mem_append_right _ (.tail _ (.tail _ (.tail _ (.head _))))))
  t_LEAVES := fun H => He.tupB_ok (ex_in e (.tail _ (.tail _ (.head _)))) H
  g_JOINTS := He.glo_ok X G (fa_in c (.glo "JOINTS") (List.mem_append_right _ (.tail _ (.tail _ (.tail _ (.tail _ (.head _)))))))
  t_JOINTS := fun H => He.tupB_ok (ex_in e (.tail _ (.tail _ (.tail _ (.head _))))) H
  n_MOST_OPEN := He.int_ok X G (fa_in c (.int "MOST_OPEN" 9) (List.mem_append_right _ (.tail _ (.tail _ (.tail _ (.tail _ (.tail _ (.head _))))))))
  g_Word := He.glo_ok X G (fa_in c (.glo "Word") (List.mem_append_right _ (.tail _ (.tail _ (.tail _ (.tail _ (.tail _ (.tail _ (.head _)))))))))
  c_Word := He.cls_ok (fa_in c (.cls "Word") (List.mem_append_right _ (.tail _ (.tail _ (.tail _ (.tail _ (.tail _ (.tail _ (.tail _ (.head _))))))))))
  a_Word_sign := He.noat_ok (fa_in c (.noat "Word" "_sign") (List.mem_append_right _ (.tail _ (.tail _ (.tail _ (.tail _ (.tail _ (.tail _ (.tail _ (.tail _ (.head _)))))))))))
  a_Word_parts := He.noat_ok (fa_in c (.noat "Word" "_parts") (List.mem_append_right _ (.tail _ (.tail _ (.tail _ (.tail _ (.tail _ (.tail _ (.tail _ (.tail _ (.tail _ (.head _))))))))))))
  f_Word := (ex_in e (.tail _ (.tail _ (.tail _ (.tail _ (.head _))))))
  k_Word := He.mkr_ok (fa_in c (.mkr "Word") (List.mem_append_right _ (.tail _ (.tail _ (.tail _ (.tail _ (.tail _ (.tail _ (.tail _ (.tail _ (.tail _ (.tail _ (.head _)))))))))))))
  p_Word_sign := VY.propB_ok (ex_in e (.tail _ (.tail _ (.tail _ (.tail _ (.tail _ (.head _)))))))
  p_Word_parts := VY.propB_ok (ex_in e (.tail _ (.tail _ (.tail _ (.tail _ (.tail _ (.tail _ (.head _))))))))
  o_Word_add := VY.opB_ok (ex_in e (.tail _ (.tail _ (.tail _ (.tail _ (.tail _ (.tail _ (.tail _ (.head _)))))))))
  o_Word_and := VY.opB_ok (ex_in e (.tail _ (.tail _ (.tail _ (.tail _ (.tail _ (.tail _ (.tail _ (.tail _ (.head _))))))))))
  if_BadColumn := inB_ok (exB_ok (ex_in e (.tail _ (.tail _ (.tail _ (.tail _ (.tail _ (.tail _ (.tail _ (.tail _ (.tail _ (.head _)))))))))))) (ex_in e (.tail _ (.tail _ (.tail _ (.tail _ (.tail _ (.tail _ (.tail _ (.tail _ (.tail _ (.tail _ (.head _))))))))))))
theorem dfs_mk {K : PySem.W.Frag} (c : He5.SaysA fa fn K) (e : ex K = true) : Dfs K where
  d := fun p hp => fn_in c (dD p.1 p.2) (List.mem_append_left _ (List.mem_map.mpr ⟨p, hp, rfl⟩))
  Word_init := ⟨met_in c 0 (by decide), VY.nilB_ok (ex_in e (.tail _ (.tail _ (.tail _ (.tail _ (.tail _ (.tail _ (.tail _ (.tail _ (.tail _ (.tail _ (.tail _ (.head _)))))))))))))⟩
  Word_read := met_in c 1 (by decide)
  Word_sign := met_in c 2 (by decide)
  Word_parts := met_in c 3 (by decide)
  Word_add := met_in c 4 (by decide)
  Word_and := met_in c 5 (by decide)
  BadColumn_init := met_in c 6 (by decide)
abbrev R : PySem.W.OpenRow := PySem.W.OpenLaw.row PySem.Challenge.rw_handspaces_k32_dimensions_of_words
def orderL : List Nat := ([440, 435, 428, 421, 414, 409, 404, 397, 392, 387, 382, 375, 368, 361, 354, 347, 342, 337, 330, 325, 318, 311, 304, 299] : List Nat) ++
  ([294, 287, 280, 275, 268, 263, 256, 249, 242, 231, 193, 186, 178, 170, 160, 153, 137, 130, 123, 116, 109, 102, 95, 90] : List Nat) ++
  ([83, 82, 81, 74, 73, 70, 67, 51, 31, 21, 439, 434, 427, 420, 413, 408, 403, 396, 391, 386, 381, 374, 367, 360] : List Nat) ++
  ([353, 346, 341, 336, 329, 324, 317, 310, 303, 298, 293, 286, 279, 274, 267, 262, 255, 248, 241, 230, 192, 185, 177, 169] : List Nat) ++
  ([159, 152, 146, 136, 129, 122, 115, 108, 101, 94, 89, 80, 69, 66, 50, 30, 20, 0, 438, 437, 436, 433, 432, 431] : List Nat) ++
  ([430, 429, 426, 425, 424, 423, 422, 419, 418, 417, 416, 415, 412, 411, 410, 407, 406, 405, 402, 401, 400, 399, 398, 395] : List Nat) ++
  ([394, 393, 390, 389, 388, 385, 384, 383, 380, 379, 378, 377, 376, 373, 372, 371, 370, 369, 366, 365, 364, 363, 362, 359] : List Nat) ++
  ([358, 357, 356, 355, 352, 351, 350, 349, 348, 345, 344, 343, 340, 339, 338, 335, 334, 333, 332, 331, 328, 327, 326, 323] : List Nat) ++
  ([322, 321, 320, 319, 316, 315, 314, 313, 312, 309, 308, 307, 306, 305, 302, 301, 300, 297, 296, 295, 292, 291, 290, 289] : List Nat) ++
  ([288, 285, 284, 283, 282, 281, 278, 277, 276, 273, 272, 271, 270, 269, 266, 265, 264, 261, 260, 259, 258, 257, 254, 253] : List Nat) ++
  ([252, 251, 250, 247, 246, 245, 244, 243, 240, 239, 238, 237, 236, 233, 232, 229, 228, 221, 214, 207, 200, 191, 190, 189] : List Nat) ++
  ([188, 187, 184, 183, 182, 181, 180, 179, 176, 175, 174, 173, 172, 171, 168, 167, 166, 165, 164, 162, 158, 157, 156, 155] : List Nat) ++
  ([154, 151, 150, 149, 148, 147, 145, 135, 134, 133, 132, 131, 128, 127, 126, 125, 124, 121, 120, 119, 118, 117, 114, 113] : List Nat) ++
  ([112, 111, 110, 107, 106, 105, 104, 103, 100, 99, 98, 97, 96, 93, 92, 91, 88, 87, 86, 85, 84, 79, 78, 77] : List Nat) ++
  ([76, 75, 68, 65, 64, 63, 62, 61, 49, 48, 32, 29, 19, 18, 17, 16, 15] : List Nat)
abbrev hk : PySem.W.Hook := hookL orderL fa fn ex
def ob (s : PySem.W.SharedT) : He.AlD × Bool := obsL orderL fa fn ex (HandSHeadRun.getT s)
theorem ob_eq (s : PySem.W.SharedT) : ob s = hk.obs s.abs := obsL_eq _ _ _ _ (HandSHeadRun.getT_eq s)
def loose : List Str := (["_wall", "HandError", "BadSign", "BadColumn", "HANDS", "PLANE", "KINDS", "kind_length", "LEAVES", "JOINTS", "MOST_OPEN", "fits", "leaves", "part_text", "check_text", "read_sum", "read_intersection", "read_part", "read_word", "Word", "is_within", "sum_mark", "common_mark", "letter_mark"] : List Str) ++
  (["mark", "coefficient", "coefficients", "_law_tape", "_law_pick", "_law_added", "_law_span", "_law_sum", "_law_cut", "_law_size", "_law_unit", "_law_shape", "_law_word", "_law_worth", "_law_kinds", "_law_mark", "_law_coefficient", "_law_frame", "_law_amounts", "_law_length", "_law_rows", "_law_mixed", "_law_moved", "_law_drawn"] : List Str) ++
  (["_law_vector", "_law_shapes", "_law_counted", "_law_sets"] : List Str)
set_option maxRecDepth 1000000 in
theorem runA (w : World) (os : PySem.OsState) : (HandSHeadRun.endF (HandSHeadRun.stepQ (HandSHeadRun.denQ HandSHeadRun.tabQ) R.prog w) 60000 R.prog w os).map (fun s => HandSHeadRun.looksF R.prog (PySem.W.boot_heap (w).params) s.abs) = some true := by
  kernel_rfl
set_option maxRecDepth 1000000 in
theorem runB (w : World) (os : PySem.OsState) : (HandSHeadRun.endF (HandSHeadRun.stepQ (HandSHeadRun.denQ HandSHeadRun.tabQ) R.prog w) 60000 R.prog w os).map (fun s => HandSHeadRun.seenQ (PySem.W.view R.prog [58]) loose (PySem.importedModules R.prog.main.body) (fun s => PySem.W.xlAt (PySem.W.view R.prog [58]) [] s && PySem.W.recOk R.records s) s.abs) = some (PySem.W.openGood (PySem.W.view R.prog [58]) loose) := by
  kernel_rfl
set_option maxRecDepth 1000000 in
theorem runC0 (w : World) (os : PySem.OsState) : (HandSHeadRun.endF (HandSHeadRun.stepQ (HandSHeadRun.denQ HandSHeadRun.tabQ) R.prog w) 60000 R.prog w os).map (fun s => (ob s).1) = some (hk.val w).1 := by
  kernel_rfl
set_option maxRecDepth 1000000 in
theorem runC1 (w : World) (os : PySem.OsState) : (HandSHeadRun.endF (HandSHeadRun.stepQ (HandSHeadRun.denQ HandSHeadRun.tabQ) R.prog w) 60000 R.prog w os).map (fun s => (ob s).2) = some (hk.val w).2 := by
  kernel_rfl
theorem run (w : World) : HandSHeadRun.RunEq R (PySem.W.view R.prog [58]) hk ob 60000 loose w := by
  intro os
  have h1 := runA w os
  have h2 := runB w os
  have h30 := runC0 w os
  have h31 := runC1 w os
  revert h1 h2 h30 h31
  generalize HandSHeadRun.endF (HandSHeadRun.stepQ (HandSHeadRun.denQ HandSHeadRun.tabQ) R.prog w) 60000 R.prog w os = x
  intro h1 h2 h30 h31
  cases x with
  | none => cases h1
  | some s =>
    have e1 := Option.some.inj h1
    have e2 := Option.some.inj h2
    have e3 : ob s = hk.val w := Prod.ext (Option.some.inj h30) (Option.some.inj h31)
    show some (_, _, _) = some (_, _, _)
    exact congrArg some (congr (congrArg Prod.mk e1) (congr (congrArg Prod.mk e2) e3))
end KV

set_option linter.all false
/-! # Rows modulo a prime, as the program calculates with them (plain mathematics, no Python) -/
namespace RX
def at0 (r : List Int) (i : Nat) : Int := r.getD i 0
def lead (r : List Int) : Nat := r.findIdx (fun x => x != 0)
def addR (p : Int) (r : List Int) (f : Int) (o : List Int) : List Int := List.zipWith (fun a b => (a + f * b) % p) r o
def scale (p f : Int) (r : List Int) : List Int := r.map fun x => f * x % p
def restOf (p : Int) (b : List (List Int)) (r : List Int) : List Int := b.foldl (fun r o => if at0 r (lead o) = 0 then r else addR p r (-at0 r (lead o)) o) r
def joinL (p : Int) (b : List (List Int)) (at' : Nat) (new : List Int) : List (List Int) :=
  (b.filter fun o => decide (lead o < at')).map (fun o => addR p o (-at0 o at') new) ++ new :: b.filter fun o => decide (at' < lead o)
def joined (inv : Int → Int) (p : Int) (b : List (List Int)) (r : List Int) : List (List Int) :=
  if lead (restOf p b r) = (restOf p b r).length then b
  else joinL p b (lead (restOf p b r)) (scale p (inv (at0 (restOf p b r) (lead (restOf p b r)))) (restOf p b r))
def reduced (inv : Int → Int) (p : Int) (rows : List (List Int)) : List (List Int) := rows.foldl (joined inv p) []
def Row (p : Int) (n : Nat) (r : List Int) : Prop := r.length = n ∧ ∀ x ∈ r, 0 ≤ x ∧ x < p
/-- of an inverse: it is one, and that of 1 is 1 -/
structure Inv (p : Int) (inv : Int → Int) : Prop where
  two : 2 ≤ p
  mul : ∀ x, 0 < x → x < p → inv x * x % p = 1
structure Rref (p : Int) (n : Nat) (b : List (List Int)) : Prop where
  rows : ∀ r ∈ b, Row p n r
  lt : ∀ r ∈ b, lead r < n
  one : ∀ r ∈ b, at0 r (lead r) = 1
  inc : b.Pairwise fun r s => lead r < lead s
  col : b.Pairwise fun r s => at0 r (lead s) = 0
/-! ## items -/
theorem at0_of {r : List Int} {i : Nat} (h : i < r.length) : at0 r i = r[i] := by simp [at0, List.getD, h]
theorem at0_out {r : List Int} {i : Nat} (h : r.length ≤ i) : at0 r i = 0 := by simp [at0, List.getD, h]
theorem at0_mem {r : List Int} {i : Nat} (h : i < r.length) : at0 r i ∈ r := by rw [at0_of h]; exact List.getElem_mem h
theorem at0_rep {n i : Nat} : at0 (List.replicate n 0) i = 0 := by
  by_cases h : i < n
  · rw [at0_of (by simpa using h)]; simp
  · rw [at0_out (by simpa using Nat.le_of_not_lt h)]
theorem ext0 {r s : List Int} (h : r.length = s.length) (e : ∀ i, i < r.length → at0 r i = at0 s i) : r = s := by
  refine List.ext_getElem h fun i h1 h2 => ?_
  have := e i h1
  rwa [at0_of h1, at0_of h2] at this
theorem Row.bound {p : Int} {n : Nat} {r : List Int} (h : Row p n r) (h2 : 0 < p) (i : Nat) : 0 ≤ at0 r i ∧ at0 r i < p := by
  by_cases hi : i < r.length
  · exact h.2 _ (at0_mem hi)
  · rw [at0_out (Nat.le_of_not_lt hi)]; omega
theorem Row.emod {p : Int} {n : Nat} {r : List Int} (h : Row p n r) (h2 : 0 < p) (i : Nat) : at0 r i % p = at0 r i := by
  have := h.bound h2 i
  exact Int.emod_eq_of_lt this.1 this.2
theorem addR_len {p f : Int} {n : Nat} {r o : List Int} (h : r.length = n) (h' : o.length = n) : (addR p r f o).length = n := by simp [addR, h, h']
theorem at0_addR {p f : Int} {r o : List Int} (h : r.length = o.length) (i : Nat) : at0 (addR p r f o) i = (at0 r i + f * at0 o i) % p := by
  by_cases hi : i < r.length
  · rw [at0_of (by rw [addR_len rfl h.symm]; exact hi), at0_of hi, at0_of (by omega)]
    simp [addR]
  · rw [at0_out (by rw [addR_len rfl h.symm]; omega), at0_out (by omega), at0_out (by omega)]
    simp
theorem addR_row {p f : Int} {n : Nat} {r o : List Int} (h2 : 0 < p) (h : r.length = n) (h' : o.length = n) : Row p n (addR p r f o) := by
  refine ⟨addR_len h h', fun x hx => ?_⟩
  obtain ⟨i, hi, rfl⟩ := List.mem_iff_getElem.mp hx
  rw [← at0_of hi, at0_addR (by omega)]
  exact ⟨Int.emod_nonneg _ (by omega), Int.emod_lt_of_pos _ h2⟩
theorem scale_len {p f : Int} {r : List Int} : (scale p f r).length = r.length := by simp [scale]
theorem at0_scale {p f : Int} {r : List Int} (i : Nat) : at0 (scale p f r) i = f * at0 r i % p := by
  by_cases hi : i < r.length
  · rw [at0_of (by rw [scale_len]; exact hi), at0_of hi]; simp [scale]
  · rw [at0_out (by rw [scale_len]; omega), at0_out (by omega)]; simp
theorem scale_row {p f : Int} {n : Nat} {r : List Int} (h2 : 0 < p) (h : r.length = n) : Row p n (scale p f r) := by
  refine ⟨by rw [scale_len, h], fun x hx => ?_⟩
  obtain ⟨i, hi, rfl⟩ := List.mem_iff_getElem.mp hx
  rw [← at0_of hi, at0_scale]
  exact ⟨Int.emod_nonneg _ (by omega), Int.emod_lt_of_pos _ h2⟩
/-! ## the first item other than 0 -/
theorem lead_le {r : List Int} : lead r ≤ r.length := List.findIdx_le_length
theorem lead_ne {r : List Int} (h : lead r < r.length) : at0 r (lead r) ≠ 0 := by
  rw [at0_of h]
  have k : (r[lead r] != 0) = true := List.findIdx_getElem (p := fun x : Int => x != 0) (xs := r) (w := h)
  exact bne_iff_ne.mp k
theorem lead_zero {r : List Int} {i : Nat} (h : i < lead r) : at0 r i = 0 := by
  have hl : i < r.length := Nat.lt_of_lt_of_le h lead_le
  rw [at0_of hl]
  have := List.not_of_lt_findIdx (p := fun x : Int => x != 0) (xs := r) h
  simpa using this
theorem lead_eq {r : List Int} {i : Nat} (hi : at0 r i ≠ 0) (h : ∀ j, j < i → at0 r j = 0) : lead r = i := by
  have hl : i < r.length := by
    refine Nat.lt_of_not_le fun hh => hi (at0_out hh)
  rcases Nat.lt_trichotomy (lead r) i with h1 | h1 | h1
  · exact absurd (h _ h1) (lead_ne (by omega))
  · exact h1
  · exact absurd (lead_zero h1) hi
theorem lead_out {r : List Int} (h : lead r = r.length) (i : Nat) : at0 r i = 0 := by
  by_cases hi : i < r.length
  · exact lead_zero (by omega)
  · exact at0_out (by omega)
/-! ## what a basis leaves of a row -/
theorem restOf_ok {p : Int} {n : Nat} (h2 : 0 < p) : ∀ (l : List (List Int)) (C : List Nat) (r : List Int), Row p n r → (∀ o ∈ l, Row p n o) → (∀ o ∈ l, at0 o (lead o) = 1) → (l.Pairwise fun a b => at0 b (lead a) = 0) →
    (∀ o ∈ l, ∀ c ∈ C, at0 o c = 0) → (∀ c ∈ C, at0 r c = 0) → Row p n (restOf p l r) ∧ (∀ c ∈ C, at0 (restOf p l r) c = 0) ∧ ∀ o ∈ l, at0 (restOf p l r) (lead o) = 0
  | [], C, r, hr, _, _, _, _, hc => ⟨hr, hc, fun o h => nomatch h⟩
  | o :: l, C, r, hr, hl, h1, hw, hC, hc => by
    have ho := hl o (.head _)
    have hlen : r.length = o.length := by rw [hr.1, ho.1]
    obtain ⟨hw1, hw2⟩ := List.pairwise_cons.mp hw
    obtain ⟨r', er, hr', hz, hcz⟩ : ∃ r', (if at0 r (lead o) = 0 then r else addR p r (-at0 r (lead o)) o) = r' ∧ Row p n r' ∧ at0 r' (lead o) = 0 ∧ ∀ c ∈ C, at0 r' c = 0 := by
      by_cases e : at0 r (lead o) = 0
      · exact ⟨r, if_pos e, hr, e, hc⟩
      · refine ⟨_, if_neg e, addR_row h2 hr.1 ho.1, ?_, fun c h => ?_⟩
        · rw [at0_addR hlen, h1 o (.head _), Int.mul_one, Int.add_neg_eq_sub, Int.sub_self, Int.zero_emod]
        · rw [at0_addR hlen, hC o (.head _) c h, hc c h]; simp
    have := restOf_ok h2 l (lead o :: C) r' hr' (fun a h => hl a (.tail _ h)) (fun a h => h1 a (.tail _ h)) hw2 (fun a h c hcc => by
      rcases List.mem_cons.mp hcc with rfl | hcc
      · exact hw1 a h
      · exact hC a (.tail _ h) c hcc) (fun c hcc => by
      rcases List.mem_cons.mp hcc with rfl | hcc
      · exact hz
      · exact hcz c hcc)
    have e2 : restOf p (o :: l) r = restOf p l r' := by rw [← er]; rfl
    rw [e2]
    refine ⟨this.1, fun c h => this.2.1 c (.tail _ h), fun a h => ?_⟩
    rcases List.mem_cons.mp h with rfl | h
    · exact this.2.1 _ (.head _)
    · exact this.2.2 a h
theorem restOf_id {p : Int} : ∀ (l : List (List Int)) (r : List Int), (∀ o ∈ l, at0 r (lead o) = 0) → restOf p l r = r
  | [], r, _ => rfl
  | o :: l, r, h => by
    have e : restOf p (o :: l) r = restOf p l r := by
      show restOf p l (if at0 r (lead o) = 0 then r else addR p r (-at0 r (lead o)) o) = _
      rw [if_pos (h o (.head _))]
    rw [e]
    exact restOf_id l r fun a ha => h a (.tail _ ha)
theorem Rref.pw {p : Int} {n : Nat} {b : List (List Int)} (h : Rref p n b) : b.Pairwise fun a c => at0 c (lead a) = 0 :=
  h.inc.imp fun h => lead_zero h
theorem Rref.rest {p : Int} {n : Nat} {b : List (List Int)} (h : Rref p n b) (h2 : 0 < p) {r : List Int} (hr : Row p n r) : Row p n (restOf p b r) ∧ ∀ o ∈ b, at0 (restOf p b r) (lead o) = 0 := by
  have := restOf_ok h2 b [] r hr h.rows h.one h.pw (fun _ _ c hc => nomatch hc) (fun c hc => nomatch hc)
  exact ⟨this.1, this.2.2⟩
/-! ## one more row -/
theorem joinL_ok {p : Int} {n : Nat} {b : List (List Int)} (h2 : 2 ≤ p) (h : Rref p n b) {new : List Int} (hn : Row p n new) (hl : lead new < n) (h1 : at0 new (lead new) = 1) (hz : ∀ o ∈ b, at0 new (lead o) = 0) : Rref p n (joinL p b (lead new) new) := by
  have h0 : 0 < p := by omega
  have ne : ∀ o ∈ b, lead o ≠ lead new := fun o ho e => by
    have := hz o ho
    rw [e, h1] at this
    omega
  -- of a row ahead
  have bef : ∀ o ∈ b, lead o < lead new → Row p n (addR p o (-at0 o (lead new)) new) ∧ (∀ i, at0 new i = 0 → at0 (addR p o (-at0 o (lead new)) new) i = at0 o i) ∧ at0 (addR p o (-at0 o (lead new)) new) (lead new) = 0 ∧ lead (addR p o (-at0 o (lead new)) new) = lead o := fun o ho hlt => by
    have hlen : o.length = new.length := by rw [(h.rows o ho).1, hn.1]
    have k1 : ∀ i, at0 new i = 0 → at0 (addR p o (-at0 o (lead new)) new) i = at0 o i := fun i hi => by
      rw [at0_addR hlen, hi, Int.mul_zero, Int.add_zero, (h.rows o ho).emod h0]
    refine ⟨addR_row h0 (h.rows o ho).1 hn.1, k1, ?_, lead_eq ?_ fun j hj => ?_⟩
    · rw [at0_addR hlen, h1, Int.mul_one, Int.add_neg_eq_sub, Int.sub_self, Int.zero_emod]
    · rw [k1 _ (lead_zero hlt), h.one o ho]; decide
    · rw [k1 j (lead_zero (by omega)), lead_zero hj]
  have mem : ∀ r ∈ joinL p b (lead new) new, (∃ o ∈ b, lead o < lead new ∧ r = addR p o (-at0 o (lead new)) new) ∨ r = new ∨ (r ∈ b ∧ lead new < lead r) := fun r hr => by
    rcases List.mem_append.mp hr with hr | hr
    · obtain ⟨o, ho, rfl⟩ := List.mem_map.mp hr
      have := List.mem_filter.mp ho
      exact .inl ⟨o, this.1, of_decide_eq_true this.2, rfl⟩
    · rcases List.mem_cons.mp hr with rfl | hr
      · exact .inr (.inl rfl)
      · have := List.mem_filter.mp hr
        exact .inr (.inr ⟨this.1, of_decide_eq_true this.2⟩)
  have ic : b.Pairwise fun r s => lead r < lead s ∧ at0 r (lead s) = 0 := List.pairwise_and_iff.mpr ⟨h.inc, h.col⟩
  have all : (joinL p b (lead new) new).Pairwise fun r s => lead r < lead s ∧ at0 r (lead s) = 0 := by
    refine List.pairwise_append.mpr ⟨?_, ?_, ?_⟩
    · refine List.pairwise_map.mpr ?_
      refine List.Pairwise.imp_of_mem ?_ (ic.filter _)
      intro r s hr hs ⟨e1, e2⟩
      have hr' := List.mem_filter.mp hr
      have hs' := List.mem_filter.mp hs
      obtain ⟨_, k1, _, k3⟩ := bef r hr'.1 (of_decide_eq_true hr'.2)
      obtain ⟨_, _, _, k4⟩ := bef s hs'.1 (of_decide_eq_true hs'.2)
      rw [k3, k4, k1 _ (hz s hs'.1)]
      exact ⟨e1, e2⟩
    · refine List.pairwise_cons.mpr ⟨fun s hs => ?_, ic.filter _⟩
      have hs' := List.mem_filter.mp hs
      exact ⟨of_decide_eq_true hs'.2, hz s hs'.1⟩
    · intro r hr s hs
      obtain ⟨o, ho, rfl⟩ := List.mem_map.mp hr
      have ho' := List.mem_filter.mp ho
      have ol := of_decide_eq_true ho'.2
      obtain ⟨_, k1, k2, k3⟩ := bef o ho'.1 ol
      rw [k3]
      rcases List.mem_cons.mp hs with rfl | hs
      · exact ⟨ol, k2⟩
      · have hs' := List.mem_filter.mp hs
        have sl := of_decide_eq_true hs'.2
        rw [k1 _ (hz s hs'.1)]
        have lt : lead o < lead s := Nat.lt_trans ol sl
        refine ⟨lt, ?_⟩
        -- o stands ahead of s in b
        obtain ⟨i, hi, rfl⟩ := List.mem_iff_getElem.mp ho'.1
        obtain ⟨j, hj, rfl⟩ := List.mem_iff_getElem.mp hs'.1
        rcases Nat.lt_trichotomy i j with e | e | e
        · exact List.pairwise_iff_getElem.mp h.col i j hi hj e
        · subst e; omega
        · have := List.pairwise_iff_getElem.mp h.inc j i hj hi e; omega
  obtain ⟨a1, a2⟩ := List.pairwise_and_iff.mp all
  refine ⟨fun r hr => ?_, fun r hr => ?_, fun r hr => ?_, a1, a2⟩
  · rcases mem r hr with ⟨o, ho, hlt, rfl⟩ | rfl | ⟨ho, _⟩
    · exact (bef o ho hlt).1
    · exact hn
    · exact h.rows r ho
  · rcases mem r hr with ⟨o, ho, hlt, rfl⟩ | rfl | ⟨ho, _⟩
    · rw [(bef o ho hlt).2.2.2]; exact h.lt o ho
    · exact hl
    · exact h.lt r ho
  · rcases mem r hr with ⟨o, ho, hlt, rfl⟩ | rfl | ⟨ho, _⟩
    · obtain ⟨_, k1, _, k3⟩ := bef o ho hlt
      rw [k3, k1 _ (hz o ho)]; exact h.one o ho
    · exact h1
    · exact h.one r ho
theorem new_ok {p : Int} {inv : Int → Int} (I : Inv p inv) {n : Nat} {left : List Int} (hr : Row p n left) (hl : lead left < left.length) :
    Row p n (scale p (inv (at0 left (lead left))) left) ∧ lead (scale p (inv (at0 left (lead left))) left) = lead left ∧ at0 (scale p (inv (at0 left (lead left))) left) (lead left) = 1 := by
  have h2 := I.two
  have b := hr.bound (by omega) (lead left)
  have nz := lead_ne hl
  have e : at0 (scale p (inv (at0 left (lead left))) left) (lead left) = 1 := by rw [at0_scale]; exact I.mul _ (by omega) b.2
  refine ⟨scale_row (by omega) hr.1, lead_eq (by rw [e]; decide) fun j hj => ?_, e⟩
  rw [at0_scale, lead_zero hj]; simp
theorem joined_ok {p : Int} {inv : Int → Int} (I : Inv p inv) {n : Nat} {b : List (List Int)} (h : Rref p n b) {r : List Int} (hr : Row p n r) : Rref p n (joined inv p b r) := by
  have h2 := I.two
  obtain ⟨hl, hz⟩ := h.rest (by omega) hr
  unfold joined
  by_cases e : lead (restOf p b r) = (restOf p b r).length
  · rw [if_pos e]; exact h
  · rw [if_neg e]
    have lt : lead (restOf p b r) < (restOf p b r).length := Nat.lt_of_le_of_ne lead_le e
    obtain ⟨k1, k2, k3⟩ := new_ok I hl lt
    have := joinL_ok h2 h k1 (by rw [k2]; rw [hl.1] at lt; exact lt) (by rw [k2]; exact k3) (fun o ho => by rw [at0_scale, hz o ho]; simp)
    rwa [k2] at this
theorem Rref.nil {p : Int} {n : Nat} : Rref p n [] := ⟨(fun _ h => nomatch h), (fun _ h => nomatch h), (fun _ h => nomatch h), .nil, .nil⟩
theorem fold_ok {p : Int} {inv : Int → Int} (I : Inv p inv) {n : Nat} : ∀ (rows b : List (List Int)), Rref p n b → (∀ r ∈ rows, Row p n r) → Rref p n (rows.foldl (joined inv p) b)
  | [], b, h, _ => h
  | r :: rows, b, h, hr => fold_ok I rows _ (joined_ok I h (hr r (.head _))) fun s hs => hr s (.tail _ hs)
theorem reduced_ok {p : Int} {inv : Int → Int} (I : Inv p inv) {n : Nat} {rows : List (List Int)} (hr : ∀ r ∈ rows, Row p n r) : Rref p n (reduced inv p rows) := fold_ok I rows [] .nil hr
/-! ## the reduced basis of a reduced basis is itself -/
theorem addR_zero {p : Int} {n : Nat} {r o : List Int} (h2 : 0 < p) (h : Row p n r) (h' : o.length = n) : addR p r 0 o = r := by
  refine ext0 (by rw [addR_len h.1 h', h.1]) fun i hi => ?_
  rw [at0_addR (by rw [h.1, h']), Int.zero_mul, Int.add_zero, h.emod h2]
theorem inv_one {p : Int} {inv : Int → Int} (I : Inv p inv) : inv 1 % p = 1 := by
  have := I.mul 1 (by omega) (by have := I.two; omega)
  rwa [Int.mul_one] at this
theorem scale_one {p f : Int} {n : Nat} {r : List Int} (h2 : 0 < p) (h : Row p n r) (hf : f % p = 1) : scale p f r = r := by
  refine ext0 scale_len fun i hi => ?_
  rw [at0_scale, Int.mul_emod, hf, Int.one_mul, Int.emod_emod_of_dvd _ (Int.dvd_refl p), h.emod h2]
theorem joined_last {p : Int} {inv : Int → Int} (I : Inv p inv) {n : Nat} {b : List (List Int)} {r : List Int} (h : Rref p n (b ++ [r])) : joined inv p b r = b ++ [r] := by
  have h2 := I.two
  have hr := h.rows r (by simp)
  have hrl := h.lt r (by simp)
  have inc := List.pairwise_append.mp h.inc
  have col := List.pairwise_append.mp h.col
  have e : restOf p b r = r := restOf_id b r fun o ho => lead_zero (inc.2.2 o ho r (.head _))
  unfold joined
  rw [e, if_neg (by rw [hr.1]; omega), h.one r (by simp), scale_one (by omega) hr (inv_one I)]
  unfold joinL
  have f1 : b.filter (fun o => decide (lead o < lead r)) = b := List.filter_eq_self.mpr fun o ho => decide_eq_true (inc.2.2 o ho r (.head _))
  have f2 : b.filter (fun o => decide (lead r < lead o)) = [] := List.filter_eq_nil_iff.mpr fun o ho => by
    have := inc.2.2 o ho r (.head _)
    simp only [decide_eq_true_eq]; omega
  rw [f1, f2]
  have f3 : b.map (fun o => addR p o (-at0 o (lead r)) r) = b := by
    refine (List.map_congr_left fun o ho => ?_).trans (List.map_id b)
    rw [col.2.2 o ho r (.head _), Int.neg_zero, addR_zero (by omega) (h.rows o (by simp [ho])) hr.1]
    rfl
  rw [f3]
theorem Rref.init {p : Int} {n : Nat} {b c : List (List Int)} (h : Rref p n (b ++ c)) : Rref p n b :=
  ⟨fun r hr => h.rows r (List.mem_append_left _ hr), fun r hr => h.lt r (List.mem_append_left _ hr), fun r hr => h.one r (List.mem_append_left _ hr), (List.pairwise_append.mp h.inc).1, (List.pairwise_append.mp h.col).1⟩
theorem fold_last {p : Int} {inv : Int → Int} (I : Inv p inv) {n : Nat} : ∀ (c b : List (List Int)), Rref p n (b ++ c) → c.foldl (joined inv p) b = b ++ c
  | [], b, _ => (List.append_nil b).symm
  | r :: c, b, h => by
    have e : b ++ r :: c = (b ++ [r]) ++ c := by simp
    rw [e] at h
    show c.foldl (joined inv p) (joined inv p b r) = _
    rw [joined_last I h.init, fold_last I c _ h, e]
theorem reduced_id {p : Int} {inv : Int → Int} (I : Inv p inv) {n : Nat} {b : List (List Int)} (h : Rref p n b) : reduced inv p b = b := fold_last I b [] h
end RX

set_option linter.all false
/-! # Spans of rows, counted (plain mathematics, no Python) -/
namespace RX
/-- the sums of multiples of some rows -/
inductive InS (p : Int) (n : Nat) (B : List (List Int)) : List Int → Prop
  | zero : InS p n B (List.replicate n 0)
  | add {v r : List Int} (f : Int) : InS p n B v → r ∈ B → InS p n B (addR p v f r)
def Len (n : Nat) (B : List (List Int)) : Prop := ∀ r ∈ B, r.length = n
theorem zero_row {p : Int} {n : Nat} (h : 0 < p) : Row p n (List.replicate n 0) := ⟨by simp, fun x hx => by rw [List.eq_of_mem_replicate hx]; omega⟩
theorem InS.row {p : Int} {n : Nat} {B : List (List Int)} {v : List Int} (h : 0 < p) (hB : Len n B) (i : InS p n B v) : Row p n v := by
  induction i with
  | zero => exact zero_row h
  | add f i hr ih => exact addR_row h ih.1 (hB _ hr)
theorem emod_l {p a b : Int} : (a % p + b) % p = (a + b) % p := by simp
theorem emod_m {p a f b : Int} : (a + f * (b % p)) % p = (a + f * b) % p := by
  rw [Int.add_emod, Int.mul_emod, Int.emod_emod_of_dvd _ (Int.dvd_refl p), ← Int.mul_emod, ← Int.add_emod]
theorem addR_assoc {p f g : Int} {n : Nat} {v u r : List Int} (hv : v.length = n) (hu : u.length = n) (hr : r.length = n) : addR p v f (addR p u g r) = addR p (addR p v f u) (f * g) r := by
  have l1 : (addR p u g r).length = n := addR_len hu hr
  have l2 : (addR p v f u).length = n := addR_len hv hu
  refine ext0 (by rw [addR_len hv l1, addR_len l2 hr]) fun i hi => ?_
  rw [at0_addR (by omega), at0_addR (by omega), at0_addR (by omega), at0_addR (by omega), emod_m, emod_l]
  congr 1
  rw [Int.mul_add, Int.mul_assoc, Int.add_assoc]
theorem addR_comm {p f g : Int} {n : Nat} {v u r : List Int} (hv : v.length = n) (hu : u.length = n) (hr : r.length = n) : addR p (addR p v f u) g r = addR p (addR p v g r) f u := by
  have l1 : (addR p v f u).length = n := addR_len hv hu
  have l2 : (addR p v g r).length = n := addR_len hv hr
  refine ext0 (by rw [addR_len l1 hr, addR_len l2 hu]) fun i hi => ?_
  rw [at0_addR (by omega), at0_addR (by omega), at0_addR (by omega), at0_addR (by omega), emod_l, emod_l]
  congr 1
  omega
theorem addR_two {p f g : Int} {n : Nat} {v r : List Int} (hv : v.length = n) (hr : r.length = n) : addR p (addR p v f r) g r = addR p v ((f + g) % p) r := by
  have l1 : (addR p v f r).length = n := addR_len hv hr
  refine ext0 (by rw [addR_len l1 hr, addR_len hv hr]) fun i hi => ?_
  rw [at0_addR (by omega), at0_addR (by omega), at0_addR (by omega), emod_l, Int.add_assoc, ← Int.add_mul]
  rw [Int.mul_comm ((f + g) % p), Int.mul_comm (f + g), emod_m]
theorem addR_rep {p f : Int} {n : Nat} {v : List Int} (h : 0 < p) (hv : Row p n v) : addR p v f (List.replicate n 0) = v := by
  refine ext0 (by rw [addR_len hv.1 (by simp), hv.1]) fun i hi => ?_
  rw [at0_addR (by rw [hv.1]; simp), at0_rep, Int.mul_zero, Int.add_zero, hv.emod h]
theorem InS.comb {p f : Int} {n : Nat} {B : List (List Int)} {v u : List Int} (h : 0 < p) (hB : Len n B) (i : InS p n B v) (j : InS p n B u) : InS p n B (addR p v f u) := by
  induction j with
  | zero => rw [addR_rep h (i.row h hB)]; exact i
  | add g j hr ih =>
    rw [addR_assoc (i.row h hB).1 (j.row h hB).1 (hB _ hr)]
    exact ih.add _ hr
theorem zero_add {p : Int} {n : Nat} {f : Int} {r : List Int} (hr : r.length = n) : addR p (List.replicate n 0) f r = scale p f r := by
  refine ext0 (by rw [addR_len (by simp) hr, scale_len, hr]) fun i hi => ?_
  rw [at0_addR (by rw [hr]; simp), at0_rep, at0_scale, Int.zero_add]
theorem InS.self {p : Int} {n : Nat} {B : List (List Int)} {r : List Int} (h : 2 ≤ p) (hr : Row p n r) (m : r ∈ B) : InS p n B r := by
  have := InS.add (p := p) (n := n) 1 (.zero (B := B)) m
  rwa [zero_add hr.1, scale_one (by omega) hr (Int.emod_eq_of_lt (by omega) (by omega))] at this
theorem InS.imp {p : Int} {n : Nat} {B B' : List (List Int)} {v : List Int} (h : 0 < p) (hB : Len n B') (i : InS p n B v) (k : ∀ r ∈ B, InS p n B' r) : InS p n B' v := by
  induction i with
  | zero => exact .zero
  | add f i hr ih => exact ih.comb h hB (k _ hr)
theorem InS.scale {p f : Int} {n : Nat} {B : List (List Int)} {r : List Int} (h : 0 < p) (hB : Len n B) (i : InS p n B r) : InS p n B (RX.scale p f r) := by
  rw [← zero_add (i.row h hB).1]
  exact InS.comb h hB .zero i
/-! ## what a step of the reducing does to the span -/
theorem addR_back {p f : Int} {n : Nat} {r o : List Int} (h : 0 < p) (hr : Row p n r) (ho : o.length = n) : addR p (addR p r (-f) o) f o = r := by
  rw [addR_two hr.1 ho, Int.add_left_neg, Int.zero_emod, addR_zero h hr ho]
theorem rest_in {p : Int} {n : Nat} {B : List (List Int)} (h : 0 < p) (hB : Len n B) : ∀ (l : List (List Int)) (r : List Int), (∀ o ∈ l, InS p n B o) → Row p n r → (InS p n B (restOf p l r) ↔ InS p n B r)
  | [], r, _, _ => Iff.rfl
  | o :: l, r, hl, hr => by
    have ho := hl o (.head _)
    have hol := ho.row h hB
    have hl' : ∀ a ∈ l, InS p n B a := fun a ha => hl a (.tail _ ha)
    by_cases e : at0 r (lead o) = 0
    · have e2 : restOf p (o :: l) r = restOf p l r := by
        show restOf p l (if at0 r (lead o) = 0 then r else addR p r (-at0 r (lead o)) o) = _
        rw [if_pos e]
      rw [e2]
      exact rest_in h hB l r hl' hr
    · have e2 : restOf p (o :: l) r = restOf p l (addR p r (-at0 r (lead o)) o) := by
        show restOf p l (if at0 r (lead o) = 0 then r else addR p r (-at0 r (lead o)) o) = _
        rw [if_neg e]
      rw [e2, rest_in h hB l _ hl' (addR_row h hr.1 hol.1)]
      refine ⟨fun i => ?_, fun i => i.comb h hB ho⟩
      have := i.comb (f := at0 r (lead o)) h hB ho
      rwa [addR_back h hr hol.1] at this
theorem left_back {p : Int} {inv : Int → Int} (I : Inv p inv) {n : Nat} {left : List Int} (hr : Row p n left) (hl : lead left < left.length) :
    scale p (at0 left (lead left)) (scale p (inv (at0 left (lead left))) left) = left := by
  have h2 := I.two
  have b := hr.bound (by omega) (lead left)
  have nz := lead_ne hl
  have m := I.mul _ (by omega) b.2
  refine ext0 (by rw [scale_len, scale_len]) fun i hi => ?_
  rw [at0_scale, at0_scale]
  have e := @emod_m p 0 (at0 left (lead left)) (inv (at0 left (lead left)) * at0 left i)
  rw [Int.zero_add, Int.zero_add] at e
  rw [e, ← Int.mul_assoc, Int.mul_comm (at0 left (lead left)), Int.mul_emod, m, Int.one_mul, Int.emod_emod_of_dvd _ (Int.dvd_refl p), hr.emod (by omega)]
theorem joined_in {p : Int} {inv : Int → Int} (I : Inv p inv) {n : Nat} {B b : List (List Int)} (hB : Len n B) {r : List Int} (hr : Row p n r) (hb : ∀ o ∈ b, InS p n B o) (hi : InS p n B r) : ∀ s ∈ joined inv p b r, InS p n B s := by
  have h2 := I.two
  have h0 : 0 < p := by omega
  intro s hs
  unfold joined at hs
  by_cases e : lead (restOf p b r) = (restOf p b r).length
  · rw [if_pos e] at hs; exact hb s hs
  · rw [if_neg e] at hs
    have hn := ((rest_in h0 hB b r hb hr).mpr hi).scale (f := inv (at0 (restOf p b r) (lead (restOf p b r)))) h0 hB
    rcases List.mem_append.mp hs with hs | hs
    · obtain ⟨o, ho, rfl⟩ := List.mem_map.mp hs
      exact (hb o (List.mem_filter.mp ho).1).comb h0 hB hn
    · rcases List.mem_cons.mp hs with rfl | hs
      · exact hn
      · exact hb s (List.mem_filter.mp hs).1
theorem in_joined {p : Int} {inv : Int → Int} (I : Inv p inv) {n : Nat} {b : List (List Int)} (h : Rref p n b) {r : List Int} (hr : Row p n r) : (∀ o ∈ b, InS p n (joined inv p b r) o) ∧ InS p n (joined inv p b r) r := by
  have h2 := I.two
  have h0 : 0 < p := by omega
  have J := joined_ok I h hr
  have hB : Len n (joined inv p b r) := fun s hs => (J.rows s hs).1
  obtain ⟨hl, hz⟩ := h.rest h0 hr
  have key : ∀ o ∈ b, InS p n (joined inv p b r) o := by
    intro o ho
    by_cases e : lead (restOf p b r) = (restOf p b r).length
    · have ej : joined inv p b r = b := by unfold joined; rw [if_pos e]
      rw [ej]
      exact .self h2 (h.rows o ho) ho
    · have lt : lead (restOf p b r) < (restOf p b r).length := Nat.lt_of_le_of_ne lead_le e
      have ej : joined inv p b r = joinL p b (lead (restOf p b r)) (scale p (inv (at0 (restOf p b r) (lead (restOf p b r)))) (restOf p b r)) := by unfold joined; rw [if_neg e]
      have hnew : scale p (inv (at0 (restOf p b r) (lead (restOf p b r)))) (restOf p b r) ∈ joined inv p b r := by
        rw [ej]; exact List.mem_append_right _ (.head _)
      rcases Nat.lt_trichotomy (lead o) (lead (restOf p b r)) with c | c | c
      · have ht : addR p o (-at0 o (lead (restOf p b r))) (scale p (inv (at0 (restOf p b r) (lead (restOf p b r)))) (restOf p b r)) ∈ joined inv p b r := by
          rw [ej]
          exact List.mem_append_left _ (List.mem_map.mpr ⟨o, List.mem_filter.mpr ⟨ho, decide_eq_true c⟩, rfl⟩)
        have := (InS.self h2 (J.rows _ ht) ht).add (at0 o (lead (restOf p b r))) hnew
        rwa [addR_back h0 (h.rows o ho) (J.rows _ hnew).1] at this
      · exfalso
        have := hz o ho
        rw [c] at this
        exact lead_ne lt this
      · have ht : o ∈ joined inv p b r := by
          rw [ej]
          exact List.mem_append_right _ (.tail _ (List.mem_filter.mpr ⟨ho, decide_eq_true c⟩))
        exact .self h2 (J.rows _ ht) ht
  refine ⟨key, ?_⟩
  rw [← rest_in h0 hB b r key hr]
  by_cases e : lead (restOf p b r) = (restOf p b r).length
  · have e0 : restOf p b r = List.replicate n 0 := ext0 (by rw [hl.1]; simp) fun i hi => by rw [lead_out e, at0_rep]
    rw [e0]
    exact .zero
  · have lt : lead (restOf p b r) < (restOf p b r).length := Nat.lt_of_le_of_ne lead_le e
    have ej : joined inv p b r = joinL p b (lead (restOf p b r)) (scale p (inv (at0 (restOf p b r) (lead (restOf p b r)))) (restOf p b r)) := by unfold joined; rw [if_neg e]
    have hnew : scale p (inv (at0 (restOf p b r) (lead (restOf p b r)))) (restOf p b r) ∈ joined inv p b r := by
      rw [ej]; exact List.mem_append_right _ (.head _)
    have := InS.add (p := p) (n := n) (at0 (restOf p b r) (lead (restOf p b r))) (.zero (B := joined inv p b r)) hnew
    rwa [zero_add (J.rows _ hnew).1, left_back I hl lt] at this
theorem fold_in {p : Int} {inv : Int → Int} (I : Inv p inv) {n : Nat} {B : List (List Int)} (hB : Len n B) : ∀ (rows b : List (List Int)), (∀ r ∈ rows, Row p n r) → (∀ o ∈ b, InS p n B o) → (∀ r ∈ rows, InS p n B r) → ∀ s ∈ rows.foldl (joined inv p) b, InS p n B s
  | [], b, _, hb, _ => hb
  | r :: rows, b, hr, hb, hi => fold_in I hB rows _ (fun s hs => hr s (.tail _ hs)) (joined_in I hB (hr r (.head _)) hb (hi r (.head _))) fun s hs => hi s (.tail _ hs)
theorem in_fold {p : Int} {inv : Int → Int} (I : Inv p inv) {n : Nat} : ∀ (rows b : List (List Int)), Rref p n b → (∀ r ∈ rows, Row p n r) → (∀ o ∈ b, InS p n (rows.foldl (joined inv p) b) o) ∧ ∀ r ∈ rows, InS p n (rows.foldl (joined inv p) b) r
  | [], b, h, _ => ⟨fun o ho => .self I.two (h.rows o ho) ho, (fun _ h => nomatch h)⟩
  | r :: rows, b, h, hr => by
    have h0 : 0 < p := by have := I.two; omega
    obtain ⟨k1, k2⟩ := in_joined I h (hr r (.head _))
    have J := joined_ok I h (hr r (.head _))
    obtain ⟨m1, m2⟩ := in_fold I rows _ J fun s hs => hr s (.tail _ hs)
    have hB : Len n (rows.foldl (joined inv p) (joined inv p b r)) := fun s hs => ((fold_ok I rows _ J fun s hs => hr s (.tail _ hs)).rows s hs).1
    refine ⟨fun o ho => (k1 o ho).imp h0 hB m1, fun s hs => ?_⟩
    rcases List.mem_cons.mp hs with rfl | hs
    · exact k2.imp h0 hB m1
    · exact m2 s hs
/-- the reduced basis has the same span -/
theorem reduced_span {p : Int} {inv : Int → Int} (I : Inv p inv) {n : Nat} {rows : List (List Int)} (hr : ∀ r ∈ rows, Row p n r) (v : List Int) : InS p n (reduced inv p rows) v ↔ InS p n rows v := by
  have h0 : 0 < p := by have := I.two; omega
  have hB : Len n rows := fun r h => (hr r h).1
  have R := reduced_ok I hr
  refine ⟨fun i => i.imp h0 hB (fold_in I hB rows [] hr (fun _ h => nomatch h) fun r h => .self I.two (hr r h) h), fun i => i.imp h0 (fun r h => (R.rows r h).1) (in_fold I rows [] .nil hr).2⟩
end RX

set_option linter.all false
/-! # All vectors of a span, each once; the reduced basis is the only one (plain mathematics, no Python) -/
namespace RX
/-- the sums of multiples, gone through -/
def combos (p : Int) (n : Nat) : List (List Int) → List (List Int)
  | [] => [List.replicate n 0]
  | r :: b => (combos p n b).flatMap fun v => (List.range p.toNat).map fun f : Nat => addR p v (f : Int) r
theorem combos_cons {p : Int} {n : Nat} {b : List (List Int)} {r v : List Int} : v ∈ combos p n (r :: b) ↔ ∃ w ∈ combos p n b, ∃ f : Nat, f < p.toNat ∧ v = addR p w (f : Int) r := by
  simp only [combos, List.mem_flatMap, List.mem_map, List.mem_range]
  exact ⟨fun ⟨w, hw, f, hf, e⟩ => ⟨w, hw, f, hf, e.symm⟩, fun ⟨w, hw, f, hf, e⟩ => ⟨w, hw, f, hf, e.symm⟩⟩
theorem sum_map_const {α : Type} (k : Nat) : ∀ l : List α, (l.map fun _ => k).sum = l.length * k
  | [] => by simp
  | a :: l => by rw [List.map_cons, List.sum_cons, sum_map_const k l, List.length_cons, Nat.succ_mul, Nat.add_comm]
theorem combos_length {p : Int} {n : Nat} : ∀ b : List (List Int), (combos p n b).length = p.toNat ^ b.length
  | [] => by simp [combos]
  | r :: b => by
    have ih := combos_length (p := p) (n := n) b
    simp only [combos, List.length_flatMap, List.length_map, List.length_range, List.length_cons, Nat.pow_succ, ← ih]
    exact sum_map_const _ _
theorem combos_in {p : Int} {n : Nat} : ∀ (b : List (List Int)) {v : List Int}, v ∈ combos p n b → InS p n b v
  | [], v, h => by
    rw [List.mem_singleton.mp h]
    exact .zero
  | r :: b, v, h => by
    obtain ⟨w, hw, f, _, rfl⟩ := combos_cons.mp h
    have := combos_in b hw
    have up : ∀ {u}, InS p n b u → InS p n (r :: b) u := fun i => by
      induction i with
      | zero => exact .zero
      | add f i hr ih => exact ih.add f (.tail _ hr)
    exact (up this).add _ (.head _)
theorem combos_row {p : Int} {n : Nat} {b : List (List Int)} (h : 0 < p) (hb : Len n b) {v : List Int} (hv : v ∈ combos p n b) : Row p n v := (combos_in b hv).row h hb
theorem combos_add {p : Int} {n : Nat} (h : 0 < p) : ∀ (b : List (List Int)), Len n b → ∀ {v : List Int}, v ∈ combos p n b → ∀ {s : List Int}, s ∈ b → ∀ g : Int, addR p v g s ∈ combos p n b
  | [], _, v, _, s, hs, _ => nomatch hs
  | r :: b, hb, v, hv, s, hs, g => by
    have hb' : Len n b := fun a ha => hb a (.tail _ ha)
    obtain ⟨w, hw, f, hf, rfl⟩ := combos_cons.mp hv
    have wr := combos_row h hb' hw
    have rr := hb r (.head _)
    rcases List.mem_cons.mp hs with rfl | hs
    · rw [addR_two wr.1 rr]
      have m0 := Int.emod_nonneg ((f : Int) + g) (show p ≠ 0 by omega)
      have m1 := Int.emod_lt_of_pos ((f : Int) + g) h
      refine combos_cons.mpr ⟨w, hw, (((f : Int) + g) % p).toNat, by omega, ?_⟩
      rw [Int.toNat_of_nonneg m0]
    · rw [addR_comm wr.1 rr (hb' s hs)]
      exact combos_cons.mpr ⟨_, combos_add h b hb' hw hs g, f, hf, rfl⟩
theorem combos_zero {p : Int} {n : Nat} (h : 0 < p) : ∀ (b : List (List Int)), Len n b → List.replicate n 0 ∈ combos p n b
  | [], _ => .head _
  | r :: b, hb => combos_cons.mpr ⟨_, combos_zero h b (fun a ha => hb a (.tail _ ha)), 0, by omega, by
      have := addR_zero (p := p) (o := r) h (zero_row (n := n) h) (hb r (.head _))
      exact this.symm⟩
theorem combos_iff {p : Int} {n : Nat} {b : List (List Int)} (h : 0 < p) (hb : Len n b) (v : List Int) : v ∈ combos p n b ↔ InS p n b v := by
  refine ⟨combos_in b, fun i => ?_⟩
  induction i with
  | zero => exact combos_zero h b hb
  | add f i hr ih => exact combos_add h b hb ih hr f
/-! ## over a reduced basis -/
theorem Rref.tail {p : Int} {n : Nat} {r : List Int} {b : List (List Int)} (h : Rref p n (r :: b)) : Rref p n b :=
  ⟨fun s hs => h.rows s (.tail _ hs), fun s hs => h.lt s (.tail _ hs), fun s hs => h.one s (.tail _ hs), (List.pairwise_cons.mp h.inc).2, (List.pairwise_cons.mp h.col).2⟩
theorem Rref.len {p : Int} {n : Nat} {b : List (List Int)} (h : Rref p n b) : Len n b := fun r hr => (h.rows r hr).1
/-- the sums of the rows behind have 0 up to the first row's place -/
theorem tail_zero {p : Int} {n : Nat} {c : Nat} {b : List (List Int)} (hb : Len n b) (hc : ∀ s ∈ b, ∀ i, i ≤ c → at0 s i = 0) {v : List Int} (i : InS p n b v) (h : 0 < p) : ∀ j, j ≤ c → at0 v j = 0 := by
  intro j hj
  induction i with
  | zero => exact at0_rep
  | add f i hr ih =>
    rw [at0_addR (by rw [(i.row h hb).1, hb _ hr]), ih, hc _ hr j hj]
    simp
theorem Rref.behind {p : Int} {n : Nat} {r : List Int} {b : List (List Int)} (h : Rref p n (r :: b)) (h0 : 0 < p) {v : List Int} (i : InS p n b v) : ∀ j, j ≤ lead r → at0 v j = 0 :=
  tail_zero h.tail.len (fun s hs j hj => lead_zero (Nat.lt_of_le_of_lt hj ((List.pairwise_cons.mp h.inc).1 s hs))) i h0
theorem at_first {p : Int} {n : Nat} {r : List Int} {b : List (List Int)} (h : Rref p n (r :: b)) (h0 : 0 < p) {w : List Int} (hw : InS p n b w) {f : Int} (f0 : 0 ≤ f) (f1 : f < p) : at0 (addR p w f r) (lead r) = f := by
  have wr := hw.row h0 h.tail.len
  rw [at0_addR (by rw [wr.1, (h.rows r (.head _)).1]), h.behind h0 hw _ (Nat.le_refl _), h.one r (.head _), Int.zero_add, Int.mul_one]
  exact Int.emod_eq_of_lt f0 f1
theorem combos_nodup {p : Int} {n : Nat} (h0 : 0 < p) : ∀ (b : List (List Int)), Rref p n b → (combos p n b).Nodup
  | [], _ => by simp [combos]
  | r :: b, h => by
    have ih := combos_nodup h0 b h.tail
    have hb := h.tail.len
    have rl := (h.rows r (.head _)).1
    refine List.pairwise_flatMap.mpr ⟨fun w hw => ?_, ?_⟩
    · refine List.pairwise_map.mpr (List.Pairwise.imp_of_mem ?_ List.nodup_range)
      intro f g hf hg e e2
      have hf' := List.mem_range.mp hf
      have hg' := List.mem_range.mp hg
      have k1 := at_first h h0 (combos_in b hw) (f := (f : Int)) (by omega) (by omega)
      have k2 := at_first h h0 (combos_in b hw) (f := (g : Int)) (by omega) (by omega)
      rw [e2, k2] at k1
      omega
    · refine List.Pairwise.imp_of_mem ?_ ih
      intro w u hw hu e x hx y hy e2
      obtain ⟨f, hf, rfl⟩ := List.mem_map.mp hx
      obtain ⟨g, hg, rfl⟩ := List.mem_map.mp hy
      have hf' := List.mem_range.mp hf
      have hg' := List.mem_range.mp hg
      have k1 := at_first h h0 (combos_in b hw) (f := (f : Int)) (by omega) (by omega)
      have k2 := at_first h h0 (combos_in b hu) (f := (g : Int)) (by omega) (by omega)
      rw [e2, k2] at k1
      obtain rfl : g = f := by omega
      have wr := combos_row h0 hb hw
      have ur := combos_row h0 hb hu
      have b1 := addR_two (p := p) (f := (g : Int)) (g := -(g : Int)) wr.1 rl
      have b2 := addR_two (p := p) (f := (g : Int)) (g := -(g : Int)) ur.1 rl
      rw [e2, b2, Int.add_right_neg, Int.zero_emod, addR_zero h0 ur rl, addR_zero h0 wr rl] at b1
      exact e b1.symm
/-- one that is 0 at all first places is the row of zeros -/
theorem zero_of {p : Int} {n : Nat} (h0 : 0 < p) : ∀ (b : List (List Int)), Rref p n b → ∀ v, InS p n b v → (∀ r ∈ b, at0 v (lead r) = 0) → v = List.replicate n 0
  | [], h, v, i, _ => by
    have := (combos_iff h0 h.len v).mpr i
    exact List.mem_singleton.mp this
  | r :: b, h, v, i, hz => by
    obtain ⟨w, hw, f, hf, rfl⟩ := combos_cons.mp ((combos_iff h0 h.len v).mpr i)
    have wr := combos_row h0 h.tail.len hw
    have rl := (h.rows r (.head _)).1
    have k := at_first h h0 (combos_in b hw) (f := (f : Int)) (by omega) (by omega)
    rw [hz r (.head _)] at k
    have e : addR p w (f : Int) r = w := by rw [← k]; exact addR_zero h0 wr rl
    rw [e] at hz ⊢
    exact zero_of h0 b h.tail w (combos_in b hw) fun s hs => hz s (.tail _ hs)
/-- the first place of one that is not all zeros is that of a row -/
theorem lead_in {p : Int} {n : Nat} (h0 : 0 < p) : ∀ (b : List (List Int)), Rref p n b → ∀ v, InS p n b v → v ≠ List.replicate n 0 → ∃ r ∈ b, lead v = lead r
  | [], h, v, i, ne => by
    have := (combos_iff h0 h.len v).mpr i
    exact absurd (List.mem_singleton.mp this) ne
  | r :: b, h, v, i, ne => by
    obtain ⟨w, hw, f, hf, rfl⟩ := combos_cons.mp ((combos_iff h0 h.len v).mpr i)
    have wr := combos_row h0 h.tail.len hw
    have rl := (h.rows r (.head _)).1
    have k := at_first h h0 (combos_in b hw) (f := (f : Int)) (by omega) (by omega)
    by_cases e : f = 0
    · have e2 : addR p w (f : Int) r = w := by rw [e]; exact addR_zero h0 wr rl
      rw [e2] at ne ⊢
      obtain ⟨s, hs, hl⟩ := lead_in h0 b h.tail w (combos_in b hw) ne
      exact ⟨s, .tail _ hs, hl⟩
    · refine ⟨r, .head _, lead_eq (by rw [k]; omega) fun j hj => ?_⟩
      rw [at0_addR (by rw [wr.1, rl]), h.behind h0 (combos_in b hw) j (by omega), lead_zero hj]
      simp
theorem Rref.ne_zero {p : Int} {n : Nat} {b : List (List Int)} (h : Rref p n b) {r : List Int} (hr : r ∈ b) : r ≠ List.replicate n 0 := fun e => by
  have := h.one r hr
  rw [e, at0_rep] at this
  omega
/-- at the first places of the rows, each row has 1 or 0 -/
theorem Rref.cols {p : Int} {n : Nat} {b : List (List Int)} (h : Rref p n b) {r s : List Int} (hr : r ∈ b) (hs : s ∈ b) : at0 r (lead s) = if lead r = lead s then 1 else 0 := by
  obtain ⟨i, hi, rfl⟩ := List.mem_iff_getElem.mp hr
  obtain ⟨j, hj, rfl⟩ := List.mem_iff_getElem.mp hs
  rcases Nat.lt_trichotomy i j with e | e | e
  · have l := List.pairwise_iff_getElem.mp h.inc i j hi hj e
    rw [if_neg (by omega)]
    exact List.pairwise_iff_getElem.mp h.col i j hi hj e
  · subst e
    rw [if_pos rfl]
    exact h.one _ hr
  · have l := List.pairwise_iff_getElem.mp h.inc j i hj hi e
    rw [if_neg (by omega)]
    exact lead_zero l
theorem sorted_eq : ∀ (l m : List Nat), l.Pairwise (· < ·) → m.Pairwise (· < ·) → (∀ x, x ∈ l ↔ x ∈ m) → l = m
  | [], [], _, _, _ => rfl
  | [], y :: m, _, _, h => nomatch (h y).mpr (.head _)
  | x :: l, [], _, _, h => nomatch (h x).mp (.head _)
  | x :: l, y :: m, hl, hm, h => by
    obtain ⟨l1, l2⟩ := List.pairwise_cons.mp hl
    obtain ⟨m1, m2⟩ := List.pairwise_cons.mp hm
    have exy : x = y := by
      rcases List.mem_cons.mp ((h x).mp (.head _)) with e | e
      · exact e
      · rcases List.mem_cons.mp ((h y).mpr (.head _)) with e2 | e2
        · exact e2.symm
        · have := l1 y e2; have := m1 x e; omega
    subst exy
    rw [sorted_eq l m l2 m2 fun z => ⟨fun hz => ?_, fun hz => ?_⟩]
    · rcases List.mem_cons.mp ((h z).mp (.tail _ hz)) with e | e
      · have := l1 z hz; omega
      · exact e
    · rcases List.mem_cons.mp ((h z).mpr (.tail _ hz)) with e | e
      · have := m1 z hz; omega
      · exact e
theorem Rref.same_lead {p : Int} {n : Nat} (h2 : 2 ≤ p) {b c : List (List Int)} (hb : Rref p n b) (hc : Rref p n c) (e : ∀ v, InS p n b v ↔ InS p n c v) {r s : List Int} (hr : r ∈ b) (hs : s ∈ c) (el : lead r = lead s) (ls : ∀ t ∈ b, ∃ u ∈ c, lead t = lead u) : r = s := by
  have h0 : 0 < p := by omega
  have i1 : InS p n b r := .self h2 (hb.rows r hr) hr
  have i2 : InS p n b s := (e s).mpr (.self h2 (hc.rows s hs) hs)
  have z := zero_of h0 b hb (addR p r (-1) s) (i1.comb h0 hb.len i2) fun t ht => by
    obtain ⟨u, hu, eu⟩ := ls t ht
    rw [at0_addR (by rw [(hb.rows r hr).1, (hc.rows s hs).1]), hb.cols hr ht, eu, hc.cols hs hu, ← el]
    by_cases c : lead r = lead u
    · rw [if_pos c]; simp
    · rw [if_neg c]; simp
  have := addR_back (p := p) (f := 1) h0 (hb.rows r hr) (hc.rows s hs).1
  rw [z, zero_add (hc.rows s hs).1, scale_one h0 (hc.rows s hs) (Int.emod_eq_of_lt (by omega) (by omega))] at this
  exact this.symm
/-- one span, one reduced basis -/
theorem Rref.uniq {p : Int} {n : Nat} (h2 : 2 ≤ p) {b c : List (List Int)} (hb : Rref p n b) (hc : Rref p n c) (e : ∀ v, InS p n b v ↔ InS p n c v) : b = c := by
  have h0 : 0 < p := by omega
  have l1 : ∀ t ∈ b, ∃ u ∈ c, lead t = lead u := fun t ht => lead_in h0 c hc t ((e t).mp (.self h2 (hb.rows t ht) ht)) (hb.ne_zero ht)
  have l2 : ∀ t ∈ c, ∃ u ∈ b, lead t = lead u := fun t ht => lead_in h0 b hb t ((e t).mpr (.self h2 (hc.rows t ht) ht)) (hc.ne_zero ht)
  have em : b.map lead = c.map lead := sorted_eq _ _ (List.pairwise_map.mpr hb.inc) (List.pairwise_map.mpr hc.inc) fun x => by
    simp only [List.mem_map]
    exact ⟨fun ⟨t, ht, h⟩ => (l1 t ht).elim fun u hu => ⟨u, hu.1, hu.2 ▸ h⟩, fun ⟨t, ht, h⟩ => (l2 t ht).elim fun u hu => ⟨u, hu.1, hu.2 ▸ h⟩⟩
  have len : b.length = c.length := by have := congrArg List.length em; simpa using this
  refine List.ext_getElem len fun i h1 h3 => ?_
  have ei : lead b[i] = lead c[i] := by
    have := congrArg (fun l => l[i]?) em
    simp only [List.getElem?_map, List.getElem?_eq_getElem h1, List.getElem?_eq_getElem h3, Option.map_some, Option.some.injEq] at this
    exact this
  exact hb.same_lead h2 hc e (List.getElem_mem h1) (List.getElem_mem h3) ei l1
theorem reduced_eq {p : Int} {inv : Int → Int} (I : Inv p inv) {n : Nat} {rows rows' : List (List Int)} (hr : ∀ r ∈ rows, Row p n r) (hr' : ∀ r ∈ rows', Row p n r) (e : ∀ v, InS p n rows v ↔ InS p n rows' v) : reduced inv p rows = reduced inv p rows' :=
  (reduced_ok I hr).uniq I.two (reduced_ok I hr') fun v => by rw [reduced_span I hr, reduced_span I hr', e]
/-! ## how many there are -/
theorem nodup_le {α : Type} [DecidableEq α] : ∀ (l m : List α), l.Nodup → (∀ x ∈ l, x ∈ m) → l.length ≤ m.length
  | [], m, _, _ => Nat.zero_le _
  | x :: l, m, h, s => by
    obtain ⟨h1, h2⟩ := List.nodup_cons.mp h
    have hx := s x (.head _)
    have := nodup_le l (m.erase x) h2 fun y hy => (List.mem_erase_of_ne (fun e : y = x => h1 (e ▸ hy))).mpr (s y (.tail _ hy))
    rw [List.length_erase_of_mem hx] at this
    have := List.length_pos_of_mem hx
    rw [List.length_cons]; omega
theorem nodup_len {α : Type} [DecidableEq α] {l m : List α} (hl : l.Nodup) (hm : m.Nodup) (e : ∀ x, x ∈ l ↔ x ∈ m) : l.length = m.length :=
  Nat.le_antisymm (nodup_le l m hl fun x => (e x).mp) (nodup_le m l hm fun x => (e x).mpr)
/-- a list of all vectors of a span, each once, is as long as the power of the prime says -/
theorem span_count {p : Int} {n : Nat} {b l : List (List Int)} (h0 : 0 < p) (hb : Rref p n b) (hl : l.Nodup) (e : ∀ v, v ∈ l ↔ InS p n b v) : l.length = p.toNat ^ b.length := by
  rw [← combos_length (p := p) (n := n) b]
  exact nodup_len hl (combos_nodup h0 b hb) fun v => by rw [e, combos_iff h0 hb.len]
end RX

set_option linter.all false
/-! # The spans gone through by dicts, and rows sent by a matrix (plain mathematics, no Python) -/
namespace RX
/-! ## a dict's keys, in the order in which they came -/
def ins (l : List (List Int)) (k : List Int) : List (List Int) := if k ∈ l then l else l ++ [k]
theorem mem_ins {l : List (List Int)} {k x : List Int} : x ∈ ins l k ↔ x ∈ l ∨ x = k := by
  unfold ins
  by_cases h : k ∈ l
  · rw [if_pos h]
    exact ⟨.inl, fun e => e.elim id fun e => e ▸ h⟩
  · rw [if_neg h, List.mem_append, List.mem_singleton]
theorem ins_nodup {l : List (List Int)} {k : List Int} (h : l.Nodup) : (ins l k).Nodup := by
  unfold ins
  by_cases e : k ∈ l
  · rw [if_pos e]; exact h
  · rw [if_neg e]
    refine List.pairwise_append.mpr ⟨h, List.pairwise_singleton _ _, fun a ha b hb => ?_⟩
    rw [List.mem_singleton.mp hb]
    exact fun e2 => e (e2 ▸ ha)
theorem mem_insAll {x : List Int} : ∀ (ks l : List (List Int)), x ∈ ks.foldl ins l ↔ x ∈ l ∨ x ∈ ks
  | [], l => by simp
  | k :: ks, l => by
    rw [List.foldl_cons, mem_insAll ks, mem_ins, List.mem_cons]
    exact ⟨fun h => h.elim (fun h => h.elim .inl fun h => .inr (.inl h)) fun h => .inr (.inr h), fun h => h.elim (fun h => .inl (.inl h)) fun h => h.elim (fun h => .inl (.inr h)) .inr⟩
theorem insAll_nodup : ∀ (ks l : List (List Int)), l.Nodup → (ks.foldl ins l).Nodup
  | [], _, h => h
  | k :: ks, l, h => insAll_nodup ks _ (ins_nodup h)
def growKeys (p : Int) (found : List (List Int)) (v : List Int) : List (List Int) := found.flatMap fun old => (List.range p.toNat).map fun f : Nat => addR p old (f : Int) v
def grown (p : Int) (found : List (List Int)) (v : List Int) : List (List Int) := (growKeys p found v).foldl ins []
def modR (p : Int) (r : List Int) : List Int := r.map fun x => x % p
def spanStep (p : Int) (found : List (List Int)) (r : List Int) : List (List Int) := if modR p r ∈ found then found else grown p found (modR p r)
def spanL (p : Int) (n : Nat) (rows : List (List Int)) : List (List Int) := rows.foldl (spanStep p) [List.replicate n 0]
theorem modR_len {p : Int} {r : List Int} : (modR p r).length = r.length := by simp [modR]
theorem modR_row {p : Int} {n : Nat} {r : List Int} (h : 0 < p) (hr : r.length = n) : Row p n (modR p r) := by
  refine ⟨by rw [modR_len, hr], fun x hx => ?_⟩
  obtain ⟨y, _, rfl⟩ := List.mem_map.mp hx
  exact ⟨Int.emod_nonneg _ (by omega), Int.emod_lt_of_pos _ h⟩
theorem InS.mono {p : Int} {n : Nat} {B B' : List (List Int)} {v : List Int} (i : InS p n B v) (h : ∀ r ∈ B, r ∈ B') : InS p n B' v := by
  induction i with
  | zero => exact .zero
  | add f i hr ih => exact ih.add f (h _ hr)
theorem snoc_iff {p : Int} {n : Nat} {B : List (List Int)} {v u : List Int} (h : 0 < p) (hB : Len n B) (hv : v.length = n) : InS p n (B ++ [v]) u ↔ ∃ w, InS p n B w ∧ ∃ f : Nat, f < p.toNat ∧ u = addR p w (f : Int) v := by
  have hc : Len n (v :: B) := fun r hr => by
    rcases List.mem_cons.mp hr with rfl | hr
    · exact hv
    · exact hB r hr
  have e : InS p n (B ++ [v]) u ↔ InS p n (v :: B) u := ⟨fun i => i.mono fun r hr => by
      rcases List.mem_append.mp hr with hr | hr
      · exact .tail _ hr
      · rw [List.mem_singleton.mp hr]; exact .head _, fun i => i.mono fun r hr => by
      rcases List.mem_cons.mp hr with rfl | hr
      · simp
      · simp [hr]⟩
  rw [e, ← combos_iff h hc, combos_cons]
  exact ⟨fun ⟨w, hw, k⟩ => ⟨w, combos_in B hw, k⟩, fun ⟨w, hw, k⟩ => ⟨w, (combos_iff h hB w).mpr hw, k⟩⟩
theorem mem_growKeys {p : Int} {found : List (List Int)} {v x : List Int} : x ∈ growKeys p found v ↔ ∃ w ∈ found, ∃ f : Nat, f < p.toNat ∧ x = addR p w (f : Int) v := by
  simp only [growKeys, List.mem_flatMap, List.mem_map, List.mem_range]
  exact ⟨fun ⟨w, hw, f, hf, e⟩ => ⟨w, hw, f, hf, e.symm⟩, fun ⟨w, hw, f, hf, e⟩ => ⟨w, hw, f, hf, e.symm⟩⟩
theorem spanStep_ok {p : Int} {n : Nat} {B found : List (List Int)} {r : List Int} (h : 2 ≤ p) (hB : Len n B) (hr : r.length = n) (nd : found.Nodup) (e : ∀ v, v ∈ found ↔ InS p n B v) : (spanStep p found r).Nodup ∧ ∀ v, v ∈ spanStep p found r ↔ InS p n (B ++ [modR p r]) v := by
  have h0 : 0 < p := by omega
  have rr := modR_row (p := p) h0 hr
  unfold spanStep
  by_cases c : modR p r ∈ found
  · rw [if_pos c]
    refine ⟨nd, fun v => ?_⟩
    rw [e]
    refine ⟨fun i => i.mono fun s hs => List.mem_append_left _ hs, fun i => ?_⟩
    obtain ⟨w, hw, f, _, rfl⟩ := (snoc_iff h0 hB rr.1).mp i
    exact hw.comb h0 hB ((e _).mp c)
  · rw [if_neg c]
    refine ⟨insAll_nodup _ _ List.nodup_nil, fun v => ?_⟩
    rw [snoc_iff h0 hB rr.1]
    unfold grown
    rw [mem_insAll, mem_growKeys]
    refine ⟨fun k => k.elim (fun k => nomatch k) fun ⟨w, hw, k⟩ => ⟨w, (e w).mp hw, k⟩, fun ⟨w, hw, k⟩ => .inr ⟨w, (e w).mpr hw, k⟩⟩
theorem spanFold_ok {p : Int} {n : Nat} (h : 2 ≤ p) : ∀ (rows B found : List (List Int)), Len n B → Len n rows → found.Nodup → (∀ v, v ∈ found ↔ InS p n B v) → (rows.foldl (spanStep p) found).Nodup ∧ ∀ v, v ∈ rows.foldl (spanStep p) found ↔ InS p n (B ++ rows.map (modR p)) v
  | [], B, found, _, _, nd, e => ⟨nd, fun v => by simpa using e v⟩
  | r :: rows, B, found, hB, hr, nd, e => by
    have h0 : 0 < p := by omega
    obtain ⟨k1, k2⟩ := spanStep_ok h hB (hr r (.head _)) nd e
    have := spanFold_ok h rows (B ++ [modR p r]) _ (fun s hs => by
      rcases List.mem_append.mp hs with hs | hs
      · exact hB s hs
      · rw [List.mem_singleton.mp hs, modR_len]; exact hr r (.head _)) (fun s hs => hr s (.tail _ hs)) k1 k2
    rw [List.append_assoc] at this
    exact this
/-- the dict of all sums has each vector of the span once -/
theorem spanL_ok {p : Int} {n : Nat} {rows : List (List Int)} (h : 2 ≤ p) (hr : Len n rows) : (spanL p n rows).Nodup ∧ ∀ v, v ∈ spanL p n rows ↔ InS p n (rows.map (modR p)) v := by
  have := spanFold_ok h rows [] [List.replicate n 0] (fun _ h => nomatch h) hr (List.pairwise_singleton _ _) fun v => by
    rw [List.mem_singleton]
    refine ⟨fun e => e ▸ .zero, fun i => ?_⟩
    have := (combos_iff (p := p) (n := n) (b := []) (by omega) (fun _ h => nomatch h) v).mpr i
    exact List.mem_singleton.mp this
  exact this
theorem modR_rows {p : Int} {n : Nat} {rows : List (List Int)} (h : 0 < p) (hr : Len n rows) : ∀ r ∈ rows.map (modR p), Row p n r := fun r h2 => by
  obtain ⟨s, hs, rfl⟩ := List.mem_map.mp h2
  exact modR_row h (hr s hs)
theorem spanL_rows {p : Int} {n : Nat} {rows : List (List Int)} (h : 2 ≤ p) (hr : Len n rows) : ∀ v ∈ spanL p n rows, Row p n v := fun v hv =>
  (((spanL_ok h hr).2 v).mp hv).row (by omega) fun s hs => (modR_rows (by omega) hr s hs).1
/-- .. which the space's reduced basis tells: how many, and that its rows are among them -/
theorem span_told {p : Int} {inv : Int → Int} (I : Inv p inv) {n : Nat} {rows : List (List Int)} (hr : Len n rows) :
    (spanL p n rows).length = p.toNat ^ (reduced inv p (rows.map (modR p))).length ∧ (∀ v, v ∈ spanL p n rows ↔ InS p n (reduced inv p (rows.map (modR p))) v) ∧ ∀ r ∈ reduced inv p (rows.map (modR p)), r ∈ spanL p n rows := by
  have h2 := I.two
  have R := reduced_ok I (modR_rows (p := p) (by omega) hr)
  obtain ⟨k1, k2⟩ := spanL_ok h2 hr
  have k3 : ∀ v, v ∈ spanL p n rows ↔ InS p n (reduced inv p (rows.map (modR p))) v := fun v => by rw [k2, reduced_span I (modR_rows (by omega) hr)]
  exact ⟨span_count (by omega) R k1 k3, k3, fun r h => (k3 r).mpr (.self h2 (R.rows r h) h)⟩
/-! ## a row sent by a matrix -/
def dotc : List Int → List (List Int) → Nat → Int
  | x :: v, l :: M, i => x * at0 l i + dotc v M i
  | _, _, _ => 0
def sentP (p : Int) (v : List Int) (M : List (List Int)) : List Int := (List.range v.length).map fun i => dotc v M i % p
def sentF (p : Int) : List Int → List (List Int) → List Int → List Int
  | x :: v, l :: M, acc => sentF p v M (addR p acc x l)
  | _, _, acc => acc
theorem sentP_len {p : Int} {v : List Int} {M : List (List Int)} : (sentP p v M).length = v.length := by simp [sentP]
theorem at0_sentP {p : Int} {v : List Int} {M : List (List Int)} {i : Nat} (hi : i < v.length) : at0 (sentP p v M) i = dotc v M i % p := by
  rw [at0_of (by rw [sentP_len]; exact hi)]; simp [sentP]
theorem sentP_row {p : Int} {n : Nat} {v : List Int} {M : List (List Int)} (h : 0 < p) (hv : v.length = n) : Row p n (sentP p v M) := by
  refine ⟨by rw [sentP_len, hv], fun x hx => ?_⟩
  obtain ⟨i, _, rfl⟩ := List.mem_map.mp hx
  exact ⟨Int.emod_nonneg _ (by omega), Int.emod_lt_of_pos _ h⟩
theorem sentF_ok {p : Int} {n : Nat} (h : 0 < p) : ∀ (v : List Int) (M : List (List Int)) (acc : List Int), (∀ l ∈ M, l.length = n) → Row p n acc → Row p n (sentF p v M acc) ∧ ∀ i, at0 (sentF p v M acc) i = (at0 acc i + dotc v M i) % p
  | [], M, acc, _, ha => ⟨ha, fun i => by show at0 acc i = (at0 acc i + 0) % p; rw [Int.add_zero, ha.emod h]⟩
  | x :: v, [], acc, _, ha => ⟨ha, fun i => by show at0 acc i = (at0 acc i + 0) % p; rw [Int.add_zero, ha.emod h]⟩
  | x :: v, l :: M, acc, hM, ha => by
    have hl := hM l (.head _)
    obtain ⟨k1, k2⟩ := sentF_ok h v M (addR p acc x l) (fun a ha => hM a (.tail _ ha)) (addR_row h ha.1 hl)
    refine ⟨k1, fun i => ?_⟩
    show at0 (sentF p v M (addR p acc x l)) i = (at0 acc i + (x * at0 l i + dotc v M i)) % p
    rw [k2, at0_addR (by rw [ha.1, hl]), emod_l, Int.add_assoc]
/-- gone through item by item it is the same -/
theorem sentF_eq {p : Int} {n : Nat} (h : 0 < p) {v : List Int} {M : List (List Int)} (hv : v.length = n) (hM : ∀ l ∈ M, l.length = n) : sentF p v M (List.replicate n 0) = sentP p v M := by
  obtain ⟨k1, k2⟩ := sentF_ok h v M _ hM (zero_row (n := n) h)
  refine ext0 (by rw [k1.1, sentP_len, hv]) fun i hi => ?_
  rw [k2, at0_rep, Int.zero_add, at0_sentP (by rw [k1.1] at hi; omega)]
theorem dotc_add {p f : Int} : ∀ (v u : List Int) (M : List (List Int)) (i : Nat), v.length = u.length → dotc (addR p v f u) M i % p = (dotc v M i + f * dotc u M i) % p
  | [], [], M, i, _ => by simp [addR, dotc]
  | x :: v, y :: u, [], i, _ => by simp [dotc]
  | x :: v, y :: u, l :: M, i, h => by
    have ih := dotc_add (p := p) (f := f) v u M i (by simpa using h)
    show ((x + f * y) % p * at0 l i + dotc (addR p v f u) M i) % p = ((x * at0 l i + dotc v M i) + f * (y * at0 l i + dotc u M i)) % p
    rw [Int.add_emod, ih, Int.mul_emod, Int.emod_emod_of_dvd _ (Int.dvd_refl p), ← Int.mul_emod, ← Int.add_emod]
    congr 1
    rw [Int.add_mul, Int.mul_add, Int.mul_assoc]
    omega
  | [], y :: u, M, i, h => by simp at h
  | x :: v, [], M, i, h => by simp at h
theorem sentP_add {p f : Int} {n : Nat} {v u : List Int} {M : List (List Int)} (hv : v.length = n) (hu : u.length = n) : sentP p (addR p v f u) M = addR p (sentP p v M) f (sentP p u M) := by
  have l := addR_len (p := p) (f := f) hv hu
  have l1 : (sentP p v M).length = n := by rw [sentP_len, hv]
  have l2 : (sentP p u M).length = n := by rw [sentP_len, hu]
  refine ext0 (by rw [addR_len l1 l2, sentP_len, l]) fun i hi => ?_
  rw [sentP_len, l] at hi
  rw [at0_sentP (by omega), at0_addR (by rw [sentP_len, sentP_len, hv, hu]), at0_sentP (by omega), at0_sentP (by omega), dotc_add v u M i (by omega), emod_l, emod_m]
theorem dotc_rep : ∀ (n : Nat) (M : List (List Int)) (i : Nat), dotc (List.replicate n 0) M i = 0
  | 0, M, i => by simp [dotc]
  | n + 1, [], i => by simp [List.replicate_succ, dotc]
  | n + 1, l :: M, i => by
    show 0 * at0 l i + dotc (List.replicate n 0) M i = 0
    rw [dotc_rep n M i]; simp
theorem sentP_zero {p : Int} {n : Nat} {M : List (List Int)} : sentP p (List.replicate n 0) M = List.replicate n 0 := by
  refine ext0 (by rw [sentP_len]) fun i hi => ?_
  rw [sentP_len] at hi
  rw [at0_sentP hi, dotc_rep, at0_rep]; simp
theorem sent_in {p : Int} {n : Nat} {B M : List (List Int)} {v : List Int} (h : 0 < p) (hB : Len n B) (i : InS p n B v) : InS p n (B.map fun r => sentP p r M) (sentP p v M) := by
  induction i with
  | zero => rw [sentP_zero]; exact .zero
  | add f i hr ih =>
    rw [sentP_add (i.row h hB).1 (hB _ hr)]
    exact ih.add f (List.mem_map.mpr ⟨_, hr, rfl⟩)
theorem sent_iff {p : Int} {n : Nat} {B M : List (List Int)} (h : 0 < p) (hB : Len n B) (w : List Int) : InS p n (B.map fun r => sentP p r M) w ↔ ∃ v, InS p n B v ∧ w = sentP p v M := by
  refine ⟨fun i => ?_, fun ⟨v, i, e⟩ => e ▸ sent_in h hB i⟩
  · induction i with
    | zero => exact ⟨_, .zero, sentP_zero.symm⟩
    | add f i hr ih =>
      obtain ⟨v, iv, rfl⟩ := ih
      obtain ⟨r, hb, rfl⟩ := List.mem_map.mp hr
      exact ⟨_, iv.add f hb, (sentP_add (iv.row h hB).1 (hB r hb)).symm⟩
/-- the image of a space, told by the dict of all that is sent -/
theorem image_told {p : Int} {inv : Int → Int} (I : Inv p inv) {n : Nat} {rows M l : List (List Int)} (hr : Len n rows) (hl : l.Nodup) (e : ∀ w, w ∈ l ↔ ∃ v ∈ spanL p n rows, w = sentP p v M) :
    l.length = p.toNat ^ (reduced inv p ((reduced inv p (rows.map (modR p))).map fun r => sentP p r M)).length ∧ ∀ r ∈ reduced inv p ((reduced inv p (rows.map (modR p))).map fun r => sentP p r M), r ∈ l := by
  have h2 := I.two
  have R := reduced_ok I (modR_rows (p := p) (by omega) hr)
  have hs : ∀ r ∈ (reduced inv p (rows.map (modR p))).map fun r => sentP p r M, Row p n r := fun r h => by
    obtain ⟨s, hs, rfl⟩ := List.mem_map.mp h
    exact sentP_row (by omega) (R.rows s hs).1
  have S := reduced_ok I hs
  have k : ∀ w, w ∈ l ↔ InS p n (reduced inv p ((reduced inv p (rows.map (modR p))).map fun r => sentP p r M)) w := fun w => by
    rw [reduced_span I hs, sent_iff (by omega) R.len, e]
    exact ⟨fun ⟨v, hv, h⟩ => ⟨v, ((span_told I hr).2.1 v).mp hv, h⟩, fun ⟨v, hv, h⟩ => ⟨v, ((span_told I hr).2.1 v).mpr hv, h⟩⟩
  exact ⟨span_count (by omega) S hl k, fun r h => (k r).mpr (.self h2 (S.rows r h) h)⟩
end RX

set_option Elab.async false
set_option linter.all false
set_option maxRecDepth 100000
set_option maxHeartbeats 4000000
/-! # for i, x in enumerate(a tuple) -/
namespace VX
open PySem PySem.Spec PyProof.Rows L2
theorem mts_enumT {v : Value} {ob : Obj} {Hs : Heap → Prop} (B : Begins v ob Hs) :
    Meets (Builtin.«enumerate.__new__» ⟨[.type "enumerate", v], []⟩) (fun _ R s => Hs s.heap ∧
      R (.ok (.ret (.ref (s.heap.push ob).objs.size))) { s with heap := (s.heap.push ob).push { cls := .type "enumerate", data := .fields #[.none, .bool false, .ref s.heap.objs.size, rawInt 0, .none, .none] } }) :=
  .of_wp fun prog w A R s hs => by
    obtain ⟨hp, gg, dd, tt, oo⟩ := s
    obtain ⟨k1, k2⟩ := hs
    have sub := sub_enumerate
    have itr : ∀ {B' : Around} {E' : Value → Shared → Prop} {Q' : Value → Shared → Prop}, Q' (.ref hp.objs.size) ⟨hp.push ob, gg, dd, tt, oo⟩ → wpAny (model prog w) B' (pyIter v) Q' E' ⟨hp, gg, dd, tt, oo⟩ :=
      fun q => B.iter prog w _ _ ⟨hp, gg, dd, tt, oo⟩ _ k1 q
    wp_walk using itr
    refine wpAny_stack_any fun fr => wpAny_pure ?_
    split
    · rename_i cl _ _ _ _ _
      cases (cl == Value.type "enumerate") <;>
      · wp_walk using itr
        exact ⟨_, rfl, k2⟩
    · wp_walk using itr
      exact ⟨_, rfl, k2⟩
section
variable {prog : Program} {w : World} {A : Around} {E : Value → Shared → Prop} {s : Shared}
theorem enumT_new {v : Value} {ob : Obj} {Hs : Heap → Prop} {Q : Value → Shared → Prop} (B : Begins v ob Hs) (hs : Hs s.heap)
    (hQ : ∀ h', IsEnum h' (s.heap.objs.size + 1) s.heap.objs.size 0 .none → h'.get? s.heap.objs.size = some ob → (∀ b u, s.heap.get? b = some u → h'.get? b = some u) → Q (.ref (s.heap.objs.size + 1)) { s with heap := h' }) :
    wpAny (model prog w) A (call (.type "enumerate") [v]) Q E s := by
  refine callType_new F.called_enumerate (by decide) (F.typeCall_enumerate_1 _) (F.newCall_enumerate_1 _) (fun x => F.args_object_init_2 x _) F.entry_enumerate_new (mts_enumT B) ⟨hs, ?_⟩
  have sz : (s.heap.push ob).objs.size = s.heap.objs.size + 1 := Heap.size_push ..
  show _ ∧ _
  rw [sz]
  have ie : IsEnum ((s.heap.push ob).push { cls := .type "enumerate", data := .fields #[.none, .bool false, .ref s.heap.objs.size, rawInt 0, .none, .none] }) (s.heap.objs.size + 1) s.heap.objs.size 0 .none := by
    have k := Heap.get?_push_size (s.heap.push ob) (o := { cls := .type "enumerate", data := .fields #[.none, .bool false, .ref s.heap.objs.size, rawInt 0, .none, .none] }) rfl
    rwa [sz] at k
  exact ⟨⟨_, ie, rfl⟩, hQ _ ie (Heap.get?_push_of_some _ (Heap.get?_push_size _ B.free)) fun b u q => Heap.get?_push_of_some _ (Heap.get?_push_of_some _ q)⟩
end
/-- the tuple at a as it stands at each turn, each item in a new pair -/
def IteT (K : PySem.W.Frag) (a : Addr) : It :=
  ⟨fun i H => ∃ (xs : List V) (x : V), SqT K H a xs ∧ xs[i]? = some x, fun i H v H' => ∃ T x, v = .ref T ∧ H T = none ∧ H' = upd H T (.tup [.int (i : Nat), x]) ∧ ∀ xs, SqT K H a xs → xs[i]? = some x, fun i H => ∃ xs : List V, SqT K H a xs ∧ xs.length = i⟩
structure EnT (h : Heap) (e j a : Addr) (i : Nat) : Prop where
  en : ∃ old, IsEnum h e j ((i : Nat) : Int) old
  hj : h.IsTupleIter j a i
  ei : e ≠ j
  ea : e ≠ a
  ai : a ≠ j
theorem turn_enumT {P : Program} {w : World} {K : PySem.W.Frag} {elts : List Expr} {kk : Nat} {tpos : Pos} (a e it : Addr) :
    Turn P w K (.Tuple elts kk tpos) (IteT K a) [e, it] e (fun i h => EnT h e it a i) where
  mem := by simp
  obj := fun i h st b hb => by
    obtain ⟨⟨old, he⟩, ⟨o, ho, _, hd⟩, _⟩ := st
    rcases (by simpa using hb : b = e ∨ b = it) with rfl | rfl
    · exact ⟨_, he, fun v q => nomatch q⟩
    · exact ⟨o, ho, fun v q => by rw [hd] at q; cases q⟩
  keep := fun i h h' st k => by
    obtain ⟨⟨old, he⟩, hi, n1, n2, n3⟩ := st
    exact ⟨⟨old, k e (by simp) _ he⟩, hi.at fun o q => k it (by simp) o q, n1, n2, n3⟩
  item := by
    intro X hP hw hK hc i pins s σ H E I hf st hg
    subst hP hw hK
    obtain ⟨⟨old, he⟩, hit, n1, n2, n3⟩ := st
    obtain ⟨xs, x, hq, hx⟩ := hg
    obtain ⟨its, rv, tp, _⟩ := I.tuple hq
    obtain ⟨u, hu, ru⟩ := rv.get hx
    have el : e < s.heap.objs.size := Heap.lt_size he
    have il : it < s.heap.objs.size := by obtain ⟨_, q, _⟩ := hit; exact Heap.lt_size q
    have hlt : i < its.toArray.size := by
      have := (List.getElem?_eq_some_iff.mp hu).1
      simpa using this
    refine wpAny_pyNext_enum_itemD (Draws.tuple (prog := X.prog) (w := X.w) (A := X.A.in1) (I.ok.hd hc) it a n3 its.toArray) he ⟨hit, tp⟩ hlt n1 (by simp [n1, n2]) fun y h' tk hy ho hst hT _ hk => ?_
    have ey : y = u := by
      have h1 : its.toArray[i]? = some y := hy
      have h2 : its.toArray[i]? = some u := by simpa using hu
      rw [h1] at h2
      exact Option.some.inj h2
    subst ey
    refine ⟨_, rfl, wpAny_letOwnedTupleGo_enum (s := { s with heap := h', toks := tk + 1 }) ho fun h2 he2 sb => ?_⟩
    have hT2 : h2.get? s.heap.objs.size = some { cls := .type "tuple", data := .seq #[.int i tk, y] } := (sb.2 _ (Nat.ne_of_gt el)).trans hT
    have new : ObjOk X.prog X.w (upd H s.heap.objs.size (.tup [.int (i : Nat), x])) h2 s.heap.objs.size (.tup [.int (i : Nat), x]) :=
      ⟨by show 2 ≤ sizeLine; decide, [.int i tk, y], .cons ⟨_, rfl⟩ (.cons ru .nil), ⟨_, hT2, rfl, _, rfl⟩⟩
    have I1 : Inv X pins σ (upd H s.heap.objs.size (.tup [.int (i : Nat), x])) { s with heap := h2, toks := tk + 1 } :=
      I.turnedNew (ch := [e, it]) (fun b ob hb q => (sb.2 b fun z => hb (by simp [z])).trans (hk b ob (fun z => hb (by simp [z])) (fun z => hb (by simp [z])) q)) hf (Nat.le_refl _) new
    refine ⟨.ref s.heap.objs.size, _, I1, rfl, ⟨_, x, rfl, I.hok.fresh (Nat.le_refl _), rfl, fun ys hy => by rw [I.tuple_inj hy hq]; exact hx⟩, ⟨⟨y, ?_⟩, hst.1.at fun o q => (sb.2 it (Ne.symm n1)).trans q, n1, n2, n3⟩, fun b hb => ?_⟩
    · rw [show ((i + 1 : Nat) : Int) = (i : Int) + 1 by omega]
      exact he2
    · have lt : b < s.heap.objs.size := by
        rcases (by simpa using hb : b = e ∨ b = it) with rfl | rfl
        · exact el
        · exact il
      rw [upd_ne (Nat.ne_of_lt lt)]
      exact (hf b hb).1
  done := by
    intro X hP hw hK hc i pins s σ H E I hf st hg
    subst hP hw hK
    obtain ⟨⟨old, he⟩, hit, n1, n2, n3⟩ := st
    obtain ⟨xs, hq, hx⟩ := hg
    obtain ⟨its, rv, tp, _⟩ := I.tuple hq
    obtain ⟨f0, f1, f2, f3, f4, f5⟩ := hf it (by simp)
    have ln := rv.length
    have es : i = its.toArray.size := by simp; omega
    subst es
    exact wpAny_pyNext_enum_endD (Draws.tuple (prog := X.prog) (w := X.w) (A := X.A.in1) (I.ok.hd hc) it a n3 its.toArray) he ⟨hit, tp⟩ fun h' eb => ⟨rfl, I.turned (t' := s.toks) (fun b o hb q => eb b o hb q) f0 f1 f3 f4 f5⟩
  self := fun A i s Q E st h => let ⟨_, he⟩ := st.en; wpAny_pyIter_enum he h
def iEnumT (K : PySem.W.Frag) (ta : TA) : TI := fun σ H R => ta σ H fun vs H1 => ∃ a xs, vs = [.ref a] ∧ SqT K H1 a xs ∧ R (IteT K a) H1
theorem pi_enumT {X : Cx} {e : Expr} {ta : TA} {p pos tpos : Pos} {elts : List Expr} {kk : Nat} (hg : Gl X "enumerate") (hm : X.mg "enumerate" = none) (ha : PA X [e] ta) (st : starEach [e] X.env = [(false, eval e X.env)] := by rfl) :
    PI X (.Tuple elts kk tpos) (.Call (.Name "enumerate" p) [e] [] pos) (iEnumT X.K ta) := by
  refine ⟨fun pins s σ H R I h => ?_⟩
  refine Call_ (ld_blt I hg hm boot_enumerate (PyProof.Rows.callWith_type1 (thn (ha.run pos pins s σ H _ I h) fun us s1 ⟨vs, H1, I1, r1, q1⟩ => ?_) st rfl))
  obtain ⟨a, xs, ex, hq, q⟩ := q1
  subst ex
  cases r1 with
  | cons r rr =>
    cases rr
    cases r
    obtain ⟨its, rv, tp, _⟩ := I1.tuple hq
    have al : a < s1.heap.objs.size := by obtain ⟨_, z, _⟩ := id tp; exact Heap.lt_size z
    refine enumT_new (begins_tuple a its.toArray) tp fun h' he ht hk => wpAny_pyIter_enum he ?_
    have I2 : Inv X pins σ H1 { s1 with heap := h' } := I1.kept (t' := s1.toks) hk
    refine ⟨s1.heap.objs.size + 1, [s1.heap.objs.size + 1, s1.heap.objs.size], _, _, H1, rfl, I2, turn_enumT a (s1.heap.objs.size + 1) s1.heap.objs.size, ⟨⟨.none, he⟩, ⟨_, ht, rfl, rfl⟩, Nat.succ_ne_self _, Nat.ne_of_gt (Nat.lt_succ_of_lt al), Nat.ne_of_lt al⟩, fun b hb => ?_, q⟩
    have le : s1.heap.objs.size ≤ b := by
      rcases (by simpa using hb : b = s1.heap.objs.size + 1 ∨ b = s1.heap.objs.size) with z | z
      · rw [z]; exact Nat.le_add_right _ _
      · rw [z]; exact Nat.le_refl _
    exact I1.fpOk le (I1.hok.fresh le)
theorem walk_enumT {K : PySem.W.Frag} {a : Addr} {xs : List V} : Walk (IteT K a) xs.length (fun H => SqT K H a xs) (YPair (fun i => some (.int (i : Nat))) (fun i => xs[i]?)) := by
  refine ⟨fun i _ hi q => ⟨xs, xs[i], q, by simp [hi]⟩, fun _ q => ⟨xs, q, rfl⟩, fun i H v H' _ q y => ?_⟩
  obtain ⟨T, x, k1, k2, k3, k4⟩ := y
  exact ⟨T, .int (i : Nat), x, k1, k2, k3, rfl, k4 xs q⟩
end VX

set_option Elab.async false
set_option linter.all false
set_option maxRecDepth 100000
set_option maxHeartbeats 4000000
/-! # C.m(..) of a classmethod within a try -/
namespace VX
open PySem PySem.Spec PyProof.Rows L2 ClX
section
variable {X : Cx} {pins : List (Addr × Obj)} {σ : L2.St} {H : Hp} {s : Shared}
theorem run_fnRS {CX : CXT} {k : Nat} {f : Addr} {sp : Sp} {E : XK} {Q : VK} {us : List Value} {vs : List V} (F : FnR X.prog X.w X.K X.mg X.base CX k f sp) (hr : Room k X.A) (hx : PassesAt CX X σ E) (I : L2.Inv X pins σ H s) (r : Vals vs us) (h : sp vs H Q E) :
    codeAny (model X.prog X.w) X.A (.call (.ref f) ⟨us, []⟩) (fun r s' => match r with | .ok (.ret v) => EP X pins σ Q v s' | .ok _ => False | .error e => X.xe e s') s := by
  refine codeAny_mono (F X.A X.stack s H us vs Q E hr I.env0 r h) fun r s' hq => ?_
  cases r with
  | error e => exact hx pins H s e s' I hq
  | ok fl =>
    cases fl with
    | ret u => exact I.after hq
    | next => exact False.elim hq
    | brk => exact False.elim hq
    | cont => exact False.elim hq
theorem run_cmS {CX : CXT} {k : Nat} {C g q : Addr} {sp : Sp} {E : XK} {Q : VK} {us : List Value} {vs : List V} (F : FnR X.prog X.w X.K X.mg X.base CX k g sp) (hr : Room k X.A) (hx : PassesAt CX X σ E) (I : L2.Inv X ((q, PySem.W.methodObj (.ref g) (.ref C)) :: pins) σ H s)
    (r : Vals vs us) (h : sp (.ref C :: vs) H Q E) : wpAny (model X.prog X.w) X.A (call (.ref q) us) (EP X pins σ Q) X.xe s := by
  have z : wpAny (model X.prog X.w) X.A (call (.ref q) us) (EP X ((q, PySem.W.methodObj (.ref g) (.ref C)) :: pins) σ Q) X.xe s :=
    wpAny_call (PySem.W.method_call (pin_at I) (run_fnRS (us := .ref C :: us) (vs := .ref C :: vs) F hr hx I (.cons rfl r) h))
  exact thn z fun _ _ y => unpinE y
end
def tCMethS (C : Addr) (sp : Sp) (E : L2.St → XK) (ta : TE) (t : TA) : TE := fun σ H Q => ta σ H fun x H1 => x = .ref C ∧ t σ H1 fun vs H2 => sp (.ref C :: vs) H2 Q (E σ)
theorem pe_cmethS {X : Cx} {CX : CXT} {k : Nat} {C p g : Addr} {mc : Value} {sp : Sp} {E : L2.St → XK} {o e : Expr} {es : List Expr} {m : Str} {pos apos : Pos} {ta : TE} {t : TA} {pl : Sem Bool} (he : PE X o ta) (r : CRead X.K C mc) (c : CMet X.K C mc m p g) (F : FnR X.prog X.w X.K X.mg X.base CX k g sp) (hr : Room k X.A) (hx : ∀ σ, PassesAt CX X σ (E σ)) (ha : PA X (e :: es) t)
    (hst : starEach (e :: es) X.env = (false, eval e X.env) :: starEach es X.env := by rfl) (hpl : (backTo pos (starEach es X.env)).any (·.1) = false := by rfl)
    (ht : eval (.Call (.Attribute o m apos) (e :: es) [] pos) X.env = (do
      let ov ← eval o X.env
      standAt apos.atName
      let (f, first) ← holding [ov] (getMethod ov m pl)
      callWith pos f first (backTo pos (starEach (e :: es) X.env)) (backToKw pos (keywordEach [] X.env))) := by rfl) :
    PE X (.Call (.Attribute o m apos) (e :: es) [] pos) (tCMethS C sp E ta t) := by
  refine ⟨fun pins s σ H Q I h => ?_⟩
  refine PySem.W.methodCall_KW (pl := pl) (thn (he.run pins s σ H _ I h) fun u s1 ⟨x, H1, I1, rx, ex, q⟩ => ?_) ht
  subst ex
  obtain rfl : u = Value.ref C := rx
  refine getmethcm_ok I1 r c fun s2 I2 => ?_
  refine callwith_cm I2 (base_none I1 (Nat.le_refl _)) c.fi (thn (ha.run pos _ s2 σ H1 _ I2 q) fun us s3 ⟨vs, H2, I3, rv, q2⟩ => ⟨⟨pin_at I3, I3.kIn⟩, ?_⟩) hst hpl
  exact run_cmS F hr (hx σ) I3 rv q2
theorem yes_if {σ : L2.St} {H : Hp} {A B : Hp → Prop} (h : A H) : tYes σ H fun b H3 => if b = true then A H3 else B H3 := by
  show if true = true then A H else B H
  rw [if_pos rfl]
  exact h
theorem no_if {σ : L2.St} {H : Hp} {A : Hp → Prop} (h : A H) : tYes σ H fun b H3 => b = true → A H3 := fun _ => h
/-- a list that grows outside of what stood -/
theorem Same.grow {H H3 : Hp} {D : Addr} {o : HO} (s : Same H H3) (hD : H D = none) : Same H (upd H3 D o) := fun b u q => by
  rw [upd_ne (ne_of_none q hD)]
  exact s b u q
theorem take_more {α β : Type} {g : α → β} {xs : List α} {i : Nat} {x : α} (h : xs[i]? = some x) : (xs.take (i + 1)).map g = (xs.take i).map g ++ [g x] := by
  rw [List.take_succ, h, List.map_append]
  rfl
theorem take_one {α : Type} {xs : List α} {i : Nat} {x : α} (h : xs[i]? = some x) : xs.take (i + 1) = xs.take i ++ [x] := by
  rw [List.take_succ, h]
  rfl
/-! ### a text times an int; an item of a displayed list, drawn -/
theorem op_mulS {X : Cx} : OpR X (binaryOp .Mult) (fun x y H Q => ∃ a n, x = .str a ∧ y = .int n ∧ a.length ≤ 1000 ∧ 0 ≤ n ∧ n ≤ 1000 ∧ Q (.str (Txt.mul a n)) H) := by
  intro pins s σ H x y v u Q I rx ry h
  obtain ⟨a, n, rfl, rfl, ha, h0, h1, q⟩ := h
  obtain ⟨t, rfl⟩ := rx
  obtain ⟨t', rfl⟩ := ry
  have hp : (a.length : Int) * n ≤ 1000000 := by
    have := Int.mul_le_mul (show (a.length : Int) ≤ 1000 by omega) h1 h0 (by decide)
    omega
  refine SB.mul ⟨?_, fun h2 _ h3 => ?_, fun h2 _ => ?_⟩ fun t' k => ⟨.str (Txt.mul a n), H, I.tok _, ⟨t', rfl⟩, q⟩
  · rw [decide_eq_false (by omega), decide_eq_false (by omega)]; rfl
  · have h5 : (1000 : Int) ≤ (2 ^ 63 - 1) / n := by
      rw [Int.le_ediv_iff_mul_le (by omega)]
      omega
    omega
  · have h6 : a.length * n.toNat ≤ 1000000 := by
      have e : ((a.length * n.toNat : Nat) : Int) = (a.length : Int) * n := by rw [Int.natCast_mul, Int.toNat_of_nonneg h0]
      omega
    have h7 : (1000000 : Nat) ≤ sizeLine := by decide
    exact decide_eq_false (by show ¬ a.length * n.toNat > sizeLine; omega)
theorem pick_use {K : PySem.W.Frag} {H : Hp} {b l0 : Addr} {N : Nat} {m : Int} {vs : List V} {Q : VK} {E : XK} (h : BoxK H b N) (hl : H l0 = none) (hN : N ≤ 900000) (hm : (vs.length : Int) = m) (m0 : 0 < m) (m1 : m ≤ 1000)
    (k : ∀ v H', v ∈ vs → Kept b H H' → BoxK H' b (N + 1) → Q v H') : spTake [.ref b, .int m] (upd H l0 (.lst vs)) (fun y H2 => rIxL K (.ref l0) y H2 Q) E := by
  have n0 : l0 ≠ b := fun e => by obtain ⟨xs, hx⟩ := h.at; rw [e, hx] at hl; cases hl
  refine take_use (h.same (same_new hl)) hN m0 (by omega) fun d H1 d0 d1 kp bx _ => ?_
  obtain ⟨v, hv, hm⟩ := atI_ex (xs := vs) d0 (by omega)
  exact ⟨l0, vs, d, v, rfl, rfl, SqL.of (kp _ _ upd_same n0), hv, k v H1 hm ((Kept.of (same_new hl)).trans kp) bx⟩
end VX

set_option Elab.async false
set_option linter.all false
set_option maxRecDepth 100000
set_option maxHeartbeats 4000000
/-! # f(g = u), f(g = u, h = v), f(h = v, g = u) -/
namespace VX
open PySem PySem.Spec PyProof.Rows L2
theorem pe_kcall1 {X : Cx} {CX : CXT} {x g : Str} {f : Addr} {k : Nat} {fd : FuncData} {sp : Sp} {E : XK} {p k1 pos : Pos} {e1 : Expr} {tk : TA} (F : FnOk X.prog X.w X.K X.mg X.base CX k f fd [g] sp) (hr : Room k X.A) (hg : Gl X x) (hm : X.mg x = some (.ref f)) (hk : PySem.W.keepIn X.K (.ref f) = true)
    (hb : ∀ (s : Shared) (u : Value), BindsTo s fd ⟨[], [(g, u)]⟩ [(g, u)]) (hx : Passes CX X E) (ha : PK X [⟨some g, e1, k1⟩] tk) (hdb : (x == ("__debug__" : Str)) = false := by decide)
    (hpl : ((backTo pos (starEach [] X.env)).any (·.1) || (backToKw pos (keywordEach [⟨some g, e1, k1⟩] X.env)).any (·.1.isNone)) = false := by rfl)
    (hall : (backToKw pos (keywordEach [⟨some g, e1, k1⟩] X.env)).all (·.1.isSome) = true := by rfl) (hks : (backToKw pos (keywordEach [⟨some g, e1, k1⟩] X.env)).filterMap (·.1) = [g] := by rfl) :
    PE X (.Call (.Name x p) [] [⟨some g, e1, k1⟩] pos) (fun σ H Q => tk σ H fun zs H1 => zs.length = 1 ∧ sp zs H1 Q E) := by
  refine ⟨fun pins s σ H Q I q0 => wpAny_Call_Name_kw (ld_glob I hg hm ?_ hdb)⟩
  refine PySem.W.callWith_KW0 (h₀ := X.base) I.ok.mod.kin hk hall ?_ hpl
  refine thn (ha.run pos pins s σ H _ I q0) fun ws s1 ⟨zs, H1, I1, rz, l1, q⟩ => ⟨I1.kIn, ?_⟩
  rw [hks]
  obtain ⟨z1, rfl⟩ : ∃ z1, zs = [z1] := by
    match zs, l1 with
    | [a], _ => exact ⟨a, rfl⟩
  obtain ⟨u1, rfl, r1⟩ := vals1 rz
  show wpAny _ _ (call (.ref f) [] [(g, u1)]) _ _ _
  refine wpAny_call (codeAny_mono (F.run X.A X.stack s1 H1 ⟨[], [(g, u1)]⟩ [u1] [z1] Q E hr I1.env0 (hb s1 u1) (.cons r1 .nil) q) fun r s' hq => ?_)
  match r, hq with
  | .ok (.ret u), hq => exact I1.after hq
  | .error er, hq => exact hx pins σ H1 s1 er s' I1 hq
/-- the keywords' order, the parameters' order: o says whether they are the same -/
theorem pe_kcall2 {X : Cx} {CX : CXT} {x g h a b : Str} {f : Addr} {k : Nat} {fd : FuncData} {sp : Sp} {E : XK} {p k1 k2 pos : Pos} {e1 e2 : Expr} {tk : TA} (o : Bool) (F : FnOk X.prog X.w X.K X.mg X.base CX k f fd [g, h] sp) (hr : Room k X.A) (hg : Gl X x) (hm : X.mg x = some (.ref f)) (hk : PySem.W.keepIn X.K (.ref f) = true)
    (hb : ∀ (s : Shared) (u v : Value), BindsTo s fd ⟨[], [(a, u), (b, v)]⟩ (if o = true then [(g, u), (h, v)] else [(g, v), (h, u)])) (hx : Passes CX X E) (ha : PK X [⟨some a, e1, k1⟩, ⟨some b, e2, k2⟩] tk) (hdb : (x == ("__debug__" : Str)) = false := by decide)
    (hpl : ((backTo pos (starEach [] X.env)).any (·.1) || (backToKw pos (keywordEach [⟨some a, e1, k1⟩, ⟨some b, e2, k2⟩] X.env)).any (·.1.isNone)) = false := by rfl)
    (hall : (backToKw pos (keywordEach [⟨some a, e1, k1⟩, ⟨some b, e2, k2⟩] X.env)).all (·.1.isSome) = true := by rfl) (hks : (backToKw pos (keywordEach [⟨some a, e1, k1⟩, ⟨some b, e2, k2⟩] X.env)).filterMap (·.1) = [a, b] := by rfl) :
    PE X (.Call (.Name x p) [] [⟨some a, e1, k1⟩, ⟨some b, e2, k2⟩] pos) (fun σ H Q => tk σ H fun zs H1 => ∃ z1 z2, zs = [z1, z2] ∧ sp (if o = true then [z1, z2] else [z2, z1]) H1 Q E) := by
  refine ⟨fun pins s σ H Q I q0 => wpAny_Call_Name_kw (ld_glob I hg hm ?_ hdb)⟩
  refine PySem.W.callWith_KW0 (h₀ := X.base) I.ok.mod.kin hk hall ?_ hpl
  refine thn (ha.run pos pins s σ H _ I q0) fun ws s1 ⟨zs, H1, I1, rz, z1, z2, ez, q⟩ => ⟨I1.kIn, ?_⟩
  subst ez
  rw [hks]
  obtain ⟨u1, u2, rfl, r1, r2⟩ := vals2 rz
  show wpAny _ _ (call (.ref f) [] [(a, u1), (b, u2)]) _ _ _
  cases o with
  | true =>
    refine wpAny_call (codeAny_mono (F.run X.A X.stack s1 H1 ⟨[], [(a, u1), (b, u2)]⟩ [u1, u2] [z1, z2] Q E hr I1.env0 (hb s1 u1 u2) (.cons r1 (.cons r2 .nil)) q) fun r s' hq => ?_)
    match r, hq with
    | .ok (.ret u), hq => exact I1.after hq
    | .error er, hq => exact hx pins σ H1 s1 er s' I1 hq
  | false =>
    refine wpAny_call (codeAny_mono (F.run X.A X.stack s1 H1 ⟨[], [(a, u1), (b, u2)]⟩ [u2, u1] [z2, z1] Q E hr I1.env0 (hb s1 u1 u2) (.cons r2 (.cons r1 .nil)) q) fun r s' hq => ?_)
    match r, hq with
    | .ok (.ret u), hq => exact I1.after hq
    | .error er, hq => exact hx pins σ H1 s1 er s' I1 hq
end VX

set_option Elab.async false
set_option linter.all false
set_option maxRecDepth 100000
set_option maxHeartbeats 4000000
/-! # a walk with any body: for the loops of a comprehension with two for -/
namespace VX
open PySem PySem.Spec PyProof.Rows L2
theorem loop_it {J : It} {n : Nat} {G : Hp → Prop} {Y : Nat → Hp → V → Hp → Prop} (w : Walk J n G Y) {B : V → Hp → (Hp → Prop) → Prop} {H0 : Hp} {Qd : Hp → Prop} (Pv : Nat → Hp → Prop) (h0 : Pv 0 H0) (hG : ∀ i H, i ≤ n → Pv i H → G H)
    (hs : ∀ i x H H', i < n → Pv i H → Y i H x H' → B x H' (Pv (i + 1))) (hd : ∀ H, Pv n H → Qd H) :
    ∃ W : Nat → Nat → Hp → Prop, (∃ m, W 0 m H0) ∧ ∀ i m H, W i m H →
      (J.stop i H ∧ Qd H) ∨ (J.go i H ∧ ∃ Nx : Hp → Prop, (∀ H', Nx H' → ∃ m', m' < m ∧ W (i + 1) m' H') ∧ ∀ x H', J.yld i H x H' → B x H' Nx) := by
  refine ⟨fun i m H => m = n - i ∧ i ≤ n ∧ Pv i H, ⟨n, by simp, Nat.zero_le _, h0⟩, ?_⟩
  rintro i m H ⟨rfl, hi, p⟩
  have q := hG i H hi p
  by_cases hlt : i < n
  · refine .inr ⟨w.goes i H hlt q, Pv (i + 1), fun H' p' => ⟨n - (i + 1), by omega, rfl, hlt, p'⟩, fun x H' y => hs i x H H' hlt p (w.yields i H x H' hlt q y)⟩
  · have e : i = n := by omega
    subst e
    exact .inl ⟨w.stops H q, hd H p⟩
/-- a statement, what holds behind it named -/
def sCut (t : TS) : TS := fun D σ H => ∃ Pv : L2.St → Hp → Prop, t { D with nx := Pv } σ H ∧ ∀ σ' H', Pv σ' H' → D.nx σ' H'
theorem ps_cut {X : Cx} {st : Stmt} {t : TS} (h : PS X st t) : PS X st (sCut t) := by
  refine ⟨fun pins s σ H D I ⟨Pv, q, k⟩ => wpAny_mono (h.run pins s σ H { D with nx := Pv } I q) (fun f s1 z => ?_) fun _ _ z => z⟩
  cases f with
  | next => obtain ⟨σ', H', J, z⟩ := z; exact ⟨σ', H', J, k _ _ z⟩
  | brk => exact z
  | cont => exact z
  | ret u => exact z
def tCut (t : TE) : TE := fun σ H Q => ∃ Pv : V → Hp → Prop, t σ H Pv ∧ ∀ v H', Pv v H' → Q v H'
theorem pe_cut {X : Cx} {e : Expr} {t : TE} (h : PE X e t) : PE X e (tCut t) := by
  refine ⟨fun pins s σ H Q I ⟨Pv, q, k⟩ => wpAny_mono (h.run pins s σ H Pv I q) (fun v s1 z => ?_) fun _ _ z => z⟩
  obtain ⟨x, H', J, r, z⟩ := z
  exact ⟨x, H', J, r, k _ _ z⟩
end VX

set_option Elab.async false
set_option linter.all false
set_option maxRecDepth 100000
set_option maxHeartbeats 4000000
/-! # o.m(..) within a try; o.m(.., k = v) -/
namespace VX
open PySem PySem.Spec PyProof.Rows L2
section
variable {X : Cx} {CX : CXT} {k n : Nat} {f C : Addr} {fd : FuncData} {ps ks : List Str} {sp : Sp} {E : XK} {m : Str} {pos apos : Pos} {o e : Expr} {es : List Expr} {kws : List Keyword} {ta : TE} {t tk : TA} {g : List Value → List Value → List Value} {gV : List V → List V → List V}
def tMethT (C : Addr) (m : Str) (sp : Sp) (E : L2.St → XK) (ta : TE) (t : TA) : TE := fun σ H Q => ta σ H fun x H1 => ∃ a dx fs, x = .ref a ∧ H1 a = some (.ins C dx fs) ∧ fs.lookup m = none ∧ t σ H1 fun vs H2 => sp (x :: vs) H2 Q (E σ)
theorem pe_methT {pl : Sem Bool} {E : L2.St → XK} (he : PE X o ta) (c : Cls X.K C) (hm : Meth X.K C m f) (F : FnOk X.prog X.w X.K X.mg X.base CX k f fd ps sp) (hr : Room k X.A) (hb : Binds X.K fd ps []) (hx : ∀ σ, PassesAt CX X σ (E σ)) (ha : PA X (e :: es) t)
    (hst : starEach (e :: es) X.env = (false, eval e X.env) :: starEach es X.env := by rfl) (hpl : (backTo pos (starEach es X.env)).any (·.1) = false := by rfl)
    (ht : eval (.Call (.Attribute o m apos) (e :: es) [] pos) X.env = (do
      let ov ← eval o X.env
      standAt apos.atName
      let (f, first) ← holding [ov] (getMethod ov m pl)
      callWith pos f first (backTo pos (starEach (e :: es) X.env)) (backToKw pos (keywordEach [] X.env))) := by rfl) :
    PE X (.Call (.Attribute o m apos) (e :: es) [] pos) (tMethT C m sp E ta t) := by
  refine ⟨fun pins s σ H Q I h => ?_⟩
  refine PySem.W.methodCall_KW (pl := pl) (thn (he.run pins s σ H _ I h) fun u s1 ⟨x, H1, I1, rx, a, dx, fs, ex, ea, l, q⟩ => ?_) ht
  subst ex
  obtain rfl : u = Value.ref a := rx
  refine getmeth_ok I1 ea c hm l ?_
  refine PySem.W.callWith_K (first := [.ref a]) (h₀ := X.base) I.ok.mod.kin hm.kp (thn (ha.run pos pins s1 σ H1 _ I1 q) fun us s2 ⟨vs, H2, I2, r, q2⟩ => ⟨I2.kIn, ?_⟩) hst hpl
  exact run_fnS (us := .ref a :: us) (vs := .ref a :: vs) F hr hb (hx σ) I2 (.cons rfl r) q2
def tMethN (C : Addr) (m : Str) (n l : Nat) (sp : Sp) (gV : List V → List V → List V) (E : XK) (ta : TE) (t tk : TA) : TE := fun σ H Q => ta σ H fun x H1 => ∃ a dx fs, x = .ref a ∧ H1 a = some (.ins C dx fs) ∧ fs.lookup m = none ∧
  t σ H1 fun vs H2 => tk σ H2 fun zs H3 => vs.length = n ∧ zs.length = l ∧ sp (gV (x :: vs) zs) H3 Q E
/-- o.m(e, .., k = v, ..) -/
theorem pe_methN {pl : Sem Bool} (he : PE X o ta) (c : Cls X.K C) (hm : Meth X.K C m f) (F : FnOk X.prog X.w X.K X.mg X.base CX k f fd ps sp) (hr : Room k X.A) (hb : KBn X.K fd ps (n + 1) ks g gV) (hx : Passes CX X E) (ha : PA X (e :: es) t) (hkw : PK X kws tk)
    (hall : (backToKw pos (keywordEach kws X.env)).all (·.1.isSome) = true := by rfl) (hks : (backToKw pos (keywordEach kws X.env)).filterMap (·.1) = ks := by rfl)
    (hst : starEach (e :: es) X.env = (false, eval e X.env) :: starEach es X.env := by rfl) (hpl : ((backTo pos (starEach (e :: es) X.env)).any (·.1) || (backToKw pos (keywordEach kws X.env)).any (·.1.isNone)) = false := by rfl)
    (ht : eval (.Call (.Attribute o m apos) (e :: es) kws pos) X.env = (do
      let ov ← eval o X.env
      standAt apos.atName
      let (f, first) ← holding [ov] (getMethod ov m pl)
      callWith pos f first (backTo pos (starEach (e :: es) X.env)) (backToKw pos (keywordEach kws X.env))) := by rfl) :
    PE X (.Call (.Attribute o m apos) (e :: es) kws pos) (tMethN C m n ks.length sp gV E ta t tk) := by
  refine ⟨fun pins s σ H Q I h => ?_⟩
  refine PySem.W.methodCall_KW (pl := pl) (thn (he.run pins s σ H _ I h) fun u s1 ⟨x, H1, I1, rx, a, dx, fs, ex, ea, l, q⟩ => ?_) ht
  subst ex
  obtain rfl : u = Value.ref a := rx
  refine getmeth_ok I1 ea c hm l ?_
  refine PySem.W.callWith_KW (first := [.ref a]) (h₀ := X.base) I.ok.mod.kin hm.kp hall (thn (ha.run pos pins s1 σ H1 _ I1 q) fun us s2 ⟨vs, H2, I2, r, q2⟩ => ?_) hpl hst
  refine thn (hkw.run pos pins s2 σ H2 _ I2 q2) fun ws s3 ⟨zs, H3, I3, rz, l1, l2, q3⟩ => ⟨I3.kIn, ?_⟩
  rw [hks]
  exact run_fnN (us := .ref a :: us) (vs := .ref a :: vs) F hr hb hx I3 (.cons rfl r) rz (by rw [List.length_cons, l1]) l2 q3
/-- o.m(k = v, ..) -/
theorem pe_methN0 {pl : Sem Bool} (he : PE X o ta) (c : Cls X.K C) (hm : Meth X.K C m f) (F : FnOk X.prog X.w X.K X.mg X.base CX k f fd ps sp) (hr : Room k X.A) (hb : KBn X.K fd ps 1 ks g gV) (hx : Passes CX X E) (hkw : PK X kws tk)
    (hall : (backToKw pos (keywordEach kws X.env)).all (·.1.isSome) = true := by rfl) (hks : (backToKw pos (keywordEach kws X.env)).filterMap (·.1) = ks := by rfl)
    (hpl : ((backTo pos (starEach [] X.env)).any (·.1) || (backToKw pos (keywordEach kws X.env)).any (·.1.isNone)) = false := by rfl)
    (ht : eval (.Call (.Attribute o m apos) [] kws pos) X.env = (do
      let ov ← eval o X.env
      standAt apos.atName
      let (f, first) ← holding [ov] (getMethod ov m pl)
      callWith pos f first (backTo pos (starEach [] X.env)) (backToKw pos (keywordEach kws X.env))) := by rfl) :
    PE X (.Call (.Attribute o m apos) [] kws pos) (tMethN C m 0 ks.length sp gV E ta tNil tk) := by
  refine ⟨fun pins s σ H Q I h => ?_⟩
  refine PySem.W.methodCall_KW (pl := pl) (thn (he.run pins s σ H _ I h) fun u s1 ⟨x, H1, I1, rx, a, dx, fs, ex, ea, l, q⟩ => ?_) ht
  subst ex
  obtain rfl : u = Value.ref a := rx
  refine getmeth_ok I1 ea c hm l ?_
  refine PySem.W.callWith_KW0 (first := [.ref a]) (h₀ := X.base) I.ok.mod.kin hm.kp hall ?_ hpl
  refine thn (hkw.run pos pins s1 σ H1 _ I1 q) fun ws s3 ⟨zs, H3, I3, rz, l1, l2, q3⟩ => ⟨I3.kIn, ?_⟩
  rw [hks]
  exact run_fnN (us := [.ref a]) (vs := [.ref a]) F hr hb hx I3 (.cons rfl .nil) rz (by rfl) l2 q3
end
end VX
namespace VX
open PySem PySem.Spec PyProof.Rows L2
/-! ### rules whose reading names K, not X.K: for a comprehension's element -/
section
variable {X : Cx} {e : Expr} {f : Str} {pos : Pos} {ta : TE}
theorem pe_fldK (K : PySem.W.Frag) (he : PE X e ta) (hb : attributeBase e f X.env (eval e X.env) = eval e X.env) (hK : X.K = K := by rfl) : PE X (.Attribute e f pos) (tFld K ta f) := by
  subst hK
  exact pe_fld he hb
def rLenS (K : PySem.W.Frag) : List V → Hp → VK → Prop := fun xs H Q => ∃ p ys, xs = [.ref p] ∧ (SqL K H p ys ∨ SqT K H p ys) ∧ Q (.int ys.length) H
theorem call_lenK (K : PySem.W.Frag) (hK : X.K = K := by rfl) : CallR X (.builtin "len") (rLenS K) := by
  subst hK
  exact call_len_seq
theorem op_inK (K : PySem.W.Frag) (hK : X.K = K := by rfl) : OpR X (compareOp .In) (rIn K false) := by
  subst hK
  exact op_in_seq
theorem op_notInK (K : PySem.W.Frag) (hK : X.K = K := by rfl) : OpR X (compareOp .NotIn) (rIn K true) := by
  subst hK
  exact op_notIn_seq
end
end VX
namespace VX
open PySem PySem.Spec PyProof.Rows L2
/-- tuple(e) of a list or a tuple, as one word -/
structure RTup (K : PySem.W.Frag) (vs : List V) (H : Hp) (Q : VK) : Prop where
  h : ∃ p ys, vs = [.ref p] ∧ ((SqL K H p ys ∧ ∀ l, H l = none → Q (.ref l) (upd H l (.tup ys))) ∨ (SqT K H p ys ∧ Q (.ref p) H))
theorem call_tupK {X : Cx} (K : PySem.W.Frag) (hK : X.K = K := by rfl) : CallR X (.type "tuple") (RTup K) := by
  subst hK
  intro pins s σ H xs us Q I r h
  exact call_tuple_of pins s σ H xs us Q I r h.h
theorem sqT_same {K : PySem.W.Frag} {H H' : Hp} {a : Addr} {xs : List V} (s : Same H H') (h : SqT K H a xs) : SqT K H' a xs := by
  rcases h with (h | ⟨o, h⟩) | h
  · exact .inl (.inl (s _ _ h))
  · exact .inl (.inr ⟨o, s _ _ h⟩)
  · exact .inr h
theorem sqL_same {K : PySem.W.Frag} {H H' : Hp} {a : Addr} {xs : List V} (s : Same H H') (h : SqL K H a xs) : SqL K H' a xs := by
  rcases h with (h | ⟨o, h⟩) | h
  · exact .inl (.inl (s _ _ h))
  · exact .inl (.inr ⟨o, s _ _ h⟩)
  · exact .inr h
theorem tup_use {K : PySem.W.Frag} {H : Hp} {a : Addr} {vs : List V} {Q : VK} (h : SqL K H a vs ∨ SqT K H a vs) (k : ∀ t H', Same H H' → SqT K H' t vs → Q (.ref t) H') : RTup K [.ref a] H Q :=
  ⟨a, vs, rfl, h.elim (fun h => .inl ⟨h, fun l hl => k _ _ (same_new hl) (SqT.of upd_same)⟩) (fun h => .inr ⟨h, k _ _ (Same.refl _) h⟩)⟩
end VX

set_option Elab.async false
set_option linter.all false
set_option maxRecDepth 100000
set_option maxHeartbeats 4000000
/-! # == and != of lists of flat things -/
namespace VX
open PySem PySem.Spec PyProof.Rows L2
def eqLV : List V → List V → Bool
  | [], [] => true
  | x :: xs, y :: ys => eqV x y && eqLV xs ys
  | _, _ => false
def eF (xs ys : List V) (j : Nat) : Bool := match xs[j]?, ys[j]? with
  | some x, some y => eqV x y
  | _, _ => true
theorem eF_all : ∀ {xs ys : List V}, xs.length = ys.length → (List.range xs.length).all (eF xs ys) = eqLV xs ys
  | [], [], _ => rfl
  | x :: xs, y :: ys, h => by
    rw [List.length_cons, List.range_succ_eq_map, List.all_cons, List.all_map]
    have ih := eF_all (xs := xs) (ys := ys) (by simpa using h)
    show (eqV x y && (List.range xs.length).all (eF (x :: xs) (y :: ys) ∘ Nat.succ)) = (eqV x y && eqLV xs ys)
    rw [← ih]
    rfl
theorem eqLV_len : ∀ {xs ys : List V}, xs.length ≠ ys.length → eqLV xs ys = false
  | [], [], h => absurd rfl h
  | [], _ :: _, _ => rfl
  | _ :: _, [], _ => rfl
  | x :: xs, y :: ys, h => by
    show (eqV x y && eqLV xs ys) = false
    rw [eqLV_len (by simpa using h), Bool.and_false]
theorem eqLV_nil : ∀ xs : List V, eqLV xs [] = xs.isEmpty
  | [] => rfl
  | _ :: _ => rfl
theorem flat_at {A : Around} {s : Shared} : ∀ {xs ys : List V} {us ws : List Value}, Vals xs us → Vals ys ws → xs.all flatV = true → ys.all flatV = true → ∀ j (h1 : j < us.length) (h2 : j < ws.length), SeqAt.EqAt A s us[j] ws[j] (eF xs ys j)
  | [], _, _, _, .nil, _, _, _, j, h1, _ => absurd h1 (Nat.not_lt_zero j)
  | _ :: _, [], _, _, _, .nil, _, _, j, _, h2 => absurd h2 (Nat.not_lt_zero j)
  | x :: xs, y :: ys, _, _, .cons a b, .cons a' b', f, f', 0, _, _ => by
    rw [List.all_cons, Bool.and_eq_true] at f f'
    exact eqAt_V a a' f.1 f'.1
  | x :: xs, y :: ys, _, _, .cons a b, .cons a' b', f, f', j + 1, h1, h2 => by
    rw [List.all_cons, Bool.and_eq_true] at f f'
    exact flat_at b b' f.2 f'.2 j (Nat.lt_of_succ_lt_succ h1) (Nat.lt_of_succ_lt_succ h2)
def rEqF (K : PySem.W.Frag) (b : Bool) : R2 := fun x y H Q => ∃ p q xs ys, x = .ref p ∧ y = .ref q ∧ SqL K H p xs ∧ SqL K H q ys ∧ xs.all flatV = true ∧ ys.all flatV = true ∧ Q (.bl (if b = true then eqLV xs ys else !eqLV xs ys)) H
theorem op_eqF {X : Cx} (K : PySem.W.Frag) (hu : X.A.units < cLine) (hK : X.K = K := by rfl) : OpR X (compareOp .Eq) (rEqF K true) := by
  subst hK
  intro pins s σ H x y v u Q I rx ry h
  obtain ⟨p, q, xs, ys, rfl, rfl, hp, hq, fx, fy, hQ⟩ := h
  cases (show v = Value.ref p from rx)
  cases (show u = Value.ref q from ry)
  obtain ⟨us, r1, p1, _⟩ := I.list hp
  obtain ⟨ws, r2, p2, _⟩ := I.list hq
  by_cases hl : xs.length = ys.length
  · have hsz : us.toArray.size = ws.toArray.size := by
      rw [List.size_toArray, List.size_toArray, ← r1.length, ← r2.length, hl]
    refine SeqAt.RcAt.lists (e := eF xs ys) p1.isList p2.isList hsz hu (fun j h1 h2 => ?_) _ _ _ _ ?_
    · have k := flat_at (A := X.A.in1) (s := s) r1 r2 fx fy j (by simpa using h1) (by simpa using h2)
      simpa using k
    · rw [show us.toArray.size = xs.length by rw [List.size_toArray, ← r1.length], eF_all hl]
      exact ⟨.bl _, H, I, rfl, hQ⟩
  · refine SeqAt.RcAt.lists_lengths p1.isList p2.isList (by rw [List.size_toArray, List.size_toArray, ← r1.length, ← r2.length]; simpa using hl) hu _ _ _ _ ?_
    rw [if_pos rfl, eqLV_len hl] at hQ
    exact ⟨.bl false, H, I, rfl, hQ⟩
theorem op_neF {X : Cx} (K : PySem.W.Frag) (hu : X.A.units < cLine) (hK : X.K = K := by rfl) : OpR X (compareOp .NotEq) (rEqF K false) := by
  subst hK
  intro pins s σ H x y v u Q I rx ry h
  obtain ⟨p, q, xs, ys, rfl, rfl, hp, hq, fx, fy, hQ⟩ := h
  cases (show v = Value.ref p from rx)
  cases (show u = Value.ref q from ry)
  obtain ⟨us, r1, p1, _⟩ := I.list hp
  obtain ⟨ws, r2, p2, _⟩ := I.list hq
  rw [if_neg Bool.false_ne_true] at hQ
  by_cases hl : xs.length = ys.length
  · have hsz : us.toArray.size = ws.toArray.size := by
      rw [List.size_toArray, List.size_toArray, ← r1.length, ← r2.length, hl]
    refine SeqAt.RcNeAt.lists (e := eF xs ys) p1.isList p2.isList hsz hu (fun j h1 h2 => ?_) _ _ _ _ ?_
    · have k := flat_at (A := X.A.in1) (s := s) r1 r2 fx fy j (by simpa using h1) (by simpa using h2)
      simpa using k
    · rw [show us.toArray.size = xs.length by rw [List.size_toArray, ← r1.length], eF_all hl]
      exact ⟨.bl _, H, I, rfl, hQ⟩
  · refine SeqAt.RcNeAt.lists_lengths p1.isList p2.isList (by rw [List.size_toArray, List.size_toArray, ← r1.length, ← r2.length]; simpa using hl) hu _ _ _ _ ?_
    rw [eqLV_len hl] at hQ
    exact ⟨.bl true, H, I, rfl, hQ⟩
theorem eqLV_strs : ∀ {a b : List Str}, eqLV (a.map V.str) (b.map V.str) = decide (a = b)
  | [], [] => rfl
  | [], _ :: _ => rfl
  | _ :: _, [] => rfl
  | x :: a, y :: b => by
    show ((x == y) && eqLV (a.map V.str) (b.map V.str)) = _
    rw [eqLV_strs, Bool.eq_iff_iff]
    simp
end VX
namespace VX
open PySem PySem.Spec PyProof.Rows L2
/-- a list == [] -/
def rEqN (K : PySem.W.Frag) (b : Bool) : R2 := fun x y H Q => ∃ p q xs, x = .ref p ∧ y = .ref q ∧ SqL K H p xs ∧ SqL K H q [] ∧ Q (.bl (if b = true then xs.isEmpty else !xs.isEmpty)) H
theorem op_eqN {X : Cx} (K : PySem.W.Frag) (hu : X.A.units < cLine) (hK : X.K = K := by rfl) : OpR X (compareOp .Eq) (rEqN K true) := by
  subst hK
  intro pins s σ H x y v u Q I rx ry h
  obtain ⟨p, q, xs, rfl, rfl, hp, hq, hQ⟩ := h
  cases (show v = Value.ref p from rx)
  cases (show u = Value.ref q from ry)
  obtain ⟨us, r1, p1, _⟩ := I.list hp
  obtain ⟨ws, r2, p2, _⟩ := I.list hq
  cases r2
  cases xs with
  | nil =>
    cases r1
    refine SeqAt.RcAt.lists (e := fun _ => true) p1.isList p2.isList rfl hu (fun j h1 h2 => absurd h1 (Nat.not_lt_zero j)) _ _ _ _ ?_
    exact ⟨.bl true, H, I, rfl, hQ⟩
  | cons x xs =>
    cases r1
    refine SeqAt.RcAt.lists_lengths p1.isList p2.isList (by simp) hu _ _ _ _ ?_
    exact ⟨.bl false, H, I, rfl, hQ⟩
theorem op_neN {X : Cx} (K : PySem.W.Frag) (hu : X.A.units < cLine) (hK : X.K = K := by rfl) : OpR X (compareOp .NotEq) (rEqN K false) := by
  subst hK
  intro pins s σ H x y v u Q I rx ry h
  obtain ⟨p, q, xs, rfl, rfl, hp, hq, hQ⟩ := h
  cases (show v = Value.ref p from rx)
  cases (show u = Value.ref q from ry)
  obtain ⟨us, r1, p1, _⟩ := I.list hp
  obtain ⟨ws, r2, p2, _⟩ := I.list hq
  cases r2
  cases xs with
  | nil =>
    cases r1
    refine SeqAt.RcNeAt.lists (e := fun _ => true) p1.isList p2.isList rfl hu (fun j h1 h2 => absurd h1 (Nat.not_lt_zero j)) _ _ _ _ ?_
    exact ⟨.bl false, H, I, rfl, hQ⟩
  | cons x xs =>
    cases r1
    refine SeqAt.RcNeAt.lists_lengths p1.isList p2.isList (by simp) hu _ _ _ _ ?_
    exact ⟨.bl true, H, I, rfl, hQ⟩
end VX

set_option Elab.async false
set_option linter.all false
set_option maxRecDepth 100000
set_option maxHeartbeats 4000000
/-! # d == 'text' -/
namespace PySem.SeqAt
open PySem PySem.Spec
section
variable {A : Around} {s : Shared}
theorem dict_eq_declines_str (l : Addr) (b : Str) (u : Tok) :
    Meets (Builtin.«dict.__eq__» ⟨[.ref l, .str b u], []⟩) (fun _ R s => s.TypeIs (.ref l) "dict" ∧ R (.ok (.ret .notImplemented)) s) :=
  .of_wp fun prog w A R s h => by
    obtain ⟨hl, h⟩ := h
    show wpAny _ _ (Builtin.Dict.dictSlotArgs "__eq__" ⟨[.ref l, .str b u], []⟩ >>= _) _ _ s
    refine wpAny_bind ?_
    unfold Builtin.Dict.dictSlotArgs
    refine wpAny_bind (wpAny_notOrdered_dict hl ?_)
    show wpAny _ _ (pure (Value.ref l, Value.str b u)) _ _ s
    refine wpAny_pure ?_
    refine wpAny_bind (wpAny_isInstance (T := "str") (U := "dict") (typeIs_str s b u) PySem.F.sub_str_dict ?_)
    simp only [Bool.not_false, if_true]
    refine wpAny_bind (wpAny_rule ?_)
    exact wpAny_pure ⟨_, rfl, h⟩
theorem str_eq_declines_ref (b : Str) (u : Tok) (l : Addr) (c : Value) (dd : Option Addr) (es : Array DictEntry) (ep : Nat) (sl : Array (Option Value)) :
    Meets (Builtin.«str.__eq__» ⟨[.str b u, .ref l], []⟩) (fun _ R s => s.heap.get? l = some { cls := c, dict := dd, data := .dict es ep, slots := sl } ∧ R (.ok (.ret .notImplemented)) s) :=
  .of_wp fun prog w A R s h => by obtain ⟨hp, g, d, tk, os⟩ := s; obtain ⟨hl, h⟩ := h; wp_walk using AutoSeq1.wpAny_loadPart' hl, wpAny_load hl; exact ⟨_, rfl, h⟩
theorem RcAt.dict_str {l : Addr} (b : Str) (u : Tok) (hl : s.TypeIs (.ref l) "dict") (hd : ∃ o es ep, s.heap.get? l = some o ∧ o.data = .dict es ep) (hu : A.units < cLine) : RcAt A s (.ref l) (.str b u) false := fun prog w E Q h => by
  obtain ⟨⟨c, dd, dt, sl⟩, es, ep, ho, hc⟩ := hd
  simp only at hc
  subst hc
  exact rc_eq_decline_or (k := false) hl (typeIs_str s b u) (by decide) F.sub_str_dict F.slot_dict_eq F.slot_str_eq_refl
    (fun _ hq => call_meets F.slot_dict_eq hl F.entry_dict_eq (F.args_dict_eq_2 _ _) (dict_eq_declines_str l b u) ⟨hl, hq⟩)
    (fun _ hq => call_meets F.slot_str_eq_refl (typeIs_str s b u) F.entry_str_eq (F.args_str_eq_2 _ _) (str_eq_declines_ref b u l c dd es ep sl) ⟨ho, hq⟩)
    (fun _ hq => wpAny_of_eq (rfl : isSame (.ref l) (.str b u) = pure false) hq) (.inr hu) h
end
end PySem.SeqAt
namespace VX
open PySem PySem.Spec PyProof.Rows L2
/-- e == 'text' where e is None, a text, a number, a dict or a tuple -/
def rEqS (K : PySem.W.Frag) : R2 := fun x y H Q => ∃ z, y = .str z ∧ ((scal x y = true ∧ Q (.bl (decide (x = y))) H) ∨ (∃ a kvs, x = .ref a ∧ H a = some (.dK kvs) ∧ Q (.bl false) H) ∨ (∃ a xs, x = .ref a ∧ SqT K H a xs ∧ Q (.bl false) H))
theorem op_eqS {X : Cx} (K : PySem.W.Frag) (hu : X.A.units < cLine) (hK : X.K = K := by rfl) : OpR X (compareOp .Eq) (rEqS K) := by
  subst hK
  intro pins s σ H x y v u Q I rx ry h
  obtain ⟨z, rfl, h⟩ := h
  rcases h with h | ⟨a, kvs, rfl, ha, q⟩ | ⟨a, xs, rfl, ha, q⟩
  · exact op_eq pins s σ H x (.str z) v u Q I rx ry h
  · obtain ⟨t, rfl⟩ := ry
    obtain rfl : v = Value.ref a := rx
    obtain ⟨_, ya, va, ra, da⟩ := (show ObjOk X.prog X.w H s.heap a (.dK kvs) from I.hok a _ ha)
    exact SeqAt.RcAt.dict_str z t da.typeIs (by obtain ⟨o, es, ep, h1, _, h2, _⟩ := id da; exact ⟨o, es, ep, h1, h2⟩) hu _ _ _ _ ⟨.bl false, H, I, rfl, q⟩
  · obtain ⟨t, rfl⟩ := ry
    obtain rfl : v = Value.ref a := rx
    obtain ⟨its, rv, tp, _⟩ := I.tuple ha
    exact SeqAt.RcAt.tuple_str z t tp hu _ _ _ _ ⟨.bl false, H, I, rfl, q⟩
end VX

set_option Elab.async false
set_option linter.all false
set_option maxRecDepth 100000
set_option maxHeartbeats 4000000
/-! # == of two dicts of flat values, either way -/
namespace VX
open PySem PySem.Spec PyProof.Rows L2
theorem valV_mem {κ : Type} [DecidableEq κ] {k : κ} {v : V} : ∀ {kvs : List (κ × V)}, valV kvs k = some v → ∃ p ∈ kvs, p.2 = v
  | [], h => by cases h
  | q :: r, h => by
    by_cases e : q.1 = k
    · rw [valV_pos e] at h
      exact ⟨q, List.mem_cons_self, Option.some.inj h⟩
    · rw [valV_neg e] at h
      obtain ⟨p, hp, he⟩ := valV_mem h
      exact ⟨p, List.mem_cons_of_mem _ hp, he⟩
def dEq (ls ks : List (Key × V)) : Bool := ks.all fun p => match valV ls p.1 with
  | some y => eqV p.2 y
  | none => false
theorem hits_eq {A : Around} {s : Shared} {ls : List (Key × V)} {vb : List (Key × Value)} (rb : KV ls vb) (fb : ∀ p ∈ ls, flatV p.2 = true) {ks : List (Key × V)} {va : List (Key × Value)} (ra : KV ks va) (fa : ∀ p ∈ ks, flatV p.2 = true) :
    PySem.W.KeqHits A s vb va (dEq ls ks) := by
  unfold KV at ra
  induction ra with
  | nil => exact .nil
  | @cons p q ps qs h t ih =>
    obtain ⟨h1, h2⟩ := h
    obtain ⟨k, v⟩ := q
    have h1' : p.1 = k := h1
    have ih := ih fun p' hm => fa p' (List.mem_cons_of_mem _ hm)
    show PySem.W.KeqHits A s vb ((k, v) :: qs) ((match valV ls p.1 with
      | some y => eqV p.2 y
      | none => false) && dEq ls ps)
    cases e : valV ls p.1 with
    | none =>
      have rr : RelO (none : Option V) (valueAt vb p.1) := by rw [← e]; exact rb.val p.1
      cases hv : valueAt vb p.1 with
      | none => rw [h1'] at hv; exact .miss hv
      | some y => rw [hv] at rr; cases rr
    | some y =>
      have rr : RelO (some y) (valueAt vb p.1) := by rw [← e]; exact rb.val p.1
      obtain ⟨y', hy, ry⟩ := rr.some_of
      rw [h1'] at hy
      have fy : flatV y = true := by
        obtain ⟨z, hz, he⟩ := valV_mem e
        rw [← he]
        exact fb z hz
      exact .hit hy (eqAt_V h2 ry (fa p List.mem_cons_self) fy) ih
def rEqDK (b : Bool) : R2 := fun x y H Q => ∃ a c ks ls, x = .ref a ∧ y = .ref c ∧ H a = some (.dK ks) ∧ H c = some (.dK ls) ∧ (∀ p ∈ ks, flatV p.2 = true) ∧ (∀ p ∈ ls, flatV p.2 = true) ∧ Q (.bl (if b = true then (ks.length == ls.length && dEq ls ks) else !(ks.length == ls.length && dEq ls ks))) H
theorem op_eqDK {X : Cx} (hu : X.A.units < cLine) : OpR X (compareOp .Eq) (rEqDK true) := by
  intro pins s σ H x y v u Q I rx ry h
  obtain ⟨a, b, ks, ls, rfl, rfl, ea, eb, fa, fb, q⟩ := h
  obtain rfl : v = Value.ref a := rx
  obtain rfl : u = Value.ref b := ry
  obtain ⟨_, ya, va, ra, da⟩ := (show ObjOk X.prog X.w H s.heap a (.dK ks) from I.hok a _ ea)
  obtain ⟨_, yb, vb, rb, db⟩ := (show ObjOk X.prog X.w H s.heap b (.dK ls) from I.hok b _ eb)
  refine PySem.W.keq_eq (knd := mixKind X.prog X.w) (r := dEq ls ks) ya yb da db hu (fun _ => hits_eq rb fb ra fa) (fin_bl I q ?_)
  rw [ra.length, rb.length]
  rfl
theorem op_neDK {X : Cx} (hu : X.A.units < cLine) : OpR X (compareOp .NotEq) (rEqDK false) := by
  intro pins s σ H x y v u Q I rx ry h
  obtain ⟨a, b, ks, ls, rfl, rfl, ea, eb, fa, fb, q⟩ := h
  obtain rfl : v = Value.ref a := rx
  obtain rfl : u = Value.ref b := ry
  obtain ⟨_, ya, va, ra, da⟩ := (show ObjOk X.prog X.w H s.heap a (.dK ks) from I.hok a _ ea)
  obtain ⟨_, yb, vb, rb, db⟩ := (show ObjOk X.prog X.w H s.heap b (.dK ls) from I.hok b _ eb)
  refine PySem.W.keq_ne (knd := mixKind X.prog X.w) (r := dEq ls ks) ya yb da db hu (fun _ => hits_eq rb fb ra fa) (fin_bl I q ?_)
  rw [ra.length, rb.length]
  rfl
end VX

set_option Elab.async false
set_option linter.all false
set_option maxRecDepth 100000
set_option maxHeartbeats 4000000
/-! # a tuple == () -/
namespace VX
open PySem PySem.Spec PyProof.Rows L2
def rEqTN (K : PySem.W.Frag) : R2 := fun x y H Q => ∃ p q xs, x = .ref p ∧ y = .ref q ∧ SqT K H p xs ∧ SqT K H q [] ∧ Q (.bl xs.isEmpty) H
theorem op_eqTN {X : Cx} (K : PySem.W.Frag) (hu : X.A.units < cLine) (hK : X.K = K := by rfl) : OpR X (compareOp .Eq) (rEqTN K) := by
  subst hK
  intro pins s σ H x y v u Q I rx ry h
  obtain ⟨p, q, xs, rfl, rfl, hp, hq, hQ⟩ := h
  cases (show v = Value.ref p from rx)
  cases (show u = Value.ref q from ry)
  obtain ⟨us, r1, p1, _⟩ := I.tuple hp
  obtain ⟨ws, r2, p2, _⟩ := I.tuple hq
  cases r2
  refine SeqAt.RcAt.tuples (e := fun _ => true) p1 p2 hu (fun j h1 h2 => absurd h2 (Nat.not_lt_zero j)) _ _ _ _ ?_
  refine ⟨.bl _, H, I, ?_, hQ⟩
  have := r1.length
  cases r1 <;> rfl
end VX
namespace VX
open PySem PySem.Spec PyProof.Rows L2
theorem mt_indexDK {X : Cx} (K : PySem.W.Frag) (hu : X.A.units + 65 < cLine) (hK : X.K = K := by rfl) : MtR X "list.index" (rIndexD K) := by
  subst hK
  exact mt_indexD hu
end VX
namespace VX
open PySem PySem.Spec PyProof.Rows L2
theorem pe_bm0K {X : Cx} {o : Expr} {to : TE} {name : Str} {apos cpos : Pos} {T id : String} {r : V → List V → Hp → VK → Prop} (K : PySem.W.Frag) (pa : PlainAttrs T) (slot : Slot T name id) (hty : typeOf (.builtin id) = pure (.type "method_descriptor")) (hm : MtR X id r) (ho : PE X o to)
    (hK : X.K = K := by rfl) (hbase : attributeBase o name X.env (eval o X.env) = eval o X.env := by rfl) (hline : (apos.endLine == cpos.line) = true := by rfl) : PE X (.Call (.Attribute o name apos) [] [] cpos) (tBM0 K T r to) := by
  subst hK
  exact pe_bm0 pa slot hty hm ho hbase hline
theorem pe_bmK {X : Cx} {o e : Expr} {es : List Expr} {to : TE} {t : TA} {name : Str} {apos cpos : Pos} {T id : String} {r : V → List V → Hp → VK → Prop} (K : PySem.W.Frag) (pa : PlainAttrs T) (slot : Slot T name id) (hty : typeOf (.builtin id) = pure (.type "method_descriptor")) (hm : MtR X id r) (ho : PE X o to) (ha : PA X (e :: es) t)
    (hK : X.K = K := by rfl) (hbase : attributeBase o name X.env (eval o X.env) = eval o X.env := by rfl)
    (hfew : ((backTo cpos (starEach (e :: es) X.env)).all (fun x => !x.1) && (backToKw cpos (keywordEach [] X.env)).all (fun x => x.1.isSome)
      && decide ((e :: es).length + ([] : List Keyword).length + (if ([] : List Keyword).isEmpty then 0 else 1) < 30)) = true := by rfl)
    (hline : (apos.endLine == cpos.line) = true := by rfl) (hs : starEach (e :: es) X.env = (false, eval e X.env) :: starEach es X.env := by rfl) (hplain : (backTo cpos (starEach es X.env)).any (·.1) = false := by rfl) :
    PE X (.Call (.Attribute o name apos) (e :: es) [] cpos) (tBM K T r to t) := by
  subst hK
  exact pe_bm pa slot hty hm ho ha hbase hfew hline hs hplain
end VX

set_option Elab.async false
set_option linter.all false
set_option maxRecDepth 100000
set_option maxHeartbeats 4000000
/-! # == by an own __eq__, either way: True or False as D says -/
namespace GB
open PySem PySem.SeqAt GQ
open AutoSeq1 (wpAny_loadPart')
open MeetsSeq MeetsSeq2 MeetsSeq3 SeqRoads2
section
variable {prog : Program} {w : World} {A : Around} {R : Result → Shared → Prop}
theorem tuple_eqB (l b : Addr) (items items2 : Array Value) (n n2 : Nat) (dd dd2 : Option Addr) (sl sl2 : Array (Option Value)) (hsz : items.size = items2.size) (e : Nat → Bool) (I : Shared → Prop)
    (turn : ∀ i (h1 : i < items.size) (h2 : i < items2.size) s, I s → wpAny (model prog w) A.in1 (eqBool items[i] items2[i]) (fun r s' => r = e i ∧ I s') (fun e s' => R (.error e) s') s)
    (fin : ∀ s, I s → R (.ok (.ret (.bool ((List.range items.size).all e)))) s) {s : Shared} (hl1 : s.heap.get? l = some { cls := .type "tuple", dict := dd, data := .seq items n, slots := sl }) (hb1 : s.heap.get? b = some { cls := .type "tuple", dict := dd2, data := .seq items2 n2, slots := sl2 }) (h : I s) :
    wpAny (model prog w) A.in1 (Builtin.«tuple.__eq__» ⟨[.ref l, .ref b], []⟩) (FinOf prog w A R) (fun e s' => R (.error e) s') s := by
  have f2 := AutoSeq1.sub_tuple_tuple
  have hZ : (items.toList.zip items2.toList).length = items.size := by simp [hsz]
  have h0 := h
  obtain ⟨hp, g, d, tk, os⟩ := s
  wp_walk using wpAny_loadPart' hl1, wpAny_loadPart' hb1, wpAny_forIn_list _ (fun rest b s' => b.1 = none ∧ I s' ∧ ∃ i, rest = (items.toList.zip items2.toList).drop i ∧ i ≤ items.size ∧ ((List.range items.size).drop i).all e = (List.range items.size).all e) _
  case turn =>
    rintro ⟨y, x⟩ rest b s' ⟨hb', hI, i, hz, hi, ha⟩
    have hlt : i < (items.toList.zip items2.toList).length := by
      rcases Nat.lt_or_ge i (items.toList.zip items2.toList).length with h' | h'
      · exact h'
      · rw [List.drop_of_length_le h'] at hz; cases hz
    have h1 : i < items.size := hZ ▸ hlt
    have h2 : i < items2.size := hsz ▸ h1
    rw [List.drop_eq_getElem_cons hlt] at hz
    injection hz with hyx hrest
    have hy : y = items[i] := by have := congrArg Prod.fst hyx; simpa using this
    have hx : x = items2[i] := by have := congrArg Prod.snd hyx; simpa using this
    subst hy hx
    have hd : (List.range items.size).drop i = i :: (List.range items.size).drop (i + 1) := by simp [List.drop_eq_getElem_cons, h1]
    rw [hd, List.all_cons] at ha
    refine wpAny_bind (wpAny_mono (turn i h1 h2 s' hI) (fun r s2 q2 => ?_) fun _ _ x => x)
    obtain ⟨hr, q2⟩ := q2
    subst hr
    cases hy : e i with
    | true =>
      rw [hy, Bool.true_and] at ha
      wp_walk
      exact ⟨rfl, q2, i + 1, hrest, h1, ha⟩
    | false =>
      rw [hy, Bool.false_and] at ha
      have hR := fin s2 q2
      rw [← ha] at hR
      wp_walk
      first | exact hR | exact ⟨_, rfl, hR⟩
  case fin =>
    rintro ⟨b1, b2⟩ s' ⟨hb', hI, i, hz, hi, ha⟩
    simp only at hb'
    subst hb'
    have hge : items.size ≤ i := by
      rcases Nat.lt_or_ge i (items.toList.zip items2.toList).length with h' | h'
      · rw [List.drop_eq_getElem_cons h'] at hz; cases hz
      · exact hZ ▸ h'
    have hR := fin s' hI
    have hdr : (List.range items.size).drop i = [] := List.drop_of_length_le (by simpa using hge)
    rw [← ha, hdr, List.all_nil] at hR
    wp_walk
    simpa [Builtin.Tuple.tupleCompareSizes, hsz] using hR
  case h =>
    exact ⟨rfl, h0, 0, rfl, Nat.zero_le _, rfl⟩
end
section
variable {prog : Program} {w : World} {A : Around} {E : Value → Shared → Prop} {s : Shared}
theorem rc_tupB {l b : Addr} {items items2 : Array Value} {Q : Value → Shared → Prop} (hsz : items.size = items2.size) (hu : A.units < cLine) (e : Nat → Bool) (I : Shared → Prop)
    (hl : s.heap.IsTuple l items) (hb : s.heap.IsTuple b items2)
    (turn : ∀ i (h1 : i < items.size) (h2 : i < items2.size) s, I s → wpAny (model prog w) A.in1 (eqBool items[i] items2[i]) (fun r s' => r = e i ∧ I s') E s)
    (fin : ∀ s, I s → Q (.bool ((List.range items.size).all e)) s) (h : I s) : wpAny (model prog w) A (richCompare .Eq (.ref l) (.ref b)) Q E s := by
  obtain ⟨⟨cls, dd, data, sl⟩, ho, hc, n, hd⟩ := id hl
  obtain ⟨⟨cls2, dd2, data2, sl2⟩, ho2, hc2, n2, hd2⟩ := id hb
  simp only at hc hd hc2 hd2
  subst hc hd hc2 hd2
  refine wpAny_richCompare_same_room (op := .Eq) ⟨_, ho, rfl⟩ ⟨_, ho2, rfl⟩ F.slot_tuple_eq (call_here F.slot_tuple_eq ⟨_, ho, rfl⟩ F.entry_tuple_eq (F.args_tuple_eq_2 _ _) ?_) hu
  exact tuple_eqB (R := wants (fun v s' => v ≠ .notImplemented ∧ Q v s') E) l b items items2 n n2 dd dd2 sl sl2 hsz e I turn (fun s' q => ⟨(fun x => nomatch x), fin s' q⟩) ho ho2 h
end
end GB
namespace VX
open PySem PySem.Spec PyProof.Rows L2
/-- how two values compare, by the abstract heap -/
abbrev EqvB := V → V → Bool → Hp → Prop
def MonB (D : EqvB) : Prop := ∀ x y b H H', Ext H H' → D x y b H → D x y b H'
def EqB (X : Cx) (n : Nat) (D : EqvB) : Prop :=
  ∀ (A : Around) (pins : List (Addr × Obj)) (s : Shared) (σ : L2.St) (H : Hp) (x y : V) (b : Bool) (u v : Value), Sub X n A → Inv X pins σ H s → RelV x u → RelV y v → D x y b H →
    wpAny (model X.prog X.w) A (eqBool u v) (fun r s' => r = b ∧ ∃ H', Inv X pins σ H' s' ∧ Ext H H') X.xe s
def RcB (X : Cx) (n : Nat) (D : EqvB) : Prop :=
  ∀ (A : Around) (pins : List (Addr × Obj)) (s : Shared) (σ : L2.St) (H : Hp) (x y : V) (b : Bool) (u v : Value), Sub X n A → Inv X pins σ H s → RelV x u → RelV y v → D x y b H →
    wpAny (model X.prog X.w) A (richCompare .Eq u v) (fun r s' => r = .bool b ∧ ∃ H', Inv X pins σ H' s' ∧ Ext H H') X.xe s
/-- item by item -/
def PrsB (D : EqvB) (xs ys : List V) (e : Nat → Bool) (H : Hp) : Prop := xs.length = ys.length ∧ ∀ (i : Nat) x y, xs[i]? = some x → ys[i]? = some y → D x y (e i) H
def DTupB (K : PySem.W.Frag) (D : EqvB) : EqvB := fun x y b H => ∃ p q xs ys e, x = .ref p ∧ y = .ref q ∧ SqT K H p xs ∧ SqT K H q ys ∧ PrsB D xs ys e H ∧ b = (List.range xs.length).all e
section
variable {X : Cx} {n : Nat} {D : EqvB}
theorem rcB_tup (hD : MonB D) (h : EqB X n D) : RcB X (n + 1) (DTupB X.K D) := by
  intro A pins s σ H x y bb u v sb I rx ry d
  obtain ⟨a, b, xs, ys, e, rfl, rfl, ha, hb, p, rfl⟩ := d
  cases rx
  cases ry
  obtain ⟨its, r, e1, z⟩ := I.tuple ha
  obtain ⟨its2, r2, e2, z2⟩ := I.tuple hb
  have hsz : its.toArray.size = its2.toArray.size := by rw [List.size_toArray, List.size_toArray, ← r.length, ← r2.length]; exact p.1
  refine GB.rc_tupB hsz sb.room.units0 e (fun s' => LoopI X pins σ H s') e1 e2 (fun i h1 h2 s' l => ?_) (fun s' q => ⟨by rw [List.size_toArray, ← r.length], q⟩) ⟨H, I, Ext.rfl'⟩
  obtain ⟨H1, I1, e1⟩ := l
  have g1 : its[i]? = some its.toArray[i] := by
    have h1' : i < its.length := by simpa using h1
    rw [List.getElem?_eq_getElem h1'] <;> simp
  have g2 : its2[i]? = some its2.toArray[i] := by
    have h2' : i < its2.length := by simpa using h2
    rw [List.getElem?_eq_getElem h2'] <;> simp
  have k1 : i < xs.length := by rw [r.length]; simpa using h1
  have k2 : i < ys.length := by rw [r2.length]; simpa using h2
  obtain ⟨u, hu, ru⟩ := r.get (List.getElem?_eq_getElem k1)
  obtain ⟨v, hv, rv⟩ := r2.get (List.getElem?_eq_getElem k2)
  rw [g1] at hu
  rw [g2] at hv
  rw [Option.some.inj hu, Option.some.inj hv]
  refine wpAny_mono (h A.in1 pins s' σ H1 _ _ _ u v sb.in1 I1 ru rv (hD _ _ _ _ _ e1 (p.2 i _ _ (List.getElem?_eq_getElem k1) (List.getElem?_eq_getElem k2)))) (fun r s2 q => ?_) fun _ _ x => x
  obtain ⟨hr, H2, I2, e2⟩ := q
  exact ⟨hr, H2, I2, e1.trans e2⟩
/-- what the own == promises -/
def spEqB (R : Addr → V → Bool → Hp → Prop) : Sp := fun vs H Q _ => ∃ a y b, vs = [.ref a, y] ∧ R a y b H ∧ ∀ H', Ext H H' → Q (.bl b) H'
def DInsB (C : Addr) (R : Addr → V → Bool → Hp → Prop) : EqvB := fun x y b H => ∃ a c C' dx dy fs gs, x = .ref a ∧ y = .ref c ∧ H a = some (.ins C dx fs) ∧ H c = some (.ins C' dy gs) ∧ R a y b H
theorem rcB_ins {CX : CXT} {C C' f : Addr} {fd : FuncData} {ps : List Str} {R : Addr → V → Bool → Hp → Prop} {E : XK} (F : FnOk X.prog X.w X.K X.mg X.base CX n f fd ps (spEqB R))
    (hs : PySem.W.findIn X.K (.ref C) "__eq__" = some (some (.ref f))) (hf : PySem.W.isFn X.K (.ref f) = true) (hb : Binds X.K fd ps []) (hx : Passes CX X E) (hn : PySem.W.notFirst X.K C (.ref C') = true) :
    RcB X n (fun x y b H => ∃ a c dx dy fs gs, x = .ref a ∧ y = .ref c ∧ H a = some (.ins C dx fs) ∧ H c = some (.ins C' dy gs) ∧ R a y b H) := by
  intro A pins s σ H x y bb u v sb I rx ry d
  obtain ⟨a, b, dx, dy, fs, gs, rfl, rfl, ha, hb', hr⟩ := d
  cases rx
  cases ry
  obtain ⟨mA, J, _⟩ := ins_get I.hok ha
  obtain ⟨mB, J', _⟩ := ins_get I.hok hb'
  obtain ⟨od, J, _⟩ := J.look
  obtain ⟨od', J', _⟩ := J'.look
  obtain ⟨m, hF⟩ := I.fr
  refine PySem.W.cmp_K (op := .Eq) (tb := .ref C') sb.room.units0 hF I.ok.mod.kin J J'.type hn hs hf ?_
  have hsp : spEqB R [.ref a, .ref b] H (fun v H' => v = .bl bb ∧ Ext H H') E := ⟨a, .ref b, bb, rfl, hr, fun H' e => ⟨rfl, e⟩⟩
  have e0 : Env0 X.prog X.w X.K X.mg X.base A X.stack s H := by
    have e := I.env0
    exact ⟨by rw [sb.fr]; exact e.frames, e.mod, e.bs, e.bsz, e.funs, e.frf, e.hok, e.bare⟩
  have hl := F.len _ _ _ _ hsp
  have r2 : Vals [V.ref a, V.ref b] [Value.ref a, Value.ref b] := .cons rfl (.cons rfl .nil)
  refine wpAny_call (codeAny_mono (F.run A X.stack s H ⟨[.ref a, .ref b], []⟩ [.ref a, .ref b] [.ref a, .ref b] _ E sb.room e0 (by
    have := hb s [.ref a, .ref b] I.kIn (by simpa using hl)
    simpa using this) r2 hsp) fun r s' hq => ?_)
  cases r with
  | error e => exact hx pins σ H s e s' I hq
  | ok fl =>
    cases fl with
    | ret w =>
      obtain ⟨z, H', I', rz, ez, ex⟩ := I.after hq
      subst ez
      cases rz
      exact ⟨rfl, H', I', ex⟩
    | next => exact False.elim hq
    | brk => exact False.elim hq
    | cont => exact False.elim hq
/-- == inside a builtin: the same object is equal to itself -/
theorem RcB.eqB (h : RcB X n D) (hr : ∀ x y b H, D x y b H → ∃ a c, x = .ref a ∧ y = .ref c ∧ (a = c → b = true)) : EqB X n D := by
  intro A pins s σ H x y bb u v sb I rx ry d
  obtain ⟨a, b, rfl, rfl, hsame⟩ := hr _ _ _ _ d
  cases rx
  cases ry
  by_cases hab : a = b
  · have := hsame hab
    subst hab
    subst this
    exact SeqAt.EqAt.same (A := A) (s := s) (.ref a) X.prog X.w X.xe _ ⟨rfl, H, I, Ext.rfl'⟩
  · refine GQ.eqBool_refG hab (wpAny_mono (h A pins s σ H (.ref a) (.ref b) bb _ _ sb I rfl rfl d) (fun r s' q => ?_) fun _ _ x => x)
    obtain ⟨hr', q⟩ := q
    exact ⟨bb, hr', rfl, q⟩
/-- x == y as an expression -/
def rEqB (D : EqvB) : R2 := fun x y H Q => ∃ b, D x y b H ∧ ∀ H', Ext H H' → Q (.bl b) H'
theorem op_eqB (h : RcB X n D) (hr : Room n X.A) : OpR X (compareOp .Eq) (rEqB D) := by
  intro pins s σ H x y v u Q I rx ry hq
  obtain ⟨b, d, q⟩ := hq
  show wpAny (model X.prog X.w) X.A (richCompare .Eq v u) (EP X pins σ Q) X.xe s
  refine wpAny_mono (h X.A pins s σ H x y b v u ⟨hr, rfl⟩ I rx ry d) (fun r s' z => ?_) fun _ _ x => x
  obtain ⟨hr', H', I', e⟩ := z
  subst hr'
  exact ⟨.bl b, H', I', rfl, q H' e⟩
end
end VX

set_option Elab.async false
set_option linter.all false
set_option maxRecDepth 100000
set_option maxHeartbeats 4000000
/-! # ==, != of tuples and of tuples of tuples, either way; <= and in by own methods -/
namespace VX
open PySem PySem.Spec PyProof.Rows L2
theorem eF_min : ∀ (xs ys : List V), ((List.range (min xs.length ys.length)).all (eF xs ys) && xs.length == ys.length) = eqLV xs ys := fun xs ys => by
  by_cases h : xs.length = ys.length
  · rw [h, Nat.min_self, ← h, eF_all h]
    simp
  · rw [eqLV_len h, beq_false_of_ne h, Bool.and_false]
theorem rcT {A : Around} {s : Shared} {p q : Addr} {us ws : List Value} {xs ys : List V} (p1 : s.heap.IsTuple p us.toArray) (p2 : s.heap.IsTuple q ws.toArray) (r1 : Vals xs us) (r2 : Vals ys ws) (fx : xs.all flatV = true) (fy : ys.all flatV = true) (hu : A.units < cLine) :
    SeqAt.RcAt A s (.ref p) (.ref q) (eqLV xs ys) := by
  have k := SeqAt.RcAt.tuples (e := eF xs ys) p1 p2 hu (fun j h1 h2 => by
    have k := flat_at (A := A.in1) (s := s) r1 r2 fx fy j (by simpa using h1) (by simpa using h2)
    simpa using k)
  rw [List.size_toArray, List.size_toArray, ← r1.length, ← r2.length, eF_min] at k
  exact k
def rEqTF (K : PySem.W.Frag) (b : Bool) : R2 := fun x y H Q => ∃ p q xs ys, x = .ref p ∧ y = .ref q ∧ SqT K H p xs ∧ SqT K H q ys ∧ xs.all flatV = true ∧ ys.all flatV = true ∧ Q (.bl (if b = true then eqLV xs ys else !eqLV xs ys)) H
theorem op_eqTF {X : Cx} (K : PySem.W.Frag) (hu : X.A.units < cLine) (hK : X.K = K := by rfl) : OpR X (compareOp .Eq) (rEqTF K true) := by
  subst hK
  intro pins s σ H x y v u Q I rx ry h
  obtain ⟨p, q, xs, ys, rfl, rfl, hp, hq, fx, fy, hQ⟩ := h
  cases (show v = Value.ref p from rx)
  cases (show u = Value.ref q from ry)
  obtain ⟨us, r1, p1, _⟩ := I.tuple hp
  obtain ⟨ws, r2, p2, _⟩ := I.tuple hq
  exact rcT p1 p2 r1 r2 fx fy hu _ _ _ _ ⟨.bl _, H, I, rfl, hQ⟩
/-- tuples of flat things, one after the other -/
inductive Tups (K : PySem.W.Frag) (H : Hp) : List V → List (List V) → Prop
  | nil : Tups K H [] []
  | cons {a : Addr} {xs : List V} {as : List V} {bs : List (List V)} : SqT K H a xs → xs.all flatV = true → Tups K H as bs → Tups K H (.ref a :: as) (xs :: bs)
def eqLL : List (List V) → List (List V) → Bool
  | [], [] => true
  | x :: xs, y :: ys => eqLV x y && eqLL xs ys
  | _, _ => false
def eFF (xs ys : List (List V)) (j : Nat) : Bool := match xs[j]?, ys[j]? with
  | some x, some y => eqLV x y
  | _, _ => true
theorem eFF_min : ∀ (xs ys : List (List V)), ((List.range (min xs.length ys.length)).all (eFF xs ys) && xs.length == ys.length) = eqLL xs ys
  | [], [] => rfl
  | [], _ :: _ => rfl
  | _ :: _, [] => rfl
  | x :: xs, y :: ys => by
    have ih := eFF_min xs ys
    rw [List.length_cons, List.length_cons, Nat.add_min_add_right, List.range_succ_eq_map, List.all_cons, List.all_map]
    show (eqLV x y && (List.range (min xs.length ys.length)).all (eFF (x :: xs) (y :: ys) ∘ Nat.succ) && (xs.length + 1 == ys.length + 1)) = (eqLV x y && eqLL xs ys)
    rw [← ih, Bool.and_assoc]
    congr 2
    simp
theorem Tups.length {K : PySem.W.Frag} {H : Hp} : ∀ {as : List V} {bs : List (List V)}, Tups K H as bs → as.length = bs.length
  | _, _, .nil => rfl
  | _, _, .cons _ _ t => congrArg (· + 1) t.length
theorem Tups.get {K : PySem.W.Frag} {H : Hp} : ∀ {as : List V} {bs : List (List V)} {i : Nat} {a : V}, Tups K H as bs → as[i]? = some a → ∃ p xs, a = .ref p ∧ bs[i]? = some xs ∧ SqT K H p xs ∧ xs.all flatV = true
  | _, _, 0, _, .cons h f _, e => ⟨_, _, (Option.some.inj e).symm, rfl, h, f⟩
  | _, _, i + 1, _, .cons _ _ t, e => t.get (i := i) e
theorem eqV_self {x : V} (h : flatV x = true) : eqV x x = true := by
  cases x <;> first | (simp [eqV]; done) | (simp [flatV] at h; done)
theorem eqLV_self : ∀ {xs : List V}, xs.all flatV = true → eqLV xs xs = true
  | [], _ => rfl
  | x :: xs, h => by
    rw [List.all_cons, Bool.and_eq_true] at h
    show (eqV x x && eqLV xs xs) = true
    rw [eqV_self h.1, eqLV_self h.2]
    rfl
theorem sqT_uniq {X : Cx} {pins : List (Addr × Obj)} {σ : L2.St} {H : Hp} {s : Shared} (I : Inv X pins σ H s) {p : Addr} {xs ys : List V} (h1 : SqT X.K H p xs) (h2 : SqT X.K H p ys) (fx : xs.all flatV = true) (fy : ys.all flatV = true) (A : Around) (hu : A.units < cLine) : ∃ us, Vals xs us ∧ s.heap.IsTuple p us.toArray ∧ Vals ys us := by
  obtain ⟨us, r1, p1, _⟩ := I.tuple h1
  obtain ⟨ws, r2, p2, _⟩ := I.tuple h2
  obtain ⟨o, ho, _, n, hd⟩ := p1
  obtain ⟨o2, ho2, _, n2, hd2⟩ := id p2
  rw [ho] at ho2
  obtain rfl := Option.some.inj ho2
  rw [hd] at hd2
  have e : us.toArray = ws.toArray := by injection hd2
  have e' : us = ws := by simpa using congrArg Array.toList e
  subst e'
  exact ⟨us, r1, p2, r2⟩
def rEqTT (K : PySem.W.Frag) (b : Bool) : R2 := fun x y H Q => ∃ p q xs ys as bs, x = .ref p ∧ y = .ref q ∧ SqT K H p xs ∧ SqT K H q ys ∧ Tups K H xs as ∧ Tups K H ys bs ∧ (∀ i j : Nat, xs[i]? = ys[j]? → as[i]? = bs[j]?) ∧ Q (.bl (if b = true then eqLL as bs else !eqLL as bs)) H
theorem op_eqTT {X : Cx} (K : PySem.W.Frag) (hu1 : X.A.units + 65 < cLine) (hK : X.K = K := by rfl) : OpR X (compareOp .Eq) (rEqTT K true) := by
  subst hK
  intro pins s σ H x y v u Q I rx ry h
  have hu : X.A.units < cLine := by omega
  obtain ⟨p, q, xs, ys, as, bs, rfl, rfl, hp, hq, ha, hb, hs, hQ⟩ := h
  cases (show v = Value.ref p from rx)
  cases (show u = Value.ref q from ry)
  obtain ⟨us, r1, p1, _⟩ := I.tuple hp
  obtain ⟨ws, r2, p2, _⟩ := I.tuple hq
  have k := SeqAt.RcAt.tuples (e := eFF as bs) p1 p2 hu (fun j h1 h2 => by
    have l1 : j < xs.length := by rw [r1.length]; simpa using h1
    have l2 : j < ys.length := by rw [r2.length]; simpa using h2
    obtain ⟨u1, hu1, ru1⟩ := r1.get (List.getElem?_eq_getElem l1)
    obtain ⟨u2, hu2, ru2⟩ := r2.get (List.getElem?_eq_getElem l2)
    obtain ⟨a, zs, ea, ez, ta, fa⟩ := ha.get (List.getElem?_eq_getElem l1)
    obtain ⟨b, ys', eb, ey, tb, fb⟩ := hb.get (List.getElem?_eq_getElem l2)
    have g1 : us.toArray[j] = u1 := by
      have h1' : j < us.length := by simpa using h1
      rw [List.getElem?_eq_getElem h1'] at hu1
      simpa using Option.some.inj hu1
    have g2 : ws.toArray[j] = u2 := by
      have h2' : j < ws.length := by simpa using h2
      rw [List.getElem?_eq_getElem h2'] at hu2
      simpa using Option.some.inj hu2
    rw [g1, g2]
    rw [ea] at ru1
    rw [eb] at ru2
    cases (show u1 = Value.ref a from ru1)
    cases (show u2 = Value.ref b from ru2)
    have ee : eFF as bs j = eqLV zs ys' := by unfold eFF; rw [ez, ey]
    rw [ee]
    by_cases hab : a = b
    · subst hab
      have := hs j j (by rw [List.getElem?_eq_getElem l1, List.getElem?_eq_getElem l2, ea, eb])
      rw [ez, ey] at this
      obtain rfl := Option.some.inj this
      rw [eqLV_self fa]
      exact SeqAt.EqAt.same _
    · obtain ⟨us', r1', p1', _⟩ := I.tuple ta
      obtain ⟨ws', r2', p2', _⟩ := I.tuple tb
      exact SeqAt.EqAt.of_refs hab (rcT p1' p2' r1' r2' fa fb (by show X.A.units + 1 < cLine; omega)))
  rw [List.size_toArray, List.size_toArray, ← r1.length, ← r2.length, ha.length, hb.length, eFF_min] at k
  exact k _ _ _ _ ⟨.bl _, H, I, rfl, hQ⟩
/-- x <= y and the like by an own method -/
def rOwnC (C C' : Addr) (sp : Sp) (E : XK) : R2 := fun x y H Q => ∃ a b dx dy fs gs, x = .ref a ∧ y = .ref b ∧ H a = some (.ins C dx fs) ∧ H b = some (.ins C' dy gs) ∧ sp [.ref a, .ref b] H Q E
theorem op_ownC {X : Cx} {CX : CXT} {C C' f : Addr} {n : Nat} {sp : Sp} {E : XK} (op : CmpOp) (F : FnR X.prog X.w X.K X.mg X.base CX n f sp) (hn : PySem.W.notFirst X.K C (.ref C') = true)
    (hs : PySem.W.findIn X.K (.ref C) (cmpInfo op).2.1 = some (some (.ref f))) (hf : PySem.W.isFn X.K (.ref f) = true) (hx : Passes CX X E) (hr : Room n X.A) (ho : compareOp op = richCompare op := by rfl) : OpR X (compareOp op) (rOwnC C C' sp E) := by
  intro pins s σ H x y v u Q I rx ry hq
  obtain ⟨a, b, dx, dy, fs, gs, rfl, rfl, ha, hb, h⟩ := hq
  cases rx
  cases ry
  obtain ⟨mA, J, _⟩ := ins_get I.hok ha
  obtain ⟨mB, J', _⟩ := ins_get I.hok hb
  obtain ⟨od, J, _⟩ := J.look
  obtain ⟨od', J', _⟩ := J'.look
  obtain ⟨m, hF⟩ := I.fr
  rw [ho]
  refine PySem.W.cmp_K (op := op) hr.units0 hF I.ok.mod.kin J J'.type hn hs hf ?_
  have r2 : Vals [V.ref a, V.ref b] [Value.ref a, Value.ref b] := .cons rfl (.cons rfl .nil)
  refine wpAny_call (codeAny_mono (run_fnR F hr hx I r2 h) fun r s' z => ?_)
  cases r with
  | error e => exact z
  | ok fl =>
    cases fl with
    | ret w =>
      obtain ⟨v, H1, I1, rv, q⟩ := z
      show PySem.W.CmpBack _ w s'
      cases w with
      | notImplemented => cases v <;> first | (cases rv; done) | (obtain ⟨_, z⟩ := rv; cases z)
      | _ => exact ⟨v, H1, I1, rv, q⟩
    | next => exact z.elim
    | brk => exact z.elim
    | cont => exact z.elim
/-- x in o by an own __contains__ that tells a bool -/
def rInO (C : Addr) (sp : Sp) (E : XK) : R2 := fun x y H Q => ∃ b dy gs, y = .ref b ∧ H b = some (.ins C dy gs) ∧ sp [.ref b, x] H (fun v H' => ∃ z, v = .bl z ∧ Q (.bl z) H') E
theorem op_inO {X : Cx} {CX : CXT} {C f : Addr} {n : Nat} {sp : Sp} {E : XK} (F : FnR X.prog X.w X.K X.mg X.base CX n f sp)
    (hs : PySem.W.findIn X.K (.ref C) "__contains__" = some (some (.ref f))) (hf : PySem.W.isFn X.K (.ref f) = true) (hx : Passes CX X E) (hr : Room n X.A) : OpR X (compareOp .In) (rInO C sp E) := by
  intro pins s σ H x y v u Q I rx ry hq
  obtain ⟨b, dy, gs, rfl, hb, h⟩ := hq
  cases ry
  obtain ⟨mB, J, _⟩ := ins_get I.hok hb
  obtain ⟨od, J, _⟩ := J.look
  obtain ⟨m, hF⟩ := I.fr
  show wpAny _ _ (contains (.ref b) v >>= fun z => pure (Value.bool z)) _ _ _
  refine wpAny_bind (PySem.W.contains_K hF I.ok.mod.kin J hs hf ?_)
  have r2 : Vals [V.ref b, x] [Value.ref b, v] := .cons rfl (.cons rx .nil)
  refine wpAny_call (codeAny_mono (run_fnR F hr hx I r2 h) fun r s' z => ?_)
  cases r with
  | error e => exact z
  | ok fl =>
    cases fl with
    | ret w =>
      obtain ⟨v, H1, I1, rv, zz, rfl, q⟩ := z
      cases rv
      cases zz <;> exact wpAny_pure (wpAny_pure ⟨.bl _, H1, I1, rfl, q⟩)
    | next => exact z.elim
    | brk => exact z.elim
    | cont => exact z.elim
end VX

set_option Elab.async false
set_option linter.all false
set_option maxRecDepth 100000
set_option maxHeartbeats 4000000
/-! # tuple * int and tuple + tuple, in every case; a walk over a list or a tuple -/
namespace GM
open PySem PySem.Spec PyProof.Rows
theorem mulW0 (l : Addr) (items : Array Value) (n : Nat) (dd : Option Addr) (sl : Array (Option Value)) (u : Tok) (h : items.isEmpty = false) :
  Meets (Builtin.«tuple.__mul__» { pos := [Value.ref l, Value.int 0 u] }) fun _ R s =>
                s.heap.get? l = some { cls := Value.type "tuple", dict := dd, data := Data.seq items n, slots := sl } ∧
                  R (Except.ok (Flow.ret (Value.ref s.heap.objs.size))) { s with heap := s.heap.push { cls := Value.type "tuple", data := Data.seq #[] } } := by
  refine Meets.of_wp fun prog w A R s hh => ?_
  obtain ⟨hl, hR⟩ := hh
  obtain ⟨hp, g, d, tk, os⟩ := s
  have f1 := AutoSeq1.idx_int
  wp_walk using wpAny_load' hl, wpAny_alloc'
  exact ⟨_, rfl, hR⟩
theorem mulW1 (l : Addr) (items : Array Value) (n : Nat) (dd : Option Addr) (sl : Array (Option Value)) (u : Tok) (h : items.isEmpty = false) :
  Meets (Builtin.«tuple.__mul__» { pos := [Value.ref l, Value.int 1 u] }) fun _ R s =>
                s.heap.get? l = some { cls := Value.type "tuple", dict := dd, data := Data.seq items n, slots := sl } ∧
                  R (Except.ok (Flow.ret (Value.ref l))) s := by
  refine Meets.of_wp fun prog w A R s hh => ?_
  obtain ⟨hl, hR⟩ := hh
  obtain ⟨hp, g, d, tk, os⟩ := s
  have f1 := AutoSeq1.idx_int
  wp_walk using wpAny_load' hl
  exact ⟨_, rfl, hR⟩
end GM
namespace VX
open PySem PySem.Spec PyProof.Rows L2
/-- tuple * int, 0 ≤ k -/
def rMulT (K : PySem.W.Frag) : R2 := fun x y H Q => ∃ l k xs, x = .ref l ∧ y = .int k ∧ SqT K H l xs ∧ xs ≠ [] ∧ 0 ≤ k ∧ k ≤ 1000 ∧ xs.length ≤ 1000 ∧ (k = 1 → Q (.ref l) H) ∧ (k ≠ 1 → ∀ p, H p = none → Q (.ref p) (upd H p (.tup (List.replicate k.toNat xs).flatten)))
theorem op_mulT {X : Cx} (K : PySem.W.Frag) (hK : X.K = K := by rfl) : OpR X (binaryOp .Mult) (rMulT K) := by
  subst hK
  intro pins s σ H x y v u Q I rx ry h
  obtain ⟨l, k, xs, rfl, rfl, hT, hne, h0, h1, hz, q1, q2⟩ := h
  by_cases k2 : 2 ≤ k
  · exact op_repT pins s σ H _ _ v u Q I rx ry ⟨l, k, xs, rfl, rfl, hT, hne, k2, h1, hz, q2 (by omega)⟩
  cases rx
  obtain ⟨t, rfl⟩ := ry
  obtain ⟨us, r1, p1, _⟩ := I.tuple hT
  obtain ⟨⟨cls, dd, data, sl⟩, ho, hc, n, hd⟩ := id p1
  simp only at hc hd
  subst hc hd
  have hemp : us.toArray.isEmpty = false := by
    cases r1 with
    | nil => exact absurd rfl hne
    | cons _ _ => rfl
  refine wpAny_binaryOp_repeat_ref (T := "tuple") (U := "int") (by decide) ⟨_, ho, rfl⟩ (fun s' => rfl) noFill_tuple_mul (by rfl) F.slot_int_rmul repeat_tuple int_index
    (call_meets F.slot_int_rmul rfl F.entry_int_rmul (F.args_int_rmul_2 _ _) (int_rmul_tuple k t l us.toArray n dd sl) ⟨ho, rfl, ⟨_, ho, rfl⟩, ?_⟩)
  rcases (show k = 0 ∨ k = 1 by omega) with rfl | rfl
  · refine call_meets F.slot_tuple_mul ⟨_, ho, rfl⟩ F.entry_tuple_mul (F.args_tuple_mul_2 _ _) (GM.mulW0 l us.toArray n dd sl t hemp) ⟨ho, ?_⟩
    refine ⟨.ref s.heap.objs.size, _, I.laid (o := .tup []) (t' := _) (fun b o e => Heap.get?_push_of_some _ e) (Nat.le_refl _) ?_, rfl, q2 (by omega) _ (I.hok.fresh (Nat.le_refl _))⟩
    exact ⟨by decide, [], .nil, ⟨_, Heap.get?_push_size s.heap rfl, rfl, 0, rfl⟩⟩
  · exact call_meets F.slot_tuple_mul ⟨_, ho, rfl⟩ F.entry_tuple_mul (F.args_tuple_mul_2 _ _) (GM.mulW1 l us.toArray n dd sl t hemp) ⟨ho, ⟨.ref l, H, I, rfl, q1 rfl⟩⟩
/-- t + u, in every case -/
def rCatA (K : PySem.W.Frag) : R2 := fun x y H Q => ∃ a b xs ys, x = .ref a ∧ y = .ref b ∧ SqT K H a xs ∧ SqT K H b ys ∧ xs.length + ys.length ≤ sizeLine ∧ (xs = [] → Q (.ref b) H) ∧ (xs ≠ [] → ys = [] → Q (.ref a) H) ∧ (xs ≠ [] → ys ≠ [] → ∀ p, H p = none → Q (.ref p) (upd H p (.tup (xs ++ ys))))
theorem op_catA {X : Cx} (K : PySem.W.Frag) (hK : X.K = K := by rfl) : OpR X (binaryOp .Add) (rCatA K) := by
  subst hK
  intro pins s σ H x y v u Q I rx ry h
  obtain ⟨a, b, xs, ys, rfl, rfl, hx, hy, hz, q0, q1, q2⟩ := h
  by_cases hne : xs = []
  · subst hne
    cases rx
    cases ry
    obtain ⟨us, r1, p1, _⟩ := I.tuple hx
    obtain ⟨ws, r2, p2, _⟩ := I.tuple hy
    obtain ⟨⟨cls, dd, data, sl⟩, ho, hc, n, hd⟩ := id p1
    obtain ⟨⟨cls2, dd2, data2, sl2⟩, ho2, hc2, n2, hd2⟩ := id p2
    simp only at hc hd hc2 hd2
    subst hc hd hc2 hd2
    cases r1
    exact concat_meets ⟨_, ho, rfl⟩ ⟨_, ho2, rfl⟩ noFill_tuple_add seq_tuple_add F.slot_tuple_add F.entry_tuple_add (F.args_tuple_add_2 _ _) (tuple_addW0 a b _ _ n n2 dd dd2 sl sl2 rfl) ⟨ho, ho2, ⟨.ref b, H, I, rfl, q0 rfl⟩⟩
  · exact op_catT pins s σ H _ _ v u Q I rx ry ⟨a, b, xs, ys, rfl, rfl, hx, hy, hne, hz, q1 hne, q2 hne⟩
/-- a walk over a list or a tuple -/
def SqX (K : PySem.W.Frag) (J : It) (H : Hp) (a : Addr) (xs : List V) : Prop := J = Itl K a ∧ SqL K H a xs ∨ J = Itt K a ∧ SqT K H a xs
def iSeq (K : PySem.W.Frag) (tl : TE) : TI := fun σ H R => tl σ H fun x H1 => ∃ a xs, x = V.ref a ∧ (SqL K H1 a xs ∨ SqT K H1 a xs) ∧ ∀ J, SqX K J H1 a xs → R J H1
theorem pi_seq {X : Cx} {tg l : Expr} {tl : TE} (K : PySem.W.Frag) (h : PE X l tl) (hK : X.K = K := by rfl) : PI X tg l (iSeq K tl) := by
  subst hK
  refine ⟨fun pins s σ H R I hw => ?_⟩
  have h2 := h.run pins s σ H _ I hw
  refine wpAny_mono h2 (fun v s1 z => ?_) fun _ _ x => x
  obtain ⟨y, H1, I1, ry, a, xs, rfl, hs, hR⟩ := z
  cases ry
  rcases hs with hs | hs
  · obtain ⟨its, rv, p, hz⟩ := I1.list hs
    exact wpAny_pyIter_list p.isList ⟨s1.heap.objs.size, [s1.heap.objs.size], (fun i h => h.IsListIter s1.heap.objs.size a i), Itl X.K a, H1, rfl, I1.kept fun b o e => Heap.get?_push_of_some _ e, turn_list a s1.heap.objs.size, ⟨_, Heap.get?_push_size s1.1 rfl, rfl, rfl⟩, fun b hb => by
      obtain rfl := List.mem_singleton.mp hb
      exact I1.fpOk (Nat.le_refl _) (I1.hok.fresh (Nat.le_refl _)), hR _ (.inl ⟨rfl, hs⟩)⟩
  · obtain ⟨its, rv, p, hz⟩ := I1.tuple hs
    exact wpAny_pyIter_tuple p ⟨s1.heap.objs.size, [s1.heap.objs.size], (fun i h => h.IsTupleIter s1.heap.objs.size a i), Itt X.K a, H1, rfl, I1.kept fun b o e => Heap.get?_push_of_some _ e, turn_tuple a s1.heap.objs.size, ⟨_, Heap.get?_push_size s1.1 rfl, rfl, rfl⟩, fun b hb => by
      obtain rfl := List.mem_singleton.mp hb
      exact I1.fpOk (Nat.le_refl _) (I1.hok.fresh (Nat.le_refl _)), hR _ (.inr ⟨rfl, hs⟩)⟩
theorem walk_seq {K : PySem.W.Frag} {J : It} {a : Addr} {xs : List V} : Walk J xs.length (fun H => SqX K J H a xs) (YAt xs) := by
  refine ⟨fun i H hi g => ?_, fun H g => ?_, fun i H x H' hi g hy => ?_⟩
  · rcases g with ⟨rfl, g⟩ | ⟨rfl, g⟩
    · exact walk_list.goes i H hi g
    · exact walk_tup.goes i H hi g
  · rcases g with ⟨rfl, g⟩ | ⟨rfl, g⟩
    · exact walk_list.stops H g
    · exact walk_tup.stops H g
  · rcases g with ⟨rfl, g⟩ | ⟨rfl, g⟩
    · exact walk_list.yields i H x H' hi g hy
    · exact walk_tup.yields i H x H' hi g hy
theorem SqX.mono {K : PySem.W.Frag} {J : It} {H H' : Hp} {a : Addr} {xs : List V} (h : SqX K J H a xs) (s : ∀ b o, H b = some o → H' b = some o) : SqX K J H' a xs := by
  rcases h with ⟨e, h⟩ | ⟨e, h⟩
  · refine .inl ⟨e, ?_⟩
    rcases h with (h | ⟨o, h⟩) | h
    · exact .inl (.inl (s _ _ h))
    · exact .inl (.inr ⟨o, s _ _ h⟩)
    · exact .inr h
  · refine .inr ⟨e, ?_⟩
    rcases h with (h | ⟨o, h⟩) | h
    · exact .inl (.inl (s _ _ h))
    · exact .inl (.inr ⟨o, s _ _ h⟩)
    · exact .inr h
theorem SqX.same {K : PySem.W.Frag} {J : It} {H H' : Hp} {a : Addr} {xs : List V} (h : SqX K J H a xs) (s : L2.Same H H') : SqX K J H' a xs := h.mono s
theorem SqX.upd {K : PySem.W.Frag} {J : It} {H : Hp} {a D : Addr} {o : HO} {xs : List V} (h : SqX K J H a xs) (hD : H D = none) : SqX K J (L2.upd H D o) a xs := h.mono fun b u e => by
  rw [upd_ne (ne_of_none e hD)]
  exact e
/-- a for over a list or a tuple -/
theorem for_seq {K : PySem.W.Frag} {J : It} {a : Addr} {xs : List V} {g : TG} {tb : TS} {D : Ends} {σ : L2.St} {H : Hp} (Pv : Nat → L2.St → Hp → Prop) (h0 : Pv 0 σ H) (hl : ∀ i σ H, i ≤ xs.length → Pv i σ H → SqX K J H a xs)
    (hs : ∀ i x σ H, xs[i]? = some x → Pv i σ H → g x σ H fun σ2 H2 => tb { D with nx := Pv (i + 1), ct := Pv (i + 1), bk := D.nx } σ2 H2) (hd : ∀ σ H, Pv xs.length σ H → D.nx σ H) :
    ∃ W : Nat → Nat → L2.St → Hp → Prop, (∃ m, W 0 m σ H) ∧ ∀ i m σ H, W i m σ H →
      (J.stop i H ∧ D.nx σ H) ∨ (J.go i H ∧ ∃ N : L2.St → Hp → Prop, (∀ σ' H', N σ' H' → ∃ m', m' < m ∧ W (i + 1) m' σ' H') ∧ ∀ x H', J.yld i H x H' → g x σ H' fun σ2 H2 => tb { D with nx := N, ct := N, bk := D.nx } σ2 H2) :=
  for_it walk_seq Pv h0 hl (fun i x σ H H' _ p y => by
    obtain ⟨rfl, y⟩ := y
    exact hs i x σ _ y p) hd
end VX

set_option Elab.async false
set_option linter.all false
set_option maxRecDepth 100000
set_option maxHeartbeats 4000000
/-! # the facts under the parts' names -/
namespace KV
open PySem PySem.Spec PyProof.Rows L2 VX
section
variable {K : PySem.W.Frag} {mg : Str → Option Value}
/-- all that a walk knows -/
structure TX (K : PySem.W.Frag) (mg : Str → Option Value) : Prop extends Txt K mg where
  dd : Dfs K
theorem TX.def (T : TX K mg) (x : Str) (i : Nat) (h : (x, i) ∈ defs := by decide +kernel) : ∃ fd, FnP K x i (He.ga K x) fd := T.dd.d (x, i) h
end
end KV

set_option linter.all false
/-! # marks on a kind (no model): a kind is the list of its signs -/
namespace KW
def isW (x y : Nat) : Bool := x == y || (x == 48 || y == 49)
def sumM (x y : Nat) : Nat := if isW x y then y else if isW y x then x else 49
def comM (x y : Nat) : Nat := if isW x y then x else if isW y x then y else 48
def hand (c : Nat) : Bool := c == 97 || c == 98 || c == 99
def PL : List Nat := [112, 108, 97, 110, 101]
def letM (c : Nat) (k : List Nat) : Nat := if k = PL then c else if c ∈ k then 49 else 48
/-- the program's mark -/
def mk (k : List Nat) : Tr → Nat
  | .lf c => if hand c then letM c k else c
  | .nd c l r => if c = 43 then sumM (mk k l) (mk k r) else comM (mk k l) (mk k r)
def WF : Tr → Bool
  | .lf c => leafC c
  | .nd c l r => jointC c && WF l && WF r
def dep : Tr → Nat
  | .lf _ => 0
  | .nd _ l r => max (dep l) (dep r) + 1
/-- the law's mark of a plane -/
def lp : Tr → Nat
  | .lf c => c
  | .nd c l r => if lp l = lp r then lp l else
      if lp l = (if c = 43 then 48 else 49) ∨ lp r = (if c = 43 then 48 else 49) then (if lp l = (if c = 43 then 48 else 49) then lp r else lp l) else (if c = 43 then 49 else 48)
/-- the law's mark of a line -/
def li (k : List Nat) : Tr → Int
  | .lf c => if c = 49 ∨ (hand c = true ∧ c ∈ k) then 1 else 0
  | .nd c l r => if c = 43 then (if li k l + li k r > 0 then 1 else 0) else li k l * li k r
def five (c : Nat) : Bool := c == 48 || c == 49 || c == 97 || c == 98 || c == 99
theorem leaf_five {c : Nat} (h : leafC c = true) : five c = true := by
  simp only [leafC, five, Bool.or_eq_true, beq_iff_eq] at *
  omega
theorem sum_five : ∀ {x y : Nat}, five x = true → five y = true → five (sumM x y) = true := by
  intro x y hx hy
  unfold sumM
  split
  · exact hy
  · split
    · exact hx
    · rfl
theorem com_five : ∀ {x y : Nat}, five x = true → five y = true → five (comM x y) = true := by
  intro x y hx hy
  unfold comM
  split
  · exact hx
  · split
    · exact hy
    · rfl
theorem mk_five {k : List Nat} : ∀ {t : Tr}, WF t = true → five (mk k t) = true
  | .lf c, h => by
    simp only [mk]
    split
    · unfold letM
      split
      · exact leaf_five h
      · split <;> rfl
    · exact leaf_five h
  | .nd c l r, h => by
    simp only [WF, Bool.and_eq_true] at h
    simp only [mk]
    split
    · exact sum_five (mk_five h.1.2) (mk_five h.2)
    · exact com_five (mk_five h.1.2) (mk_five h.2)
theorem joint_two {c : Nat} (h : jointC c = true) : c = 43 ∨ c = 38 := by simpa [jointC] using h
theorem five_cases {c : Nat} (h : five c = true) : c = 48 ∨ c = 49 ∨ c = 97 ∨ c = 98 ∨ c = 99 := by simpa [five, or_assoc] using h
theorem lp_sum {x y : Nat} (hx : five x = true) (hy : five y = true) : (if x = y then x else if x = 48 ∨ y = 48 then (if x = 48 then y else x) else 49) = sumM x y := by
  rcases five_cases hx with rfl | rfl | rfl | rfl | rfl <;> rcases five_cases hy with rfl | rfl | rfl | rfl | rfl <;> decide
theorem lp_com {x y : Nat} (hx : five x = true) (hy : five y = true) : (if x = y then x else if x = 49 ∨ y = 49 then (if x = 49 then y else x) else 48) = comM x y := by
  rcases five_cases hx with rfl | rfl | rfl | rfl | rfl <;> rcases five_cases hy with rfl | rfl | rfl | rfl | rfl <;> decide
theorem lp_mk : ∀ {t : Tr}, WF t = true → lp t = mk PL t
  | .lf c, h => by
    simp only [lp, mk, letM, if_true]
    split <;> rfl
  | .nd c l r, h => by
    simp only [WF, Bool.and_eq_true] at h
    have e1 := lp_mk h.1.2
    have e2 := lp_mk h.2
    have f1 := mk_five (k := PL) h.1.2
    have f2 := mk_five (k := PL) h.2
    simp only [lp, mk, e1, e2]
    rcases joint_two h.1.1 with rfl | rfl
    · simpa using lp_sum f1 f2
    · simpa using lp_com f1 f2
def bit (c : Nat) : Prop := c = 48 ∨ c = 49
theorem li_mk {k : List Nat} (hk : k ≠ PL) : ∀ {t : Tr}, WF t = true → bit (mk k t) ∧ li k t = (mk k t : Int) - 48
  | .lf c, h => by
    simp only [li, mk, letM, if_neg hk]
    by_cases hh : hand c = true
    · rw [if_pos hh]
      have c49 : c ≠ 49 := by
        intro e; subst e; cases hh
      by_cases hm : c ∈ k
      · rw [if_pos hm, if_pos (.inr ⟨hh, hm⟩)]
        exact ⟨.inr rfl, by decide⟩
      · rw [if_neg hm, if_neg (by simp [c49, hm])]
        exact ⟨.inl rfl, by decide⟩
    · rw [if_neg hh]
      have hc : c = 48 ∨ c = 49 := by
        simp only [WF, leafC, hand, Bool.or_eq_true, beq_iff_eq] at h hh
        omega
      rcases hc with rfl | rfl
      · exact ⟨.inl rfl, by simp [hh]⟩
      · exact ⟨.inr rfl, by simp⟩
  | .nd c l r, h => by
    simp only [WF, Bool.and_eq_true] at h
    obtain ⟨b1, e1⟩ := li_mk hk h.1.2
    obtain ⟨b2, e2⟩ := li_mk hk h.2
    simp only [li, mk, e1, e2]
    generalize mk k l = x at *
    generalize mk k r = y at *
    rcases joint_two h.1.1 with rfl | rfl <;> rcases b1 with rfl | rfl <;> rcases b2 with rfl | rfl <;> exact ⟨by unfold bit; decide, by decide⟩
/-- the law's within -/
def liW (k : List Nat) (s t : Tr) : Bool := if k = PL then isW (lp s) (lp t) else decide (li k s ≤ li k t)
theorem liW_eq {k : List Nat} {s t : Tr} (hs : WF s = true) (ht : WF t = true) : liW k s t = isW (mk k s) (mk k t) := by
  unfold liW
  by_cases hk : k = PL
  · subst hk
    rw [if_pos rfl, lp_mk hs, lp_mk ht]
  · rw [if_neg hk]
    obtain ⟨b1, e1⟩ := li_mk hk hs
    obtain ⟨b2, e2⟩ := li_mk hk ht
    rw [e1, e2]
    generalize mk k s = x at *
    generalize mk k t = y at *
    rcases b1 with rfl | rfl <;> rcases b2 with rfl | rfl <;> decide
/-- the nine kinds -/
def kinds : List (List Nat) := [[], [97], [98], [99], [97, 98], [97, 99], [98, 99], [97, 98, 99], PL]
/-- the first kind at which two words part, go beyond -/
def partK (s t : Tr) : Option (List Nat) := kinds.find? fun k => mk k s != mk k t
def gapK (s t : Tr) : Option (List Nat) := kinds.find? fun k => !isW (mk k s) (mk k t)
end KW

set_option Elab.async false
set_option linter.all false
set_option maxRecDepth 100000
set_option maxHeartbeats 4000000
/-! # the facts under the words' names -/
namespace KX
open PySem PySem.Spec PyProof.Rows L2 VX
open KV (top FnP defs iFits iLeaves iPText iCheck iSum iInter iPart iRW iWord iWithin iSumM iComM iLetM iMark s_Word_init s_Word_read s_Word_sign s_Word_parts s_Word_add s_Word_and s_Word_eq s_Word_len s_Word_text)
def kindV : List V := [.str "", .str "a", .str "b", .str "c", .str "ab", .str "ac", .str "bc", .str "abc", .str "plane"]
abbrev wC (K : PySem.W.Frag) : Addr := He.ga K "Word"
abbrev propG (K : PySem.W.Frag) (m : Str) : Addr := VY.pG K (wC K) m
/-- what a walk knows, for words -/
structure Txt (K : PySem.W.Frag) (mg : Str → Option Value) : Prop where
  t : KV.Txt K mg
section
variable {K : PySem.W.Frag} {mg : Str → Option Value}
theorem Txt.fr (T : Txt K mg) (x : Str) (h : x ∈ KV.free := by decide +kernel) : mg x = none := T.t.free x h
theorem Txt.df (T : Txt K mg) (x : Str) (i : Nat) (h : (x, i) ∈ defs := by decide +kernel) : mg x = some (.ref (He.ga K x)) := T.t.dfs (x, i) h
theorem Txt.hands (T : Txt K mg) : mg "HANDS" = some (.ref (He.ga K "HANDS")) := T.t.g_HANDS
theorem Txt.kinds (T : Txt K mg) : mg "KINDS" = some (.ref (He.ga K "KINDS")) := T.t.g_KINDS
theorem Txt.plane (T : Txt K mg) : ∃ t, mg "PLANE" = some (.str "plane" t) := T.t.s_PLANE
theorem Txt.htup (T : Txt K mg) : ∀ H, SqT K H (He.ga K "HANDS") [.str "a", .str "b", .str "c"] := T.t.t_HANDS
theorem Txt.ktup (T : Txt K mg) : ∀ H, SqT K H (He.ga K "KINDS") [.str "", .str "a", .str "b", .str "c", .str "ab", .str "ac", .str "bc", .str "abc", .str "plane"] := T.t.t_KINDS
theorem Txt.leaves (T : Txt K mg) : mg "LEAVES" = some (.ref (He.ga K "LEAVES")) := T.t.g_LEAVES
theorem Txt.joints (T : Txt K mg) : mg "JOINTS" = some (.ref (He.ga K "JOINTS")) := T.t.g_JOINTS
theorem Txt.most (T : Txt K mg) : ∃ t, mg "MOST_OPEN" = some (.int 9 t) := T.t.n_MOST_OPEN
theorem Txt.ltup (T : Txt K mg) : ∀ H, SqT K H (He.ga K "LEAVES") [.str "a", .str "b", .str "c", .str "0", .str "1"] := T.t.t_LEAVES
theorem Txt.jtup (T : Txt K mg) : ∀ H, SqT K H (He.ga K "JOINTS") [.str "+", .str "&"] := T.t.t_JOINTS
theorem Txt.word (T : Txt K mg) : mg "Word" = some (.ref (He.ga K "Word")) := T.t.g_Word
theorem Txt.cls (T : Txt K mg) : Cls K (He.ga K "Word") := T.t.c_Word
theorem Txt.fs (T : Txt K mg) : NoAttr K (He.ga K "Word") "_sign" := T.t.a_Word_sign
theorem Txt.fp (T : Txt K mg) : NoAttr K (He.ga K "Word") "_parts" := T.t.a_Word_parts
theorem Txt.mks (T : Txt K mg) : Mk K (He.ga K "Word") (He.ma K (He.ga K "Word") "__init__") := T.t.k_Word
theorem Txt.ps (T : Txt K mg) : PropOf K (He.ga K "Word") "sign" (He.ma K (He.ga K "Word") "sign") (VY.pG K (He.ga K "Word") "sign") := T.t.p_Word_sign
theorem Txt.pp (T : Txt K mg) : PropOf K (He.ga K "Word") "parts" (He.ma K (He.ga K "Word") "parts") (VY.pG K (He.ga K "Word") "parts") := T.t.p_Word_parts
theorem Txt.first (T : Txt K mg) : PySem.W.selfFirst K (He.ga K "Word") = true := T.t.f_Word
theorem Txt.inf (T : Txt K mg) : InF K (He.ga K "BadColumn") "column" := T.t.if_BadColumn
theorem Txt.add (T : Txt K mg) : PySem.W.findIn K (.ref (wC K)) "__add__" = some (some (.ref (He.ma K (wC K) "__add__"))) := T.t.o_Word_add.find
theorem Txt.addf (T : Txt K mg) : PySem.W.isFn K (.ref (He.ma K (wC K) "__add__")) = true := T.t.o_Word_add.fn
theorem Txt.and (T : Txt K mg) : PySem.W.findIn K (.ref (wC K)) "__and__" = some (some (.ref (He.ma K (wC K) "__and__"))) := T.t.o_Word_and.find
theorem Txt.andf (T : Txt K mg) : PySem.W.isFn K (.ref (He.ma K (wC K) "__and__")) = true := T.t.o_Word_and.fn
end
end KX

set_option Elab.async false
set_option linter.all false
set_option maxRecDepth 100000
set_option maxHeartbeats 4000000
/-! # words.py: fits, check_text -/
namespace KX
open PySem PySem.Spec PyProof.Rows L2 VX KW
open KV (top FnP defs iFits iLeaves iPText iCheck iSum iInter iPart iRW iWord iWithin iSumM iComM iLetM iMark s_Word_init s_Word_read s_Word_sign s_Word_parts s_Word_add s_Word_and s_Word_eq s_Word_len s_Word_text)
section
variable {P : Program} {w : World} {K : PySem.W.Frag} {mg : Str → Option Value} {base : Heap} {f : Addr} {fd : FuncData}
/-- a text of one sign -/
abbrev one (c : Nat) : Str := ⟨#[c]⟩
theorem one_eq {c d : Nat} : (one c = one d) ↔ c = d := by
  constructor
  · intro h
    have := congrArg (fun s : Str => s.cps.toList) h
    simpa using this
  · rintro rfl; rfl
theorem dec_one {c d : Nat} : decide (V.str (one c) = V.str (one d)) = (c == d) := by
  rw [Bool.eq_iff_iff]
  simp only [decide_eq_true_eq, beq_iff_eq]
  constructor
  · intro h
    exact one_eq.mp (by injection h)
  · rintro rfl; rfl
theorem beq_one {c d : Nat} : (one d == one c) = (c == d) := by
  rw [Bool.eq_iff_iff, beq_iff_eq, beq_iff_eq, one_eq]
  exact eq_comm
theorem in_leaves (c : Nat) : inV (V.str (one c)) [V.str "a", V.str "b", V.str "c", V.str "0", V.str "1"] = leafC c := by
  show ((one 97 == one c) || ((one 98 == one c) || ((one 99 == one c) || ((one 48 == one c) || ((one 49 == one c) || false))))) = _
  simp only [beq_one, leafC, Bool.or_false, Bool.or_assoc]
theorem in_joints (c : Nat) : inV (V.str (one c)) [V.str "+", V.str "&"] = jointC c := by
  show ((one 43 == one c) || ((one 38 == one c) || false)) = _
  simp only [beq_one, jointC, Bool.or_false]
/-! ### fits -/
def spFits : Sp := fun vs H Q _ => ∃ (c : Nat) (m : Int), vs = [.str (one c), .int m] ∧ Q (.bl (if leafC c = true then decide (m = 0) else jointC c && decide (m = 2))) H
theorem sc_fits : FnScope ["sign", "many"] ["sign", "many"] (defScope (top iFits)) := ⟨rfl, rfl, rfl, by decide +kernel, rfl, by decide +kernel, by decide +kernel⟩
theorem ok_fits (F : FnP K "fits" iFits f fd) (T : Txt K mg) : FnOk P w K mg base CX0 1 f fd ["sign", "many"] spFits := by
  refine F.ok sc_fits (fun vs H Q E h => ?_) (fun cdv A outer s H vs Q E hr h => ?_)
  · obtain ⟨c, m, rfl, _⟩ := h
    rfl
  · obtain ⟨c, m, rfl, k⟩ := h
    refine ⟨_, PSs.nox (pss_cons (ps_if (pt_cmpR op_in_seq (pv 0) (pe_glob (v := .ref (He.ga K "LEAVES")) (by rfl) T.leaves rfl) (by rfl)) (pss_one (ps_ret (pe_cmp (pc_eqI (pv 1) pe_int) rfl))) pss_nil)
      (pss_one (ps_ret (pe_and (pe_cmpR op_in_seq (pv 0) (pe_glob (v := .ref (He.ga K "JOINTS")) (by rfl) T.joints rfl) (by rfl)) (pe_one (pe_cmp (pc_eqI (pv 1) pe_int) rfl)))))), ?_⟩
    refine ⟨_, rfl, _, _, rfl, .inr (T.ltup _), rfl, rfl, _, rfl, ?_⟩
    simp only [Bool.false_eq_true, if_false, in_leaves]
    refine ite2 (fun hc => ?_) (fun hc => ?_)
    · rw [if_pos hc] at k
      exact ⟨_, rfl, _, _, rfl, rfl, k⟩
    · rw [if_neg hc] at k
      refine ⟨_, rfl, _, _, rfl, .inr (T.jtup _), rfl, rfl, _, rfl, ?_⟩
      simp only [Bool.false_eq_true, if_false, in_joints]
      cases hj : jointC c with
      | false =>
        rw [hj] at k
        exact iteF k
      | true =>
        rw [hj] at k
        exact iteT ⟨_, rfl, _, _, rfl, rfl, k⟩
/-! ### check_text -/
end
end KX

set_option Elab.async false
set_option linter.all false
set_option maxRecDepth 100000
set_option maxHeartbeats 4000000
/-! # words.py: Word -/
namespace KX
open PySem PySem.Spec PyProof.Rows L2 VX KW
open KV (top FnP defs iFits iLeaves iPText iCheck iSum iInter iPart iRW iWord iWithin iSumM iComM iLetM iMark s_Word_init s_Word_read s_Word_sign s_Word_parts s_Word_add s_Word_and s_Word_eq s_Word_len s_Word_text)
section
variable {P : Program} {w : World} {K : PySem.W.Frag} {mg : Str → Option Value} {base : Heap} {f : Addr} {fd : FuncData}
abbrev sWI : Stmt := inClass (top iWord) 0
def fitB (c m : Nat) : Bool := if leafC c = true then decide (m = 0) else jointC c && decide (m = 2)
/-- the word at x: its sign, its parts -/
def IsWd (K : PySem.W.Frag) (H : Hp) (x : Addr) (c : Nat) (xs : List V) : Prop := ∃ dx a, H x = some (.ins (wC K) dx [("_sign", .str (one c)), ("_parts", .ref a)]) ∧ SqT K H a xs
theorem SqT.same {H H' : Hp} {a : Addr} {xs : List V} (s : Same H H') (h : SqT K H a xs) : SqT K H' a xs := by
  rcases h with (h | ⟨o, h⟩) | h
  · exact .inl (.inl (s _ _ h))
  · exact .inl (.inr ⟨o, s _ _ h⟩)
  · exact .inr h
theorem IsWd.same {H H' : Hp} {x : Addr} {c : Nat} {xs : List V} (s : Same H H') (h : IsWd K H x c xs) : IsWd K H' x c xs := by
  obtain ⟨dx, a, h1, h2⟩ := h
  exact ⟨dx, a, s _ _ h1, SqT.same s h2⟩
theorem seqT_keep {H H' : Hp} {x a C dx : Addr} {fs : List (Str × V)} {xs : List V} (hx : H x = some (.ins C dx fs)) (k : ∀ b o, H b = some o → b ≠ x → H' b = some o) (h : SqT K H a xs) : SqT K H' a xs := by
  rcases h with (h | ⟨o, h⟩) | h
  · exact .inl (.inl (k _ _ h (ne_of h hx (by intro z; cases z))))
  · exact .inl (.inr ⟨o, k _ _ h (ne_of h hx (by intro z; cases z))⟩)
  · exact .inr h
theorem seqL_keep {H H' : Hp} {x a C dx : Addr} {fs : List (Str × V)} {xs : List V} (hx : H x = some (.ins C dx fs)) (k : ∀ b o, H b = some o → b ≠ x → H' b = some o) (h : SqL K H a xs) : SqL K H' a xs := by
  rcases h with (h | ⟨o, h⟩) | h
  · exact .inl (.inl (k _ _ h (ne_of h hx (by intro z; cases z))))
  · exact .inl (.inr ⟨o, k _ _ h (ne_of h hx (by intro z; cases z))⟩)
  · exact .inr h
def spWI (K : PySem.W.Frag) : Sp := fun vs H Q _ => ∃ (x : Addr) (c : Nat) (a : Addr) (xs : List V) (dx : Addr), vs = [.ref x, .str (one c), .ref a] ∧ H x = some (.ins (wC K) dx []) ∧ (SqL K H a xs ∨ SqT K H a xs) ∧ fitB c xs.length = true ∧ xs.length ≤ 1000 ∧
  ∀ H', (∀ b o, H b = some o → b ≠ x → H' b = some o) → IsWd K H' x c xs → Q .non H'
theorem sc_wi : FnScope ["self", "sign", "parts"] ["self", "sign", "parts"] (defScope sWI) := ⟨rfl, rfl, rfl, by decide +kernel, rfl, by decide +kernel, by decide +kernel⟩
theorem ok_wi {dvs : List V} {fd1 : FuncData} (F : FunD K "__init__" "Word.__init__" (defArgs sWI) (defBody sWI) (defScope sWI) dvs [] f fd) (T : Txt K mg) (F1 : FnP K "fits" iFits (He.ga K "fits") fd1) : FnOk P w K mg base CX0 2 f fd ["self", "sign", "parts"] (spWI K) := by
  have G1 : FnOk P w K mg base CX0 1 _ fd1 ["sign", "many"] spFits := ok_fits F1 T
  have B1 : Binds K fd1 ["sign", "many"] [] := F1.bindsN fun _ _ _ _ _ _ us hl => match us, hl with | [_, _], _ => rfl
  refine F.ok sc_wi (fun vs H Q E h => ?_) (fun cdv A outer s H vs Q E hr h => ?_)
  · obtain ⟨x, c, a, xs, dx, rfl, _⟩ := h
    rfl
  · obtain ⟨x, c, a, xs, dx, rfl, hx, hs, hf, hl, k⟩ := h
    refine ⟨_, PSs.nox (pss_cons (ps_if (pt_not (pt_val (pe_call G1 hr (by rfl) (T.df "fits" iFits) F1.kp B1 .nil pass0 (pa_cons (pv 1) (pa_cons (pe_callB call_len_seq (by rfl) (T.fr "len") boot_len (pa_cons (pv 2) pa_nil)) pa_nil))))) (pss_one ps_never) pss_nil)
      (pss_cons (ps_fld (pv 0) (pv 1) rfl)
      (pss_one (ps_fld (pv 0) (pe_callTy call_tuple_of (by rfl) (T.fr "tuple") (by decide +kernel) (pa_cons (pv 2) pa_nil)) rfl)))), ?_⟩
    refine ⟨_, rfl, _, rfl, a, xs, rfl, hs, c, (xs.length : Nat), rfl, _, rfl, ?_⟩
    have e : (if leafC c = true then decide ((xs.length : Int) = 0) else jointC c && decide ((xs.length : Int) = 2)) = true := by
      have q := hf
      unfold fitB at q
      have e1 : decide ((xs.length : Int) = 0) = decide (xs.length = 0) := decide_eq_decide.mpr (by omega)
      have e2 : decide ((xs.length : Int) = 2) = decide (xs.length = 2) := decide_eq_decide.mpr (by omega)
      rwa [← e1, ← e2] at q
    rw [e]
    refine iteF ?_
    refine ⟨_, rfl, _, rfl, x, _, dx, [], rfl, hx, T.cls, T.fs, by decide, ?_⟩
    have hx1 : upd H x (.ins (wC K) dx [("_sign", .str (one c))]) x = some (.ins (wC K) dx [("_sign", .str (one c))]) := upd_same
    have k1 : ∀ b o, H b = some o → b ≠ x → upd H x (.ins (wC K) dx [("_sign", .str (one c))]) b = some o := fun b o q ne => by rw [upd_ne ne]; exact q
    rcases hs with hs | hs
    · refine ⟨_, rfl, a, xs, rfl, .inl ⟨seqL_keep hx k1 hs, fun t ht => ?_⟩⟩
      have tx : x ≠ t := ne_of_none hx1 ht
      refine ⟨_, rfl, x, _, dx, _, rfl, (by rw [upd_ne tx]; exact hx1), T.cls, T.fp, (by show 1 < 1000; decide), ?_⟩
      refine k _ (fun b o q ne => ?_) ⟨dx, t, upd_same, .inl (.inl (by rw [upd_ne (Ne.symm tx), upd_same]))⟩
      have q1 := k1 b o q ne
      rw [upd_ne ne, upd_ne (ne_of_none q1 ht)]
      exact q1
    · refine ⟨_, rfl, a, xs, rfl, .inr ⟨seqT_keep hx k1 hs, ?_⟩⟩
      refine ⟨_, rfl, x, _, dx, _, rfl, hx1, T.cls, T.fp, (by show 1 < 1000; decide), ?_⟩
      rw [upd_upd]
      have k2 : ∀ b o, H b = some o → b ≠ x → upd H x (.ins (wC K) dx (putF "_parts" (V.ref a) [("_sign", .str (one c))])) b = some o := fun b o q ne => by rw [upd_ne ne]; exact q
      exact k _ k2 ⟨dx, a, upd_same, seqT_keep hx k2 hs⟩
/-! ### __add__, __and__ -/
structure Wif (K : PySem.W.Frag) (fdI : FuncData) (dv : V) (fd1 : FuncData) : Prop where
  fi : FunD K "__init__" "Word.__init__" (defArgs sWI) (defBody sWI) (defScope sWI) [dv] [] (He.ma K (wC K) "__init__") fdI
  ft : FnP K "fits" iFits (He.ga K "fits") fd1
  dv : ∃ a, dv = .ref a ∧ ∀ H, SqT K H a []
end
end KX

set_option Elab.async false
set_option linter.all false
set_option maxRecDepth 100000
set_option maxHeartbeats 4000000
/-! # words.py: read_part, read_intersection, read_sum -/
namespace KX
open PySem PySem.Spec PyProof.Rows L2 VX KW
open KV (top FnP defs iFits iLeaves iPText iCheck iSum iInter iPart iRW iWord iWithin iSumM iComM iLetM iMark s_Word_init s_Word_read s_Word_sign s_Word_parts s_Word_add s_Word_and s_Word_eq s_Word_len s_Word_text)
section
variable {P : Program} {w : World} {K : PySem.W.Frag} {mg : Str → Option Value} {base : Heap} {f : Addr} {fd : FuncData}
/-- the tree of the word at x -/
def IsTr (K : PySem.W.Frag) (H : Hp) : Addr → Tr → Prop
  | x, .lf c => leafC c = true ∧ IsWd K H x c []
  | x, .nd c l r => jointC c = true ∧ ∃ y z, IsWd K H x c [.ref y, .ref z] ∧ IsTr K H y l ∧ IsTr K H z r
theorem IsTr.same {H H' : Hp} (s : Same H H') : ∀ {t : Tr} {x : Addr}, IsTr K H x t → IsTr K H' x t
  | .lf _, _, h => ⟨h.1, h.2.same s⟩
  | .nd _ _ _, _, h => by
    obtain ⟨j, y, z, h1, h2, h3⟩ := h
    exact ⟨j, y, z, h1.same s, h2.same s, h3.same s⟩
theorem IsTr.ins {H : Hp} {x : Addr} : ∀ {t : Tr}, IsTr K H x t → ∃ dx fs, H x = some (.ins (wC K) dx fs)
  | .lf _, h => by obtain ⟨_, dx, a, h1, _⟩ := h; exact ⟨_, _, h1⟩
  | .nd _ _ _, h => by obtain ⟨_, y, z, ⟨dx, a, h1, _⟩, _⟩ := h; exact ⟨_, _, h1⟩
theorem Wif.b0 {fdI fd1 : FuncData} {dv : V} (Z : Wif K fdI dv fd1) : ∃ ds, Vals [dv] ds ∧ Binds K fdI ["self", "sign", "parts"] ds := by
  obtain ⟨ds, h1, h2⟩ := Z.fi.binds1 (ps := ["self", "sign", "parts"]) 2 0 (by simp) (by simp) fun T kV doc pm an cdv ct us its hl hi => by
    match us, its, hl, hi with
    | [a, b], [e], _, _ => exact ⟨_, rfl, rfl⟩
  exact ⟨ds, h1, h2⟩
end
end KX

set_option Elab.async false
set_option linter.all false
set_option maxRecDepth 100000
set_option maxHeartbeats 4000000
/-! # words.py: sign, parts, leaves, __len__ -/
namespace KX
open PySem PySem.Spec PyProof.Rows L2 VX KW
open KV (top FnP defs iFits iLeaves iPText iCheck iSum iInter iPart iRW iWord iWithin iSumM iComM iLetM iMark s_Word_init s_Word_read s_Word_sign s_Word_parts s_Word_add s_Word_and s_Word_eq s_Word_len s_Word_text)
section
variable {P : Program} {w : World} {K : PySem.W.Frag} {mg : Str → Option Value} {base : Heap} {f : Addr} {fd : FuncData}
abbrev sSg : Stmt := inClass (top iWord) 2
abbrev sPa : Stmt := inClass (top iWord) 3
def spGetS (K : PySem.W.Frag) : Sp := fun vs H Q _ => ∃ (x : Addr) (c : Nat) (xs : List V), vs = [.ref x] ∧ IsWd K H x c xs ∧ Q (.str (one c)) H
def spGetP (K : PySem.W.Frag) : Sp := fun vs H Q _ => ∃ (x : Addr) (c : Nat) (xs : List V), vs = [.ref x] ∧ IsWd K H x c xs ∧ ∀ a, SqT K H a xs → Q (.ref a) H
theorem sc_gets : FnScope ["self"] ["self"] (defScope sSg) := ⟨rfl, rfl, rfl, by decide +kernel, rfl, by decide +kernel, by decide +kernel⟩
theorem sc_getp : FnScope ["self"] ["self"] (defScope sPa) := ⟨rfl, rfl, rfl, by decide +kernel, rfl, by decide +kernel, by decide +kernel⟩
theorem ok_gets (F : FunD K "sign" "Word.sign" (defArgs sSg) (defBody sSg) (defScope sSg) [] [] f fd) (T : Txt K mg) : FnOk P w K mg base CX0 1 f fd ["self"] (spGetS K) := by
  refine F.ok sc_gets (fun vs H Q E h => ?_) (fun cdv A outer s H vs Q E hr h => ?_)
  · obtain ⟨x, c, xs, rfl, _⟩ := h
    rfl
  · obtain ⟨x, c, xs, rfl, ⟨dx, a, h1, h2⟩, k⟩ := h
    exact ⟨_, PSs.nox (pss_one (ps_ret (pe_fld (pv 0) rfl))), _, rfl, x, _, dx, _, .str (one c), rfl, h1, T.cls, T.fs, rfl, k⟩
theorem ok_getp (F : FunD K "parts" "Word.parts" (defArgs sPa) (defBody sPa) (defScope sPa) [] [] f fd) (T : Txt K mg) : FnOk P w K mg base CX0 1 f fd ["self"] (spGetP K) := by
  refine F.ok sc_getp (fun vs H Q E h => ?_) (fun cdv A outer s H vs Q E hr h => ?_)
  · obtain ⟨x, c, xs, rfl, _⟩ := h
    rfl
  · obtain ⟨x, c, xs, rfl, ⟨dx, a, h1, h2⟩, k⟩ := h
    exact ⟨_, PSs.nox (pss_one (ps_ret (pe_fld (pv 0) rfl))), _, rfl, x, _, dx, _, .ref a, rfl, h1, T.cls, T.fp, rfl, k a h2⟩
end
end KX

set_option Elab.async false
set_option linter.all false
set_option maxRecDepth 100000
set_option maxHeartbeats 4000000
/-! # words.py: renamed -/
namespace KX
open PySem PySem.Spec PyProof.Rows L2 VX KW
open KV (top FnP defs iFits iLeaves iPText iCheck iSum iInter iPart iRW iWord iWithin iSumM iComM iLetM iMark s_Word_init s_Word_read s_Word_sign s_Word_parts s_Word_add s_Word_and s_Word_eq s_Word_len s_Word_text)
section
variable {P : Program} {w : World} {K : PySem.W.Frag} {mg : Str → Option Value} {base : Heap} {f : Addr} {fd : FuncData}
theorem IsTr.wf {H : Hp} : ∀ {t : Tr} {x : Addr}, IsTr K H x t → WF t = true
  | .lf _, _, h => by simpa [WF] using h.1
  | .nd _ _ _, _, h => by
    obtain ⟨j, y, z, _, h2, h3⟩ := h
    simp [WF, j, h2.wf, h3.wf]
end
end KX

set_option Elab.async false
set_option linter.all false
set_option maxRecDepth 100000
set_option maxHeartbeats 4000000
/-! # _law_word -/
namespace KX
open PySem PySem.Spec PyProof.Rows L2 VX KW
open KV (top FnP defs iFits iLeaves iPText iCheck iSum iInter iPart iRW iWord iWithin iSumM iComM iLetM iMark s_Word_init s_Word_read s_Word_sign s_Word_parts s_Word_add s_Word_and s_Word_eq s_Word_len s_Word_text)
section
variable {P : Program} {w : World} {K : PySem.W.Frag} {mg : Str → Option Value} {base : Heap} {f : Addr} {fd : FuncData}
theorem Wif.b1 {fdI fd1 : FuncData} {dv : V} (Z : Wif K fdI dv fd1) : Binds K fdI ["self", "sign", "parts"] [] := by
  obtain ⟨ds, h1, h2⟩ := Z.fi.binds1 (ps := ["self", "sign", "parts"]) 3 1 (by simp) (by simp) fun T kV doc pm an cdv ct us its hl hi => by
    match us, its, hl, hi with
    | [a, b, c], [e], _, _ => exact ⟨_, rfl, rfl⟩
  cases h1
  exact h2
end
end KX

set_option Elab.async false
set_option linter.all false
set_option maxRecDepth 100000
set_option maxHeartbeats 4000000
/-! # classes.py: marks -/
namespace KX
open PySem PySem.Spec PyProof.Rows L2 VX KW
open KV (top FnP defs iFits iLeaves iPText iCheck iSum iInter iPart iRW iWord iWithin iSumM iComM iLetM iMark s_Word_init s_Word_read s_Word_sign s_Word_parts s_Word_add s_Word_and s_Word_eq s_Word_len s_Word_text)
section
variable {P : Program} {w : World} {K : PySem.W.Frag} {mg : Str → Option Value} {base : Heap} {f : Addr} {fd : FuncData}
/-! ### is_within, sum_mark, common_mark -/
def spWithin : Sp := fun vs H Q _ => ∃ x y : Nat, vs = [.str (one x), .str (one y)] ∧ Q (.bl (isW x y)) H
theorem sc_within : FnScope ["one", "other"] ["one", "other"] (defScope (top iWithin)) := ⟨rfl, rfl, rfl, by decide +kernel, rfl, by decide +kernel, by decide +kernel⟩
theorem ok_within (F : FnP K "is_within" iWithin f fd) (T : Txt K mg) : FnOk P w K mg base CX0 1 f fd ["one", "other"] spWithin := by
  refine F.ok sc_within (fun vs H Q E h => ?_) (fun cdv A outer s H vs Q E hr h => ?_)
  · obtain ⟨x, y, rfl, _⟩ := h
    rfl
  · obtain ⟨x, y, rfl, k⟩ := h
    refine ⟨_, PSs.nox (pss_one (ps_ret (pe_or (pe_cmpR op_eq (pv 0) (pv 1) (nomark _)) (pe_or (pe_cmpR op_eq (pv 0) pe_str (nomark _)) (pe_one (pe_cmpR op_eq (pv 1) pe_str (nomark _))))))), ?_⟩
    refine ⟨_, rfl, _, rfl, rfl, _, rfl, ?_⟩
    rw [show decide (V.str (one x) = V.str (one y)) = (x == y) from dec_one]
    unfold isW at k
    refine ite2 (fun h => ?_) (fun h => ?_)
    · rw [h] at k
      exact k
    · rw [Bool.eq_false_iff.mpr h] at k
      refine ⟨_, rfl, rfl, _, rfl, ?_⟩
      rw [show decide (V.str (one x) = V.str "0") = (x == 48) from dec_one]
      refine ite2 (fun h => ?_) (fun h => ?_)
      · rw [h] at k
        exact k
      · rw [Bool.eq_false_iff.mpr h] at k
        refine ⟨_, rfl, rfl, ?_⟩
        show Q (.bl (decide (V.str (one y) = V.str "1"))) H
        rw [show decide (V.str (one y) = V.str "1") = (y == 49) from dec_one]
        exact k
def spSumM : Sp := fun vs H Q _ => ∃ x y : Nat, vs = [.str (one x), .str (one y)] ∧ Q (.str (one (sumM x y))) H
theorem sc_sumM : FnScope ["one", "other"] ["one", "other"] (defScope (top iSumM)) := ⟨rfl, rfl, rfl, by decide +kernel, rfl, by decide +kernel, by decide +kernel⟩
theorem ok_sumM {fdW : FuncData} (F : FnP K "sum_mark" iSumM f fd) (T : Txt K mg) (FW : FnP K "is_within" iWithin (He.ga K "is_within") fdW) : FnOk P w K mg base CX0 2 f fd ["one", "other"] spSumM := by
  have GW : FnOk P w K mg base CX0 1 _ fdW ["one", "other"] spWithin := ok_within FW T
  have BW : Binds K fdW ["one", "other"] [] := FW.bindsN fun _ _ _ _ _ _ us hl => match us, hl with | [_, _], _ => rfl
  refine F.ok sc_sumM (fun vs H Q E h => ?_) (fun cdv A outer s H vs Q E hr h => ?_)
  · obtain ⟨x, y, rfl, _⟩ := h
    rfl
  · obtain ⟨x, y, rfl, k⟩ := h
    refine ⟨_, PSs.nox (pss_cons (ps_if (pt_val (pe_call GW hr (by rfl) (T.df "is_within" iWithin) FW.kp BW .nil pass0 (pa_cons (pv 0) (pa_cons (pv 1) pa_nil)))) (pss_one (ps_ret (pv 1))) pss_nil) (pss_one (ps_ret (pe_ifExp (pt_val (pe_call GW hr (by rfl) (T.df "is_within" iWithin) FW.kp BW .nil pass0 (pa_cons (pv 1) (pa_cons (pv 0) pa_nil)))) (pv 0) pe_str)))), ?_⟩
    unfold sumM at k
    refine ⟨_, rfl, _, rfl, x, y, rfl, _, rfl, ?_⟩
    refine ite2 (fun h => ?_) (fun h => ?_)
    · rw [if_pos h] at k
      exact ⟨_, rfl, k⟩
    · rw [if_neg h] at k
      refine ⟨_, rfl, _, rfl, y, x, rfl, _, rfl, ?_⟩
      refine ite2 (fun h2 => ?_) (fun h2 => ?_)
      · rw [if_pos h2] at k
        exact ⟨_, rfl, k⟩
      · rw [if_neg h2] at k
        exact k
def spCom : Sp := fun vs H Q _ => ∃ x y : Nat, vs = [.str (one x), .str (one y)] ∧ Q (.str (one (comM x y))) H
theorem sc_com : FnScope ["one", "other"] ["one", "other"] (defScope (top iComM)) := ⟨rfl, rfl, rfl, by decide +kernel, rfl, by decide +kernel, by decide +kernel⟩
theorem ok_com {fdW : FuncData} (F : FnP K "common_mark" iComM f fd) (T : Txt K mg) (FW : FnP K "is_within" iWithin (He.ga K "is_within") fdW) : FnOk P w K mg base CX0 2 f fd ["one", "other"] spCom := by
  have GW : FnOk P w K mg base CX0 1 _ fdW ["one", "other"] spWithin := ok_within FW T
  have BW : Binds K fdW ["one", "other"] [] := FW.bindsN fun _ _ _ _ _ _ us hl => match us, hl with | [_, _], _ => rfl
  refine F.ok sc_com (fun vs H Q E h => ?_) (fun cdv A outer s H vs Q E hr h => ?_)
  · obtain ⟨x, y, rfl, _⟩ := h
    rfl
  · obtain ⟨x, y, rfl, k⟩ := h
    refine ⟨_, PSs.nox (pss_cons (ps_if (pt_val (pe_call GW hr (by rfl) (T.df "is_within" iWithin) FW.kp BW .nil pass0 (pa_cons (pv 0) (pa_cons (pv 1) pa_nil)))) (pss_one (ps_ret (pv 0))) pss_nil) (pss_one (ps_ret (pe_ifExp (pt_val (pe_call GW hr (by rfl) (T.df "is_within" iWithin) FW.kp BW .nil pass0 (pa_cons (pv 1) (pa_cons (pv 0) pa_nil)))) (pv 1) pe_str)))), ?_⟩
    unfold comM at k
    refine ⟨_, rfl, _, rfl, x, y, rfl, _, rfl, ?_⟩
    refine ite2 (fun h => ?_) (fun h => ?_)
    · rw [if_pos h] at k
      exact ⟨_, rfl, k⟩
    · rw [if_neg h] at k
      refine ⟨_, rfl, _, rfl, y, x, rfl, _, rfl, ?_⟩
      refine ite2 (fun h2 => ?_) (fun h2 => ?_)
      · rw [if_pos h2] at k
        exact ⟨_, rfl, k⟩
      · rw [if_neg h2] at k
        exact k
/-! ### letter_mark -/
/-- the kind as a text -/
def kS (k : List Nat) : Str := ⟨k.toArray⟩
theorem kS_list {k : List Nat} : (kS k).cps.toList = k := by simp [kS]
theorem kS_pl {k : List Nat} : decide (V.str (kS k) = V.str "plane") = decide (k = PL) := by
  apply decide_eq_decide.mpr
  constructor
  · intro h
    injection h with h
    have := congrArg (fun s : Str => s.cps.toList) h
    simp [kS] at this
    exact this
  · rintro rfl
    rfl
def spLet : Sp := fun vs H Q _ => ∃ (c : Nat) (k : List Nat), vs = [.str (one c), .str (kS k)] ∧ Q (.str (one (letM c k))) H
theorem sc_let : FnScope ["hand", "kind"] ["hand", "kind"] (defScope (top iLetM)) := ⟨rfl, rfl, rfl, by decide +kernel, rfl, by decide +kernel, by decide +kernel⟩
theorem ok_let (F : FnP K "letter_mark" iLetM f fd) (T : Txt K mg) : FnOk P w K mg base CX0 1 f fd ["hand", "kind"] spLet := by
  obtain ⟨tm, hm⟩ := T.plane
  refine F.ok sc_let (fun vs H Q E h => ?_) (fun cdv A outer s H vs Q E hr h => ?_)
  · obtain ⟨c, k, rfl, _⟩ := h
    rfl
  · obtain ⟨c, k, rfl, q⟩ := h
    refine ⟨_, PSs.nox (pss_cons (ps_if (pt_cmpR op_eq (pv 1) (pe_glob (v := .str "plane") (by rfl) hm ⟨tm, rfl⟩) (nomark _)) (pss_one (ps_ret (pv 0))) pss_nil) (pss_one (ps_ret (pe_ifExp (pt_cmpR op_in_sign (pv 0) (pv 1) (by rfl)) pe_str pe_str)))), ?_⟩
    unfold letM at q
    refine ⟨_, rfl, rfl, _, rfl, ?_⟩
    rw [kS_pl]
    refine ite2 (fun h => ?_) (fun h => ?_)
    · have h' := of_decide_eq_true h
      rw [if_pos h'] at q
      exact ⟨_, rfl, q⟩
    · have h' : k ≠ PL := fun e => h (decide_eq_true e)
      rw [if_neg h'] at q
      refine ⟨_, rfl, _, rfl, c, _, rfl, rfl, _, rfl, ?_⟩
      rw [kS_list]
      refine ite2 (fun h2 => ?_) (fun h2 => ?_)
      · rw [if_pos (of_decide_eq_true h2)] at q
        exact q
      · rw [if_neg (fun e => h2 (decide_eq_true e))] at q
        exact q
end
end KX

set_option Elab.async false
set_option linter.all false
set_option maxRecDepth 100000
set_option maxHeartbeats 4000000
/-! # classes.py: mark -/
namespace KX
open PySem PySem.Spec PyProof.Rows L2 VX KW
open KV (top FnP defs iFits iLeaves iPText iCheck iSum iInter iPart iRW iWord iWithin iSumM iComM iLetM iMark s_Word_init s_Word_read s_Word_sign s_Word_parts s_Word_add s_Word_and s_Word_eq s_Word_len s_Word_text)
section
variable {P : Program} {w : World} {K : PySem.W.Frag} {mg : Str → Option Value} {base : Heap} {f : Addr} {fd : FuncData}
theorem in_hands (c : Nat) : inV (V.str (one c)) [V.str "a", V.str "b", V.str "c"] = hand c := by
  show ((one 97 == one c) || ((one 98 == one c) || ((one 99 == one c) || false))) = _
  simp only [beq_one, hand, Bool.or_false, Bool.or_assoc]
/-- the defs that mark reaches -/
structure Mkf (K : PySem.W.Frag) (fdW fdS fdC fdL fdg fdp : FuncData) : Prop where
  fw : FnP K "is_within" iWithin (He.ga K "is_within") fdW
  fs : FnP K "sum_mark" iSumM (He.ga K "sum_mark") fdS
  fc : FnP K "common_mark" iComM (He.ga K "common_mark") fdC
  fl : FnP K "letter_mark" iLetM (He.ga K "letter_mark") fdL
  fg : FunD K "sign" "Word.sign" (defArgs sSg) (defBody sSg) (defScope sSg) [] [] (propG K "sign") fdg
  fp : FunD K "parts" "Word.parts" (defArgs sPa) (defBody sPa) (defScope sPa) [] [] (propG K "parts") fdp
def spMark (K : PySem.W.Frag) (n : Nat) : Sp := fun vs H Q _ => ∃ (x : Addr) (t : Tr) (k : List Nat), vs = [.ref x, .str (kS k)] ∧ IsTr K H x t ∧ dep t ≤ n ∧ ∀ H', Same H H' → Q (.str (one (mk k t))) H'
def spMarkL (K : PySem.W.Frag) : Nat → Sp
  | 0 => fun _ _ _ _ => False
  | n + 1 => spMark K n
abbrev nM : List Str := ["word", "kind", "first", "second", "part"]
theorem sc_mark : FnScope nM ["word", "kind"] (defScope (top iMark)) := ⟨rfl, rfl, rfl, by decide +kernel, rfl, by decide +kernel, by decide +kernel⟩
theorem ok_mark1 {fdW fdS fdC fdL fdg fdp : FuncData} (F : FnP K "mark" iMark (He.ga K "mark") fd) (T : Txt K mg) (Z : Mkf K fdW fdS fdC fdL fdg fdp) (n : Nat) (GR : FnOk P w K mg base CX0 (3 + n) (He.ga K "mark") fd ["word", "kind"] (spMarkL K n)) :
    FnOk P w K mg base CX0 (4 + n) (He.ga K "mark") fd ["word", "kind"] (spMark K n) := by
  have BR : Binds K fd ["word", "kind"] [] := F.bindsN fun _ _ _ _ _ _ us hl => match us, hl with | [_, _], _ => rfl
  have GSg : FnOk P w K mg base CX0 1 _ fdg ["self"] (spGetS K) := ok_gets Z.fg T
  have BSg : Binds K fdg ["self"] [] := Z.fg.bindsN fun _ _ _ _ _ _ us hl => match us, hl with | [_], _ => rfl
  have GPa : FnOk P w K mg base CX0 1 _ fdp ["self"] (spGetP K) := ok_getp Z.fp T
  have BPa : Binds K fdp ["self"] [] := Z.fp.bindsN fun _ _ _ _ _ _ us hl => match us, hl with | [_], _ => rfl
  have GL : FnOk P w K mg base CX0 1 _ fdL ["hand", "kind"] spLet := ok_let Z.fl T
  have BL : Binds K fdL ["hand", "kind"] [] := Z.fl.bindsN fun _ _ _ _ _ _ us hl => match us, hl with | [_, _], _ => rfl
  have GS : FnOk P w K mg base CX0 2 _ fdS ["one", "other"] spSumM := ok_sumM Z.fs T Z.fw
  have BS : Binds K fdS ["one", "other"] [] := Z.fs.bindsN fun _ _ _ _ _ _ us hl => match us, hl with | [_, _], _ => rfl
  have GC : FnOk P w K mg base CX0 2 _ fdC ["one", "other"] spCom := ok_com Z.fc T Z.fw
  have BC : Binds K fdC ["one", "other"] [] := Z.fc.bindsN fun _ _ _ _ _ _ us hl => match us, hl with | [_, _], _ => rfl
  rw [show 4 + n = (3 + n) + 1 by omega]
  refine F.ok sc_mark (fun vs H Q E h => ?_) (fun cdv A outer s H vs Q E hr h => ?_)
  · obtain ⟨x, t, k, rfl, _⟩ := h
    rfl
  · obtain ⟨x, t, k, rfl, hx, hd, q⟩ := h
    have nd := sc_mark.nd
    have hr1 : Room 1 _ := hr.mono (by omega)
    have hr2 : Room 2 _ := hr.mono (by omega)
    refine ⟨_, PSs.nox (pss_cons (ps_if (pt_cmpR op_in_seq (pe_prop (pv 0) T.cls T.ps GSg hr2 BSg .nil pass0 rfl) (pe_glob (v := .ref (He.ga K "HANDS")) (by rfl) T.hands rfl) (by rfl)) (pss_one (ps_ret (pe_call GL hr1 (by rfl) (T.df "letter_mark" iLetM) Z.fl.kp BL .nil pass0 (pa_cons (pe_prop (pv 0) T.cls T.ps GSg hr2 BSg .nil pass0 rfl) (pa_cons (pv 1) pa_nil))))) pss_nil) (pss_cons (ps_if (pt_cmpR op_eq (pe_callB call_len_seq (by rfl) (T.fr "len") boot_len (pa_cons (pe_prop (pv 0) T.cls T.pp GPa hr2 BPa .nil pass0 rfl) pa_nil)) pe_int (nomark _)) (pss_one (ps_ret (pe_prop (pv 0) T.cls T.ps GSg hr2 BSg .nil pass0 rfl))) pss_nil) (pss_cons (ps_asg (pe_lc (own := [("part", 4)]) (g := gName 4) (by rfl) nd (pi_tup (pe_prop (pv 0) T.cls T.pp GPa hr2 BPa .nil pass0 rfl)) (blkOk_by (own := [("part", 4)]) (N := nM) (sc := defScope (top iMark)) (by decide +kernel)) (fun _ _ _ _ _ => pg_name (i := 4) nd rfl (Or.inl rfl)) (fun _ _ _ _ _ => pts_nil) (fun _ _ _ _ _ => pe_call GR hr (by rfl) (T.df "mark" iMark) F.kp BR .nil pass0 (pa_cons (pv 4) (pa_cons (pv 1) pa_nil)))) (pg_unl rfl (pgs_cons (pg_name (i := 2) nd rfl (.inl rfl)) (pgs_cons (pg_name (i := 3) nd rfl (.inl rfl)) pgs_nil)))) (pss_one (ps_ret (pe_ifExp (pt_cmpR op_eq (pe_prop (pv 0) T.cls T.ps GSg hr2 BSg .nil pass0 rfl) pe_str (nomark _)) (pe_call GS hr2 (by rfl) (T.df "sum_mark" iSumM) Z.fs.kp BS .nil pass0 (pa_cons (pv 2) (pa_cons (pv 3) pa_nil))) (pe_call GC hr2 (by rfl) (T.df "common_mark" iComM) Z.fc.kp BC .nil pass0 (pa_cons (pv 2) (pa_cons (pv 3) pa_nil))))))))), ?_⟩
    cases t with
    | lf c =>
      obtain ⟨hl, hw⟩ := hx
      obtain ⟨dx, a, h1, h2⟩ := id hw
      refine ⟨_, rfl, x, dx, _, rfl, h1, x, c, _, rfl, hw, _, _, rfl, .inr (T.htup _), rfl, rfl, _, rfl, ?_⟩
      simp only [Bool.false_eq_true, if_false, in_hands]
      simp only [mk] at q
      refine ite2 (fun hh => ?_) (fun hh => ?_)
      · rw [if_pos hh] at q
        exact ⟨_, rfl, x, dx, _, rfl, h1, x, c, _, rfl, hw, _, rfl, c, k, rfl, q _ (Same.refl _)⟩
      · rw [if_neg hh] at q
        refine ⟨_, rfl, x, dx, _, rfl, h1, x, c, _, rfl, hw, fun a2 ha2 => ⟨a2, _, rfl, .inr ha2, rfl, _, rfl, ?_⟩⟩
        exact iteT ⟨_, rfl, x, dx, _, rfl, h1, x, c, _, rfl, hw, q _ (Same.refl _)⟩
    | nd c l r =>
      obtain ⟨hj, y, z, hw, hy, hz⟩ := hx
      obtain ⟨dx, a, h1, h2⟩ := id hw
      have hnh : hand c = false := by rcases joint_two hj with rfl | rfl <;> rfl
      refine ⟨_, rfl, x, dx, _, rfl, h1, x, c, _, rfl, hw, _, _, rfl, .inr (T.htup _), rfl, rfl, _, rfl, ?_⟩
      simp only [Bool.false_eq_true, if_false, in_hands, hnh]
      refine ⟨_, rfl, x, dx, _, rfl, h1, x, c, _, rfl, hw, fun a2 ha2 => ⟨a2, _, rfl, .inr ha2, rfl, _, rfl, ?_⟩⟩
      refine iteF ?_
      simp only [dep] at hd
      obtain ⟨m, rfl⟩ : ∃ m, n = m + 1 := ⟨n - 1, by omega⟩
      refine ⟨_, rfl, x, dx, _, rfl, h1, x, c, _, rfl, hw, fun a3 ha3 => ⟨a3, rfl, ⟨_, ha3⟩, fun D hD => lc_it (walk_tup (K := K) (a := a3) (xs := [.ref y, .ref z])) (fun i H' => Same H H' ∧ H' D = some (.lst (([V.str (one (mk k l)), V.str (one (mk k r))] : List V).take i))) ⟨same_new hD, upd_same⟩ (fun i H' _ p => SqT.same p.1 ha3) ?_ ?_⟩⟩
      · rintro i v H1 H2 hi ⟨sm, hDl⟩ ⟨rfl, hv⟩
        refine ⟨rfl, yes_if ?_⟩
        have go : ∀ {u : Addr} {tt : Tr}, v = .ref u → IsTr K H2 u tt → dep tt ≤ m → ([V.str (one (mk k l)), V.str (one (mk k r))] : List V)[i]? = some (.str (one (mk k tt))) →
            spMarkL K (m + 1) [v, .str (kS k)] H2 (fun v H3 => ∃ acc, H3 D = some (.lst acc) ∧ acc.length < sizeLine ∧ Same H (upd H3 D (.lst (acc ++ [v]))) ∧ (upd H3 D (.lst (acc ++ [v]))) D = some (.lst (([V.str (one (mk k l)), V.str (one (mk k r))] : List V).take (i + 1)))) E0 := fun {u tt} e ht hdt hit => by
          subst e
          exact ⟨u, tt, k, rfl, ht, hdt, fun H3 s3 => ⟨_, s3 _ _ hDl, lt_line (Nat.le_trans (List.length_take_le' _ _) (by show 2 ≤ 100000; decide)), Same.grow (sm.trans s3) hD, by rw [upd_same, take_one hit]⟩⟩
        have hi' : i = 0 ∨ i = 1 := by have : i < 2 := hi; omega
        rcases hi' with rfl | rfl
        · exact ⟨_, rfl, _, rfl, go (Option.some.inj hv).symm (hy.same sm) (by omega) rfl⟩
        · exact ⟨_, rfl, _, rfl, go (Option.some.inj hv).symm (hz.same sm) (by omega) rfl⟩
      · rintro H1 ⟨sm, hDl⟩
        refine ⟨D, _, rfl, SqL.of hDl, rfl, _, _, rfl, _, _, rfl, rfl, ?_⟩
        have w1 := hw.same sm
        obtain ⟨dx1, a1, g1, g2⟩ := id w1
        refine ⟨_, rfl, x, dx1, _, rfl, g1, x, c, _, rfl, w1, rfl, _, rfl, ?_⟩
        rw [show decide (V.str (one c) = V.str "+") = (c == 43) from dec_one]
        have q1 := q _ sm
        simp only [mk] at q1
        refine ite2 (fun h => ?_) (fun h => ?_)
        · rw [if_pos (by simpa using h)] at q1
          exact ⟨_, rfl, _, rfl, _, _, rfl, q1⟩
        · rw [if_neg (by simpa using h)] at q1
          exact ⟨_, rfl, _, rfl, _, _, rfl, q1⟩
theorem ok_mark {fdW fdS fdC fdL fdg fdp : FuncData} (F : FnP K "mark" iMark (He.ga K "mark") fd) (T : Txt K mg) (Z : Mkf K fdW fdS fdC fdL fdg fdp) : ∀ n, FnOk P w K mg base CX0 (4 + n) (He.ga K "mark") fd ["word", "kind"] (spMark K n) := by
  intro n
  induction n with
  | zero => exact ok_mark1 F T Z 0 ⟨fun _ _ _ _ h => h.elim, fun _ _ _ _ _ _ _ _ _ _ _ _ _ h => h.elim⟩
  | succ n ih => exact ok_mark1 F T Z (n + 1) (by rw [show 3 + (n + 1) = 4 + n by omega]; exact ih)
end
end KX

set_option Elab.async false
set_option linter.all false
set_option maxRecDepth 100000
set_option maxHeartbeats 4000000
/-! # classes.py: marks -/
namespace KX
open PySem PySem.Spec PyProof.Rows L2 VX KW
open KV (top FnP defs iFits iLeaves iPText iCheck iSum iInter iPart iRW iWord iWithin iSumM iComM iLetM iMark s_Word_init s_Word_read s_Word_sign s_Word_parts s_Word_add s_Word_and s_Word_eq s_Word_len s_Word_text)
section
variable {P : Program} {w : World} {K : PySem.W.Frag} {mg : Str → Option Value} {base : Heap} {f : Addr} {fd : FuncData}
theorem kind_at {i : Nat} {v : V} (h : kindV[i]? = some v) : ∃ k, kinds[i]? = some k ∧ v = .str (kS k) := by
  match i, h with
  | 0, h => cases h; exact ⟨_, rfl, rfl⟩
  | 1, h => cases h; exact ⟨_, rfl, rfl⟩
  | 2, h => cases h; exact ⟨_, rfl, rfl⟩
  | 3, h => cases h; exact ⟨_, rfl, rfl⟩
  | 4, h => cases h; exact ⟨_, rfl, rfl⟩
  | 5, h => cases h; exact ⟨_, rfl, rfl⟩
  | 6, h => cases h; exact ⟨_, rfl, rfl⟩
  | 7, h => cases h; exact ⟨_, rfl, rfl⟩
  | 8, h => cases h; exact ⟨_, rfl, rfl⟩
  | i + 9, h => exact absurd h (by simp [kindV])
end
end KX

set_option Elab.async false
set_option linter.all false
set_option maxRecDepth 100000
set_option maxHeartbeats 4000000
/-! # rows.py: rows -/
namespace KV
open PySem PySem.Spec PyProof.Rows L2 VX RX
section
variable {P : Program} {w : World} {K : PySem.W.Frag} {mg : Str → Option Value} {base : Heap} {f : Addr} {fd : FuncData}
/-- a row as it stands in memory -/
def IsRow (H : Hp) (a : Addr) (r : List Int) : Prop := H a = some (.tup (r.map V.int))
/-! ### lead -/
/-! ### row_of, times, added -/
theorem lt_line {n : Nat} (h : n ≤ 100000) : n < sizeLine := Nat.lt_of_le_of_lt h (by decide)
theorem take_more {α β : Type} {g : α → β} {xs : List α} {i : Nat} {x : α} (h : xs[i]? = some x) : (xs.take (i + 1)).map g = (xs.take i).map g ++ [g x] := by
  rw [List.take_succ, h, List.map_append]
  rfl
theorem fmod_pos {a p : Int} (h : 0 < p) : a.fmod p = a % p := by
  rw [Int.fmod_eq_emod_of_nonneg a (by omega)]
theorem same_two {H : Hp} {a b : Addr} {o u : HO} (ha : H a = none) (hb : upd H a o b = none) : Same H (upd (upd H a o) b u) := fun c z e => by
  have k : upd H a o c = some z := by rw [upd_ne (ne_of_none e ha)]; exact e
  rw [upd_ne (ne_of_none k hb)]
  exact k
theorem yes_if {σ : L2.St} {H : Hp} {A B : Hp → Prop} (h : A H) : tYes σ H fun b H3 => if b = true then A H3 else B H3 := by
  show if true = true then A H else B H
  rw [if_pos rfl]
  exact h
theorem none_of {H : Hp} {a b : Addr} {o : HO} (hb : upd H a o b = none) : H b = none := by
  by_cases e : b = a
  · rw [e, upd_same] at hb; cases hb
  · rwa [upd_ne e] at hb
end
end KV

set_option Elab.async false
set_option linter.all false
set_option maxRecDepth 100000
set_option maxHeartbeats 4000000
/-! # rows.py: times, added -/
namespace KV
open PySem PySem.Spec PyProof.Rows L2 VX RX
section
variable {P : Program} {w : World} {K : PySem.W.Frag} {mg : Str → Option Value} {base : Heap} {f : Addr} {fd : FuncData}
theorem same_new {H : Hp} {a : Addr} {o : HO} (h : H a = none) : Same H (upd H a o) := fun c u e => by
  rw [upd_ne (ne_of_none e h)]
  exact e
theorem none_back {H H' : Hp} {b : Addr} (s : Same H H') (h : H' b = none) : H b = none := by
  cases e : H b with
  | none => rfl
  | some o => rw [s b o e] at h; cases h
end
end KV

set_option Elab.async false
set_option linter.all false
set_option maxRecDepth 100000
set_option maxHeartbeats 4000000
/-! # rows.py: rest_of, joined, reduced -/
namespace KV
open PySem PySem.Spec PyProof.Rows L2 VX RX
section
variable {P : Program} {w : World} {K : PySem.W.Frag} {mg : Str → Option Value} {base : Heap} {f : Addr} {fd : FuncData}
/-- rows as they stand in memory -/
inductive AreRows (H : Hp) : List Addr → List (List Int) → Prop
  | nil : AreRows H [] []
  | cons {a : Addr} {r : List Int} {as : List Addr} {rs : List (List Int)} : IsRow H a r → AreRows H as rs → AreRows H (a :: as) (r :: rs)
theorem AreRows.same {H H' : Hp} (s : Same H H') : ∀ {as : List Addr} {rs : List (List Int)}, AreRows H as rs → AreRows H' as rs
  | _, _, .nil => .nil
  | _, _, .cons h t => .cons (s _ _ h) (t.same s)
theorem AreRows.length {H : Hp} : ∀ {as : List Addr} {rs : List (List Int)}, AreRows H as rs → as.length = rs.length
  | _, _, .nil => rfl
  | _, _, .cons _ t => congrArg (· + 1) t.length
theorem AreRows.get {H : Hp} : ∀ {as : List Addr} {rs : List (List Int)} {i : Nat} {a : Addr}, AreRows H as rs → as[i]? = some a → ∃ r, rs[i]? = some r ∧ IsRow H a r
  | _, _, 0, _, .cons h _, e => ⟨_, rfl, Option.some.inj e ▸ h⟩
  | _, _, i + 1, _, .cons _ t, e => t.get (i := i) e
theorem AreRows.append {H : Hp} : ∀ {as : List Addr} {rs : List (List Int)} {bs : List Addr} {ss : List (List Int)}, AreRows H as rs → AreRows H bs ss → AreRows H (as ++ bs) (rs ++ ss)
  | _, _, _, _, .nil, h => h
  | _, _, _, _, .cons h t, g => .cons h (t.append g)
theorem refs_at {as : List Addr} {i : Nat} {v : V} (h : (as.map V.ref)[i]? = some v) : ∃ a, as[i]? = some a ∧ v = .ref a := by
  rw [List.getElem?_map] at h
  cases e : as[i]? with
  | none => rw [e] at h; cases h
  | some x =>
    rw [e] at h
    exact ⟨x, rfl, (Option.some.inj h).symm⟩
theorem _root_.RX.Rref.take {p : Int} {n : Nat} {b : List (List Int)} (h : Rref p n b) (i : Nat) : Rref p n (b.take i) := by
  have e : b = b.take i ++ b.drop i := (List.take_append_drop i b).symm
  rw [e] at h
  exact h.init
theorem atI_row {r : List Int} {i : Nat} (h : i < r.length) : atI (r.map V.int) (i : Int) = some (.int (at0 r i)) := by
  refine atI_nat ?_
  rw [List.getElem?_map, List.getElem?_eq_getElem h, at0_of h]
  rfl
end
end KV

set_option Elab.async false
set_option linter.all false
set_option maxRecDepth 100000
set_option maxHeartbeats 4000000
/-! # rests.py -/
namespace KV
open PySem PySem.Spec PyProof.Rows L2 VX RX
section
variable {P : Program} {w : World} {K : PySem.W.Frag} {mg : Str → Option Value} {base : Heap} {f : Addr} {fd : FuncData}
/-! ### is_integer -/
/-! ### is_prime -/
def isP (n : Int) : Bool := decide (n ∈ [(2 : Int), 3, 5, 7, 11, 13])
theorem inv_nat : ∀ p ∈ [2, 3, 5, 7, 11, 13], ∀ r < p, r ≠ 0 → ∃ j < p - 1, r * (1 + j) % p = 1 := by decide
theorem isP_cases {p : Int} (h : isP p = true) : p = 2 ∨ p = 3 ∨ p = 5 ∨ p = 7 ∨ p = 11 ∨ p = 13 := by simpa [isP] using h
theorem isP_nat {p : Int} (h : isP p = true) : ∃ q : Nat, q ∈ [2, 3, 5, 7, 11, 13] ∧ p = (q : Int) := by
  rcases isP_cases h with h | h | h | h | h | h
  · exact ⟨2, by decide, h⟩
  · exact ⟨3, by decide, h⟩
  · exact ⟨5, by decide, h⟩
  · exact ⟨7, by decide, h⟩
  · exact ⟨11, by decide, h⟩
  · exact ⟨13, by decide, h⟩
theorem isP_pos {p : Int} (h : isP p = true) : 2 ≤ p ∧ p ≤ 13 := by
  rcases isP_cases h with h | h | h | h | h | h <;> omega
theorem inv_ex {n p : Int} (hp : isP p = true) (h : n % p ≠ 0) : ∃ j : Nat, (j : Int) < p - 1 ∧ n * (1 + (j : Int)) % p = 1 := by
  have hb := isP_pos hp
  obtain ⟨q, hq, rfl⟩ := isP_nat hp
  have h0 : 0 ≤ n % (q : Int) := Int.emod_nonneg n (by omega)
  have h1 : n % (q : Int) < (q : Int) := Int.emod_lt_of_pos n (by omega)
  obtain ⟨r, hr⟩ : ∃ r : Nat, n % (q : Int) = (r : Int) := ⟨(n % (q : Int)).toNat, by omega⟩
  obtain ⟨j, hj, e⟩ := inv_nat q hq r (by omega) (by omega)
  refine ⟨j, by omega, ?_⟩
  have e1 : n * (1 + (j : Int)) % (q : Int) = n % (q : Int) * (1 + (j : Int)) % (q : Int) := by
    rw [Int.mul_emod, Int.mul_emod (n % (q : Int)) (1 + (j : Int)), Int.emod_emod]
  have e2 : ((r * (1 + j) % q : Nat) : Int) = (1 : Nat) := congrArg _ e
  rw [e1, hr]
  simpa using e2
open Classical in
/-- the inverse, where there is one -/
noncomputable def invF (p n : Int) : Int := if h : ∃ i, 1 ≤ i ∧ i < p ∧ n * i % p = 1 then h.choose else 0
theorem inv_uniq {p n i j : Int} (hi : 1 ≤ i ∧ i < p ∧ n * i % p = 1) (hj : 1 ≤ j ∧ j < p ∧ n * j % p = 1) : i = j := by
  have e : i % p = j % p := by
    have e1 : i * (n * j) % p = i % p := by rw [Int.mul_emod, hj.2.2, Int.mul_one, Int.emod_emod_of_dvd _ (Int.dvd_refl p)]
    have e2 : j * (n * i) % p = j % p := by rw [Int.mul_emod, hi.2.2, Int.mul_one, Int.emod_emod_of_dvd _ (Int.dvd_refl p)]
    rw [← e1, ← e2, Int.mul_left_comm i n j, Int.mul_left_comm j n i, Int.mul_comm i j]
  rwa [Int.emod_eq_of_lt (by omega) hi.2.1, Int.emod_eq_of_lt (by omega) hj.2.1] at e
theorem invF_eq {p n i : Int} (h : 1 ≤ i ∧ i < p ∧ n * i % p = 1) : invF p n = i := by
  have hx : ∃ i, 1 ≤ i ∧ i < p ∧ n * i % p = 1 := ⟨i, h⟩
  unfold invF
  rw [dif_pos hx]
  exact inv_uniq hx.choose_spec h
theorem invF_ok {p : Int} (h : isP p = true) : RX.Inv p (invF p) := by
  have b := isP_pos h
  refine ⟨b.1, fun x x0 x1 => ?_⟩
  obtain ⟨j, hj, e⟩ := inv_ex h (n := x) (by rw [Int.emod_eq_of_lt (by omega) x1]; omega)
  rw [invF_eq (p := p) (n := x) (i := 1 + (j : Int)) ⟨by omega, by omega, e⟩, Int.mul_comm]
  exact e
end
end KV

set_option Elab.async false
set_option linter.all false
set_option maxRecDepth 100000
set_option maxHeartbeats 4000000
/-! # rows.py: joined -/
namespace KV
open PySem PySem.Spec PyProof.Rows L2 VX RX
section
variable {P : Program} {w : World} {K : PySem.W.Frag} {mg : Str → Option Value} {base : Heap} {f : Addr} {fd : FuncData}
theorem _root_.RX.Rref.card {p : Int} {n : Nat} {b : List (List Int)} (h : Rref p n b) : b.length ≤ n := by
  have h1 : (b.map lead).Nodup := List.pairwise_map.mpr (h.inc.imp fun h => Nat.ne_of_lt h)
  have := nodup_le (b.map lead) (List.range n) h1 fun x hx => by
    obtain ⟨r, hr, rfl⟩ := List.mem_map.mp hx
    exact List.mem_range.mpr (h.lt r hr)
  simpa using this
theorem AreRows.upd {H : Hp} {D : Addr} {xs : List V} {o : HO} (hD : H D = some (.lst xs)) : ∀ {as : List Addr} {rs : List (List Int)}, AreRows H as rs → AreRows (L2.upd H D o) as rs
  | _, _, .nil => .nil
  | _, _, .cons h t => .cons (by
      have ne := ne_of h hD (by intro z; cases z)
      show L2.upd H D o _ = _
      rw [upd_ne ne]
      exact h) (t.upd hD)
theorem filter_more {α : Type} {q : α → Bool} {b : List α} {i : Nat} {o : α} (h : b[i]? = some o) : (b.take (i + 1)).filter q = (b.take i).filter q ++ if q o = true then [o] else [] := by
  rw [List.take_succ, h, Option.toList_some, List.filter_append]
  by_cases e : q o = true
  · rw [if_pos e, List.filter_cons_of_pos e, List.filter_nil]
  · rw [if_neg e, List.filter_cons_of_neg e, List.filter_nil]
end
end KV

set_option Elab.async false
set_option linter.all false
set_option maxRecDepth 100000
set_option maxHeartbeats 4000000
/-! # range(n) as a value, and walked later -/
namespace VX
open PySem PySem.Spec PyProof.Rows L2
theorem cr_range1 {X : Cx} : CallR X (.type "range") (fun vs H Q => ∃ j, vs = [V.int j] ∧ ∀ p, H p = none → Q (.ref p) (upd H p (.rng 0 j))) := by
  intro pins s σ H vs us Q I r h
  obtain ⟨j, rfl, q⟩ := h
  cases r with
  | cons ru rr =>
    cases rr
    obtain ⟨t, rfl⟩ := ru
    refine call_range_1 ⟨.ref s.heap.objs.size, upd H s.heap.objs.size (.rng 0 j), I.laid (t' := _) (fun b o e => Heap.get?_push_of_some _ e) (Nat.le_refl _) ?_, rfl, q _ (I.hok.fresh (Nat.le_refl _))⟩
    exact ⟨_, _, _, Heap.get?_push_size _ rfl⟩
def iRngV (tl : TE) : TI := fun σ H R => tl σ H fun x H1 => ∃ a lo hi, x = .ref a ∧ H1 a = some (.rng lo hi) ∧ -(2 ^ 62) ≤ lo ∧ lo < 2 ^ 62 ∧ -(2 ^ 62) ≤ hi ∧ hi < 2 ^ 62 ∧ R (Itr lo (hi - lo).toNat) H1
theorem pi_rng {X : Cx} {tg l : Expr} {tl : TE} (hl : PE X l tl) : PI X tg l (iRngV tl) := by
  refine ⟨fun pins s σ H R I h => ?_⟩
  refine thn (hl.run pins s σ H _ I h) fun v s1 ⟨x, H1, I1, r1, q1⟩ => ?_
  obtain ⟨a, lo, hi, rfl, ha, h1, h2, h3, h4, q⟩ := q1
  cases r1
  obtain ⟨t, u, z, ho⟩ := I1.hok a _ ha
  refine wpAny_pyIter_range (show IsRange s1.heap a lo hi 1 t u z from ho) (small_one h1 h2 h3 h4) ?_
  refine ⟨s1.heap.objs.size, [s1.heap.objs.size], _, _, H1, rfl, I1.kept (t' := s1.toks) fun b o e => Heap.get?_push_of_some _ e, turn_range _ lo (hi - lo).toNat, ?_, fun b hb => ?_, q⟩
  · have k1 : lo + ((0 : Nat) : Int) * 1 = lo := by simp
    have k2 : (((hi - lo).toNat : Nat) : Int) - ((0 : Nat) : Int) = Builtin.Range.rangeSize lo hi 1 := by rw [rangeSize_one]; split <;> omega
    show IsRangeIter _ _ (lo + ((0 : Nat) : Int) * 1) ((((hi - lo).toNat : Nat) : Int) - ((0 : Nat) : Int)) 1
    rw [k1, k2]
    exact Heap.get?_push_size _ rfl
  · obtain rfl : b = s1.heap.objs.size := by simpa using hb
    exact I1.fpOk (Nat.le_refl _) (I1.hok.fresh (Nat.le_refl _))
end VX

set_option Elab.async false
set_option linter.all false
set_option maxRecDepth 100000
set_option maxHeartbeats 4000000
/-! # for x, y in zip(a tuple, a list) -/
namespace VX
open PySem PySem.Spec PyProof.Rows L2
/-- the tuple at a and the list at b as they stand at each turn, the items in new pairs -/
def ItzTL (K : PySem.W.Frag) (a b : Addr) : It :=
  ⟨fun i H => ∃ (xs ys : List V) (x y : V), SqT K H a xs ∧ SqL K H b ys ∧ xs[i]? = some x ∧ ys[i]? = some y,
    fun i H v H' => ∃ T x y, v = .ref T ∧ H T = none ∧ H' = upd H T (.tup [x, y]) ∧ (∀ xs, SqT K H a xs → xs[i]? = some x) ∧ ∀ ys, SqL K H b ys → ys[i]? = some y,
    fun i H => ∃ xs ys : List V, SqT K H a xs ∧ SqL K H b ys ∧ xs.length = i ∧ ys.length = i⟩
structure ZTL (h : Heap) (z TI TO j k a b : Addr) (i : Nat) : Prop where
  zp : IsZip h z TI TO .none
  ti : IsTupOf2 h TI (.ref j) (.ref k)
  to : ∃ x y, IsTupOf2 h TO x y
  h1 : h.IsTupleIter j a i
  h2 : h.IsListIter k b i
theorem turn_zipTL {P : Program} {w : World} {K : PySem.W.Frag} {elts : List Expr} {kk : Nat} {tpos : Pos} {a b z TI TO j k : Addr} (S : ZipSep2 z TI TO j k [j, a] [k, b]) (na : a ≠ j) (nb : b ≠ k) :
    Turn P w K (.Tuple elts kk tpos) (ItzTL K a b) [z, TI, TO, j, k] z (fun i h => ZTL h z TI TO j k a b i) where
  mem := by simp
  obj := fun i h st c hc => by
    obtain ⟨hz, hTI, ⟨x, y, hTO⟩, ⟨o1, e1, _, d1⟩, ⟨o2, e2, _, d2⟩⟩ := st
    rcases (by simpa using hc : c = z ∨ c = TI ∨ c = TO ∨ c = j ∨ c = k) with rfl | rfl | rfl | rfl | rfl
    · exact ⟨_, hz, fun v q => nomatch q⟩
    · exact ⟨_, hTI, fun v q => nomatch q⟩
    · exact ⟨_, hTO, fun v q => nomatch q⟩
    · exact ⟨o1, e1, fun v q => by rw [d1] at q; cases q⟩
    · exact ⟨o2, e2, fun v q => by rw [d2] at q; cases q⟩
  keep := fun i h h' st q => by
    obtain ⟨hz, hTI, ⟨x, y, hTO⟩, h1, h2⟩ := st
    exact ⟨q z (by simp) _ hz, q TI (by simp) _ hTI, ⟨x, y, q TO (by simp) _ hTO⟩, h1.at fun o e => q j (by simp) o e, h2.at fun o e => q k (by simp) o e⟩
  item := by
    intro X hP hw hK hc i pins s σ H E I hf st hg
    subst hP hw hK
    obtain ⟨hz, hTI, ⟨x0, y0, hTO⟩, h1, h2⟩ := st
    obtain ⟨xs, ys, x, y, hqx, hqy, hx, hy⟩ := hg
    obtain ⟨its, rv, p1, _⟩ := I.tuple hqx
    obtain ⟨its2, rv2, p2, _⟩ := I.list hqy
    obtain ⟨u, hu, ru⟩ := rv.get hx
    obtain ⟨u2, hu2, ru2⟩ := rv2.get hy
    have zl : z < s.heap.objs.size := Heap.lt_size hz
    have l1 : i < its.toArray.size := by simpa using (List.getElem?_eq_some_iff.mp hu).1
    have l2 : i < its2.toArray.size := by simpa using (List.getElem?_eq_some_iff.mp hu2).1
    refine wpAny_pyNext_zipD2_item S (Draws.tuple (prog := X.prog) (w := X.w) (A := X.A.in1) (I.ok.hd hc) j a na its.toArray) (Draws.list (prog := X.prog) (w := X.w) (A := X.A.in1) (I.ok.hd hc) k b nb its2.toArray) hz hTI hTO ⟨h1, p1⟩ ⟨h2, p2.isList⟩ l1 l2 fun v1 v2 h' tk q1 q2 z' TO' st1 st2 hT _ hk => ?_
    have e1 : v1 = u := by
      have k1 : its.toArray[i]? = some v1 := q1
      have k2 : its.toArray[i]? = some u := by simpa using hu
      rw [k1] at k2
      exact Option.some.inj k2
    have e2 : v2 = u2 := by
      have k1 : its2.toArray[i]? = some v2 := q2
      have k2 : its2.toArray[i]? = some u2 := by simpa using hu2
      rw [k1] at k2
      exact Option.some.inj k2
    subst e1 e2
    refine ⟨_, rfl, wpAny_letOwnedTupleGo_zip (s := { s with heap := h', toks := tk }) z' fun h3 z3 sb => ?_⟩
    have hT2 : h3.get? s.heap.objs.size = some { cls := .type "tuple", data := .seq #[v1, v2] } := (sb.2 _ (Nat.ne_of_gt zl)).trans hT
    have new : ObjOk X.prog X.w (upd H s.heap.objs.size (.tup [x, y])) h3 s.heap.objs.size (.tup [x, y]) :=
      ⟨by show 2 ≤ sizeLine; decide, [v1, v2], .cons ru (.cons ru2 .nil), ⟨_, hT2, rfl, _, rfl⟩⟩
    have I1 : Inv X pins σ (upd H s.heap.objs.size (.tup [x, y])) { s with heap := h3, toks := tk } :=
      I.turnedNew (t' := tk) (ch := [z, TI, TO, j, k]) (fun c o hb q => (sb.2 c fun r => hb (by simp [r])).trans (hk c o (fun r => hb (by simp [r])) (fun r => hb (by simp [r])) (fun r => hb (by simp [r])) (fun r => hb (by simp [r])) q)) hf (Nat.le_refl _) new
    refine ⟨.ref s.heap.objs.size, _, I1, rfl, ⟨_, x, y, rfl, I.hok.fresh (Nat.le_refl _), rfl, fun l hl => by rw [I.tuple_inj hl hqx]; exact hx, fun l hl => by rw [I.list_inj hl hqy]; exact hy⟩, ⟨z3, ?_, ⟨v1, v2, ?_⟩, ?_, ?_⟩, fun c hcm => ?_⟩
    · exact (sb.2 _ S.TIz).trans (hk _ _ S.TIz S.TITO S.TIi1 S.TIi2 hTI)
    · exact (sb.2 _ S.TOz).trans TO'
    · exact st1.1.at fun o q => (sb.2 _ (Ne.symm S.zi1)).trans q
    · exact st2.1.at fun o q => (sb.2 _ (Ne.symm S.zi2)).trans q
    · have lt : c < s.heap.objs.size := by
        rcases (by simpa using hcm : c = z ∨ c = TI ∨ c = TO ∨ c = j ∨ c = k) with rfl | rfl | rfl | rfl | rfl
        · exact zl
        · exact Heap.lt_size hTI
        · exact Heap.lt_size hTO
        · obtain ⟨_, r, _⟩ := h1; exact Heap.lt_size r
        · obtain ⟨_, r, _⟩ := h2; exact Heap.lt_size r
      rw [upd_ne (Nat.ne_of_lt lt)]
      exact (hf c hcm).1
  done := by
    intro X hP hw hK hc i pins s σ H E I hf st hg
    subst hP hw hK
    obtain ⟨hz, hTI, ⟨x0, y0, hTO⟩, h1, h2⟩ := st
    obtain ⟨xs, ys, hqx, hqy, e1, e2⟩ := hg
    obtain ⟨its, rv, p1, _⟩ := I.tuple hqx
    obtain ⟨its2, rv2, p2, _⟩ := I.list hqy
    have l1 := rv.length
    have l2 := rv2.length
    have z1 : i = its.toArray.size := by simp; omega
    have z2 : i = its2.toArray.size := by simp; omega
    exact wpAny_pyNext_zipD2_end S (Draws.tuple (prog := X.prog) (w := X.w) (A := X.A.in1) (I.ok.hd hc) j a na its.toArray) (Draws.list (prog := X.prog) (w := X.w) (A := X.A.in1) (I.ok.hd hc) k b nb its2.toArray) hz hTI hTO ⟨h1, p1⟩ ⟨h2, p2.isList⟩ (by omega) (by omega) (.inl z1) fun h' tk hk => ⟨rfl, I.turnedL (t' := tk) (ch := [z, TI, TO, j, k]) (fun c o hb q =>
      hk c o (fun r => hb (by simp [r])) (fun r => hb (by simp [r])) (fun r => hb (by simp [r])) (fun r => hb (by simp [r])) q) hf⟩
  self := fun A i s Q E st h => wpAny_pyIter_zip st.zp h
theorem out2 {m x y : Nat} (h1 : m ≠ x) (h2 : m ≠ y) : m ∉ [x, y] := by simp [h1, h2]
theorem zip_sep {m a b : Nat} (ha : a < m) (hb : b < m) : ZipSep2 (m + 4) (m + 2) (m + 3) m (m + 1) [m, a] [m + 1, b] where
  TIz := by show m + 2 ≠ m + 4; omega
  TOz := by show m + 3 ≠ m + 4; omega
  TITO := by show m + 2 ≠ m + 3; omega
  TIi1 := by show m + 2 ≠ m; omega
  mem1 := List.mem_cons_self ..
  zf1 := out2 (by omega) (by omega)
  Tf1 := out2 (by omega) (by omega)
  TIi2 := by show m + 2 ≠ m + 1; omega
  mem2 := List.mem_cons_self ..
  zf2 := out2 (by omega) (by omega)
  Tf2 := out2 (by omega) (by omega)
  sep1_2 := out2 (by omega) (by omega)
  sep2_1 := out2 (by omega) (by omega)
def iZipTL (K : PySem.W.Frag) (ta : TA) : TI := fun σ H R => ta σ H fun vs H1 => ∃ a b xs ys, vs = [.ref a, .ref b] ∧ SqT K H1 a xs ∧ SqL K H1 b ys ∧ R (ItzTL K a b) H1
theorem pi_zipTL {X : Cx} {e e2 : Expr} {ta : TA} {p pos tpos : Pos} {elts : List Expr} {kk : Nat} (hg : Gl X "zip") (hm : X.mg "zip" = none) (ha : PA X [e, e2] ta)
    (s1 : starEach [e, e2] X.env = (false, eval e X.env) :: starEach [e2] X.env := by rfl) (s2 : (backTo pos (starEach [e2] X.env)).any (·.1) = false := by rfl) :
    PI X (.Tuple elts kk tpos) (.Call (.Name "zip" p) [e, e2] [] pos) (iZipTL X.K ta) := by
  refine ⟨fun pins s σ H R I h => ?_⟩
  refine Call_ (ld_blt I hg hm PyProof.Rows.boot_zip (PyProof.Rows.callWith_type1 (thn (ha.run pos pins s σ H _ I h) fun us t ⟨vs, H1, I1, r1, q1⟩ => ?_) s1 s2))
  obtain ⟨a, b, xs, ys, ex, hqx, hqy, q⟩ := q1
  subst ex
  cases r1 with
  | cons r rr =>
    cases rr with
    | cons r' rr =>
      cases rr
      cases r
      cases r'
      obtain ⟨its, rv, p1, _⟩ := I1.tuple hqx
      obtain ⟨its2, rv2, p2, _⟩ := I1.list hqy
      have la : a < t.heap.objs.size := by obtain ⟨_, ho, _⟩ := id p1; exact Heap.lt_size ho
      have lb : b < t.heap.objs.size := p2.lt
      refine zip_begins2 (begins_tuple a its.toArray) (begins_list b its2.toArray) p1 p2.isList fun h' hz hTI hTO g1 g2 _ hk => wpAny_pyIter_zip hz ?_
      have I2 : Inv X pins σ H1 { t with heap := h' } := I1.kept (t' := t.toks) hk
      have S := zip_sep la lb
      refine ⟨t.heap.objs.size + 4, [t.heap.objs.size + 4, t.heap.objs.size + 2, t.heap.objs.size + 3, t.heap.objs.size, t.heap.objs.size + 1], _, _, H1, rfl, I2, turn_zipTL S (Nat.ne_of_lt la) (Nat.ne_of_lt (Nat.lt_succ_of_lt lb)), ⟨hz, hTI, ⟨_, _, hTO⟩, ⟨_, g1, rfl, rfl⟩, ⟨_, g2, rfl, rfl⟩⟩, fun c hcm => ?_, q⟩
      have le : t.heap.objs.size ≤ c := by
        rcases (by simpa using hcm : c = t.heap.objs.size + 4 ∨ c = t.heap.objs.size + 2 ∨ c = t.heap.objs.size + 3 ∨ c = t.heap.objs.size ∨ c = t.heap.objs.size + 1) with z | z | z | z | z
        · rw [z]; exact Nat.le_add_right _ _
        · rw [z]; exact Nat.le_add_right _ _
        · rw [z]; exact Nat.le_add_right _ _
        · rw [z]; exact Nat.le_refl _
        · rw [z]; exact Nat.le_add_right _ _
      exact I1.fpOk le (I1.hok.fresh le)
theorem walk_zipTL {K : PySem.W.Frag} {a b : Addr} {xs ys : List V} {n : Nat} (h1 : xs.length = n) (h2 : ys.length = n) : Walk (ItzTL K a b) n (fun H => SqT K H a xs ∧ SqL K H b ys) (YPair (fun i => xs[i]?) (fun i => ys[i]?)) := by
  refine ⟨fun i _ hi q => ⟨xs, ys, xs[i], ys[i], q.1, q.2, by simp [h1, hi], by simp [h2, hi]⟩, fun _ q => ⟨xs, ys, q.1, q.2, h1, h2⟩, fun i H v H' _ q y => ?_⟩
  obtain ⟨T, x, z, k1, k2, k3, k4, k5⟩ := y
  exact ⟨T, x, z, k1, k2, k3, k4 xs q.1, k5 ys q.2⟩
end VX

set_option Elab.async false
set_option linter.all false
set_option maxRecDepth 100000
set_option maxHeartbeats 4000000
/-! # rows.py: sent -/
namespace KV
open PySem PySem.Spec PyProof.Rows L2 VX RX
section
variable {P : Program} {w : World} {K : PySem.W.Frag} {mg : Str → Option Value} {base : Heap} {f : Addr} {fd : FuncData}
/-- ints in a list or a tuple -/
def IsInts (H : Hp) (a : Addr) (xs : List Int) : Prop := H a = some (.lst (xs.map V.int)) ∨ H a = some (.tup (xs.map V.int))
inductive AreInts (H : Hp) : List Addr → List (List Int) → Prop
  | nil : AreInts H [] []
  | cons {a : Addr} {r : List Int} {as : List Addr} {rs : List (List Int)} : IsInts H a r → AreInts H as rs → AreInts H (a :: as) (r :: rs)
theorem IsInts.same {H H' : Hp} (s : Same H H') {a : Addr} {r : List Int} (h : IsInts H a r) : IsInts H' a r := h.elim (fun h => .inl (s _ _ h)) fun h => .inr (s _ _ h)
theorem AreInts.length {H : Hp} : ∀ {as : List Addr} {rs : List (List Int)}, AreInts H as rs → as.length = rs.length
  | _, _, .nil => rfl
  | _, _, .cons _ t => congrArg (· + 1) t.length
theorem AreInts.get {H : Hp} : ∀ {as : List Addr} {rs : List (List Int)} {i : Nat} {a : Addr}, AreInts H as rs → as[i]? = some a → ∃ r, rs[i]? = some r ∧ IsInts H a r
  | _, _, 0, _, .cons h _, e => ⟨_, rfl, Option.some.inj e ▸ h⟩
  | _, _, i + 1, _, .cons _ t, e => t.get (i := i) e
theorem ix_ints {H : Hp} {l : Addr} {xs : List Int} {i : Nat} {z : Int} {Q : VK} (h : IsInts H l xs) (hz : z = (i : Nat)) (hi : i < xs.length) (k : Q (.int (at0 xs i)) H) : rIx K (.ref l) (.int z) H Q := by
  subst hz
  rcases h with h | h
  · exact .inl ⟨l, _, _, _, rfl, rfl, SqL.of h, atI_row hi, k⟩
  · exact .inr (.inl ⟨l, _, _, _, rfl, rfl, SqT.of h, atI_row hi, k⟩)
end
end KV

set_option Elab.async false
set_option linter.all false
set_option maxRecDepth 100000
set_option maxHeartbeats 4000000
/-! # rows.py: is_row -/
namespace KV
open PySem PySem.Spec PyProof.Rows L2 VX RX
section
variable {P : Program} {w : World} {K : PySem.W.Frag} {mg : Str → Option Value} {base : Heap} {f : Addr} {fd : FuncData}
theorem kitLT {K : PySem.W.Frag} {a : String} {b c r : Bool} (h1 : PySem.W.kitOne K (.type a) (.type "list") = some b) (h2 : PySem.W.kitOne K (.type a) (.type "tuple") = some c) (e : (b || c) = r) : PySem.W.kitAny K (.type a) [.type "list", .type "tuple"] = some r := by
  subst e
  unfold PySem.W.kitAny
  rw [h1]
  cases b with
  | true => rfl
  | false =>
    unfold PySem.W.kitAny
    simp only [h2]
    cases c <;> rfl
theorem kS {K : PySem.W.Frag} : PySem.W.kitAny K (.type "str") [.type "list", .type "tuple"] = some false := kitLT (b := false) (c := false) (kit_ty (by decide +kernel)) (kit_ty (by decide +kernel)) rfl
end
end KV

set_option Elab.async false
set_option linter.all false
set_option maxRecDepth 100000
set_option maxHeartbeats 4000000
/-! # spaces.py: image -/
namespace KV
open PySem PySem.Spec PyProof.Rows L2 VX RX
section
variable {P : Program} {w : World} {K : PySem.W.Frag} {mg : Str → Option Value} {base : Heap} {f : Addr} {fd : FuncData}
theorem AreInts.same {H H' : Hp} (s : Same H H') : ∀ {as : List Addr} {rs : List (List Int)}, AreInts H as rs → AreInts H' as rs
  | _, _, .nil => .nil
  | _, _, .cons h t => .cons (h.same s) (AreInts.same s t)
theorem AreRows.ints {H : Hp} : ∀ {as : List Addr} {rs : List (List Int)}, AreRows H as rs → AreInts H as rs
  | _, _, .nil => .nil
  | _, _, .cons h t => .cons (.inr h) t.ints
theorem map_modR {p : Int} {n : Nat} {rs : List (List Int)} (h : 0 < p) (hr : ∀ r ∈ rs, Row p n r) : rs.map (modR p) = rs := by
  refine (List.map_congr_left fun r h2 => ?_).trans (List.map_id rs)
  refine (List.map_congr_left fun x hx => ?_).trans (List.map_id r)
  have := (hr r h2).2 x hx
  exact Int.emod_eq_of_lt this.1 this.2
end
end KV

set_option Elab.async false
set_option linter.all false
set_option maxRecDepth 100000
set_option maxHeartbeats 4000000
/-! # the law's draws: frame, vector, rows -/
namespace KV
open PySem PySem.Spec PyProof.Rows L2 VX RX
section
variable {P : Program} {w : World} {K : PySem.W.Frag} {mg : Str → Option Value} {base : Heap} {f : Addr} {fd : FuncData}
/-- all else stands -/
def Kept (b : Addr) (H H' : Hp) : Prop := ∀ c o, H c = some o → c ≠ b → H' c = some o
theorem Kept.refl {b : Addr} {H : Hp} : Kept b H H := fun _ _ h _ => h
theorem Kept.trans {b : Addr} {H H' H'' : Hp} (k : Kept b H H') (q : Kept b H' H'') : Kept b H H'' := fun c o h n => q c o (k c o h n) n
theorem Kept.of {b : Addr} {H H' : Hp} (s : Same H H') : Kept b H H' := fun c o h _ => s c o h
/-! ### _law_frame -/
theorem pow_up {p : Int} {a b : Nat} (h : 1 ≤ p) (l : a ≤ b) : p ^ a ≤ p ^ b := by
  obtain ⟨k, rfl⟩ := Nat.exists_eq_add_of_le l
  rw [Int.pow_add]
  have h1 : 0 < p ^ a := Int.pow_pos (by omega)
  have h2 : 0 < p ^ k := Int.pow_pos (by omega)
  calc p ^ a = p ^ a * 1 := (Int.mul_one _).symm
    _ ≤ p ^ a * p ^ k := Int.mul_le_mul_of_nonneg_left (by omega) (by omega)
end
end KV

set_option Elab.async false
set_option linter.all false
set_option maxRecDepth 100000
set_option maxHeartbeats 4000000
/-! # the law's draws: vector -/
namespace KV
open PySem PySem.Spec PyProof.Rows L2 VX RX
section
variable {P : Program} {w : World} {K : PySem.W.Frag} {mg : Str → Option Value} {base : Heap} {f : Addr} {fd : FuncData}
theorem Kept.none {b l : Addr} {H H' : Hp} (k : Kept b H H') (nb : l ≠ b) (h : H' l = none) : H l = none := by
  cases e : H l with
  | none => rfl
  | some o => rw [k _ _ e nb] at h; cases h
end
end KV

set_option Elab.async false
set_option linter.all false
set_option maxRecDepth 100000
set_option maxHeartbeats 4000000
/-! # the law's dicts of vectors -/
namespace KV
open PySem PySem.Spec PyProof.Rows L2 VX RX
/-- a dict whose keys are vectors -/
def kvsOf (l : List (List Int)) : List (List L2.Key × V) := l.map fun r => (r.map Sum.inl, V.bl true)
theorem inl_inj {r s : List Int} (h : r.map (Sum.inl : Int → L2.Key) = s.map Sum.inl) : r = s := by
  refine List.map_inj_right (fun x y e => ?_) |>.mp h
  injection e
theorem any_kvs (l : List (List Int)) (k : List Int) : ((kvsOf l).any fun kv => decide (kv.1 = k.map Sum.inl)) = decide (k ∈ l) := by
  rw [Bool.eq_iff_iff]
  simp only [kvsOf, List.any_map, List.any_eq_true, Function.comp_apply, decide_eq_true_eq]
  exact ⟨fun ⟨r, hr, e⟩ => inl_inj e ▸ hr, fun h => ⟨k, h, rfl⟩⟩
theorem putK_kvs (l : List (List Int)) (k : List Int) : putK (kvsOf l) (k.map Sum.inl) (V.bl true) = kvsOf (ins l k) := by
  unfold putK ins
  rw [any_kvs]
  by_cases h : k ∈ l
  · rw [if_pos (decide_eq_true h), if_pos h]
    refine (List.map_congr_left fun kv hkv => ?_).trans (List.map_id _)
    obtain ⟨r, _, rfl⟩ := List.mem_map.mp hkv
    by_cases e : (r.map Sum.inl : List L2.Key) = k.map Sum.inl
    · rw [if_pos e]; rfl
    · rw [if_neg e]; rfl
  · rw [if_neg (by simpa using h), if_neg h]
    simp [kvsOf]
theorem kvs_len (l : List (List Int)) : (kvsOf l).length = l.length := by simp [kvsOf]
end KV

set_option Elab.async false
set_option linter.all false
set_option maxRecDepth 100000
set_option maxHeartbeats 4000000
/-! # the law's sums: grown -/
namespace KV
open PySem PySem.Spec PyProof.Rows L2 VX RX
section
variable {P : Program} {w : World} {K : PySem.W.Frag} {mg : Str → Option Value} {base : Heap} {f : Addr} {fd : FuncData}
theorem insAll_len : ∀ (ks l : List (List Int)), (ks.foldl ins l).length ≤ l.length + ks.length
  | [], l => by simp
  | k :: ks, l => by
    have h := insAll_len ks (ins l k)
    have h2 : (ins l k).length ≤ l.length + 1 := by
      unfold ins
      by_cases c : k ∈ l
      · rw [if_pos c]; omega
      · rw [if_neg c, List.length_append, List.length_singleton]; omega
    rw [List.foldl_cons, List.length_cons]
    omega
theorem growKeys_len {p : Int} {v : List Int} : ∀ l : List (List Int), (growKeys p l v).length = l.length * p.toNat := fun l => by
  unfold growKeys
  rw [List.length_flatMap]
  simp only [List.length_map, List.length_range]
  exact sum_map_const _ _
theorem growKeys_more {p : Int} {l : List (List Int)} {v r : List Int} {i : Nat} (h : l[i]? = some r) : growKeys p (l.take (i + 1)) v = growKeys p (l.take i) v ++ (List.range p.toNat).map fun f : Nat => addR p r (f : Int) v := by
  rw [List.take_succ, h, Option.toList_some]
  unfold growKeys
  rw [List.flatMap_append]
  simp
end
end KV

set_option Elab.async false
set_option linter.all false
set_option maxRecDepth 100000
set_option maxHeartbeats 4000000
/-! # the law's dict of all sums: span -/
namespace KV
open PySem PySem.Spec PyProof.Rows L2 VX RX
section
variable {P : Program} {w : World} {K : PySem.W.Frag} {mg : Str → Option Value} {base : Heap} {f : Addr} {fd : FuncData}
theorem valK_kvs (l : List (List Int)) (k : List Int) : (valV (kvsOf l) (k.map (Sum.inl : Int → L2.Key))).isSome = decide (k ∈ l) := by
  unfold valV
  rw [Option.isSome_map, ← any_kvs, Bool.eq_iff_iff, List.find?_isSome, List.any_eq_true]
end
end KV

set_option linter.all false
/-! # sums, intersections, extensions: rows alone -/
namespace RX
/-- a row is left with nothing just if it is in the span -/
theorem rest_zero {p : Int} {n : Nat} {b : List (List Int)} (h0 : 0 < p) (hb : Rref p n b) {r : List Int} (hr : Row p n r) : restOf p b r = List.replicate n 0 ↔ InS p n b r := by
  have k := rest_in h0 hb.len b r (fun o ho => InS.self (by
    have := (hb.one o ho); have := ((hb.rows o ho).bound h0 (lead o)); omega) (hb.rows o ho) ho) hr
  constructor
  · intro e
    rw [e] at k
    exact k.mp .zero
  · intro i
    exact zero_of h0 b hb _ (k.mpr i) (hb.rest h0 hr).2
theorem InS.congr {p : Int} {n : Nat} {B C : List (List Int)} {v : List Int} (h : 0 < p) (hB : Len n B) (hC : Len n C) (e1 : ∀ r ∈ B, InS p n C r) (e2 : ∀ r ∈ C, InS p n B r) : InS p n B v ↔ InS p n C v :=
  ⟨fun i => i.imp h hC e1, fun i => i.imp h hB e2⟩
theorem span_joined {p : Int} {inv : Int → Int} (I : Inv p inv) {n : Nat} {b rows : List (List Int)} (hb : Rref p n b) (hr : ∀ r ∈ rows, Row p n r) (v : List Int) : InS p n (rows.foldl (joined inv p) b) v ↔ InS p n (b ++ rows) v := by
  have h0 : 0 < p := by have := I.two; omega
  have hBl : Len n (b ++ rows) := fun r h => (List.mem_append.mp h).elim (fun h => hb.len r h) fun h => (hr r h).1
  have hF := fold_ok I rows b hb hr
  refine InS.congr h0 hF.len hBl (fun r h => ?_) fun r h => ?_
  · exact fold_in I hBl rows b hr (fun o ho => InS.self I.two (hb.rows o ho) (List.mem_append_left _ ho)) (fun o ho => InS.self I.two (hr o ho) (List.mem_append_right _ ho)) r h
  · obtain ⟨k1, k2⟩ := in_fold I rows b hb hr
    exact (List.mem_append.mp h).elim (k1 r) (k2 r)
/-! ### two rows side by side -/
theorem addR_app {p f : Int} {r s o u : List Int} (h : r.length = o.length) : addR p (r ++ s) f (o ++ u) = addR p r f o ++ addR p s f u := by
  unfold addR
  exact List.zipWith_append h
theorem Row.app {p : Int} {n m : Nat} {r s : List Int} (h : Row p n r) (h' : Row p m s) : Row p (n + m) (r ++ s) :=
  ⟨by rw [List.length_append, h.1, h'.1], fun x hx => (List.mem_append.mp hx).elim (h.2 x) (h'.2 x)⟩
theorem at0_app_l {r s : List Int} {i : Nat} (h : i < r.length) : at0 (r ++ s) i = at0 r i := by
  unfold at0
  rw [List.getD_eq_getElem?_getD, List.getD_eq_getElem?_getD, List.getElem?_append_left h]
theorem at0_app_r {r s : List Int} (i : Nat) : at0 (r ++ s) (r.length + i) = at0 s i := by
  unfold at0
  rw [List.getD_eq_getElem?_getD, List.getD_eq_getElem?_getD, List.getElem?_append_right (by omega)]
  congr 2
  omega
theorem lead_app_l {r s : List Int} (h : lead r < r.length) : lead (r ++ s) = lead r :=
  lead_eq (by rw [at0_app_l h]; exact lead_ne h) fun j hj => by rw [at0_app_l (by omega)]; exact lead_zero hj
/-- the left half of a row -/
theorem split_row {n : Nat} {r : List Int} (h : r.length = n + n) (hz : n ≤ lead r) : r = List.replicate n 0 ++ r.drop n := by
  have e : r.take n = List.replicate n 0 := by
    refine ext0 (by simp; omega) fun i hi => ?_
    have hi' : i < n := by simp at hi; omega
    rw [at0_rep]
    have : at0 (r.take n ++ r.drop n) i = at0 (r.take n) i := at0_app_l (by simp; omega)
    rw [List.take_append_drop] at this
    rw [← this]
    exact lead_zero (by omega)
  rw [← e, List.take_append_drop]
theorem double_rref {p : Int} {n : Nat} (b : List (List Int)) (h : Rref p n b) : Rref p (n + n) (b.map fun r => r ++ r) := by
  have hl : ∀ r ∈ b, lead (r ++ r) = lead r := fun r hr => lead_app_l (by rw [(h.rows r hr).1]; exact h.lt r hr)
  refine ⟨fun r hr => ?_, fun r hr => ?_, fun r hr => ?_, ?_, ?_⟩
  · obtain ⟨s, hs, rfl⟩ := List.mem_map.mp hr
    exact (h.rows s hs).app (h.rows s hs)
  · obtain ⟨s, hs, rfl⟩ := List.mem_map.mp hr
    rw [hl s hs]
    have := h.lt s hs
    omega
  · obtain ⟨s, hs, rfl⟩ := List.mem_map.mp hr
    rw [hl s hs, at0_app_l (by rw [(h.rows s hs).1]; exact h.lt s hs)]
    exact h.one s hs
  · rw [List.pairwise_map]
    exact h.inc.imp_of_mem fun hr hs e => by rw [hl _ hr, hl _ hs]; exact e
  · rw [List.pairwise_map]
    exact h.col.imp_of_mem fun {r s} hr hs e => by rw [hl _ hs, at0_app_l (by rw [(h.rows _ hr).1]; exact h.lt _ hs)]; exact e
theorem rep_add {n : Nat} : List.replicate n (0 : Int) ++ List.replicate n 0 = List.replicate (n + n) 0 := by simp
def zer (n : Nat) : List Int := List.replicate n 0
/-- the rows that both spans share -/
def commonL (inv : Int → Int) (p : Int) (n : Nat) (one other : List (List Int)) : List (List Int) :=
  (((other.map fun r => r ++ zer n).foldl (joined inv p) (one.map fun r => r ++ r)).filter fun r => decide (n ≤ lead r)).map (·.drop n)
theorem drop_lead {n : Nat} {r : List Int} (h : r.length = n + n) (hz : n ≤ lead r) : lead r = n + lead (r.drop n) := by
  have e := split_row h hz
  by_cases hl : lead r < r.length
  · have k := lead_ne hl
    have e2 : at0 r (lead r) = at0 (r.drop n) (lead r - n) := by
      rw [e]
      conv => lhs; arg 2; rw [show lead (List.replicate n (0 : Int) ++ List.drop n r) = (List.replicate n (0 : Int)).length + (lead r - n) by rw [← e]; simp; omega]
      rw [at0_app_r, ← e]
    have : lead (r.drop n) = lead r - n := lead_eq (by rw [← e2]; exact k) fun j hj => by
      have e3 : at0 r (n + j) = at0 (r.drop n) j := by
        have := at0_app_r (r := List.replicate n (0 : Int)) (s := r.drop n) j
        rw [← e] at this
        simpa using this
      rw [← e3]
      exact lead_zero (by omega)
    omega
  · have hle := lead_le (r := r)
    have e1 : lead r = r.length := by omega
    have hd : lead (r.drop n) = (r.drop n).length := by
      rcases Nat.lt_or_eq_of_le (lead_le (r := r.drop n)) with c | c
      · have k := lead_ne c
        have e3 : at0 r (n + lead (r.drop n)) = at0 (r.drop n) (lead (r.drop n)) := by
          have := at0_app_r (r := List.replicate n (0 : Int)) (s := r.drop n) (lead (r.drop n))
          rw [← e] at this
          simpa using this
        rw [← e3, lead_out e1] at k
        exact absurd rfl k
      · exact c
    rw [hd, e1]
    simp
    omega
theorem Rref.sub {p : Int} {n : Nat} {b c : List (List Int)} (h : Rref p n b) (s : c.Sublist b) : Rref p n c :=
  ⟨fun r hr => h.rows r (s.subset hr), fun r hr => h.lt r (s.subset hr), fun r hr => h.one r (s.subset hr), h.inc.sublist s, h.col.sublist s⟩
theorem at0_drop {n : Nat} {r : List Int} (i : Nat) : at0 (r.drop n) i = at0 r (n + i) := by
  unfold at0
  rw [List.getD_eq_getElem?_getD, List.getD_eq_getElem?_getD, List.getElem?_drop]
theorem tails_rref {p : Int} {n : Nat} {b : List (List Int)} (h : Rref p (n + n) b) (hz : ∀ r ∈ b, n ≤ lead r) : Rref p n (b.map (·.drop n)) := by
  have hl : ∀ r ∈ b, lead r = n + lead (r.drop n) := fun r hr => drop_lead (h.rows r hr).1 (hz r hr)
  refine ⟨fun r hr => ?_, fun r hr => ?_, fun r hr => ?_, ?_, ?_⟩
  · obtain ⟨s, hs, rfl⟩ := List.mem_map.mp hr
    exact ⟨by rw [List.length_drop, (h.rows s hs).1]; omega, fun x hx => (h.rows s hs).2 x (List.mem_of_mem_drop hx)⟩
  · obtain ⟨s, hs, rfl⟩ := List.mem_map.mp hr
    have := h.lt s hs
    rw [hl s hs] at this
    omega
  · obtain ⟨s, hs, rfl⟩ := List.mem_map.mp hr
    rw [at0_drop, ← hl s hs]
    exact h.one s hs
  · rw [List.pairwise_map]
    exact h.inc.imp_of_mem fun hr hs e => by rw [hl _ hr, hl _ hs] at e; omega
  · rw [List.pairwise_map]
    exact h.col.imp_of_mem fun {r s} hr hs e => by rw [at0_drop, ← hl _ hs]; exact e
theorem drop_addR {p f : Int} {n : Nat} {v r : List Int} : (addR p v f r).drop n = addR p (v.drop n) f (r.drop n) := by
  unfold addR
  exact List.drop_zipWith
theorem tails_in {p : Int} {n : Nat} {b : List (List Int)} {v : List Int} (i : InS p (n + n) b v) : InS p n (b.map (·.drop n)) (v.drop n) := by
  induction i with
  | zero => rw [List.drop_replicate, show n + n - n = n by omega]; exact .zero
  | add f _ hr ih => rw [drop_addR]; exact .add f ih (List.mem_map_of_mem hr)
theorem in_tails {p : Int} {n : Nat} {b : List (List Int)} (h : ∀ r ∈ b, r = zer n ++ r.drop n) (h0 : 0 < p) {v : List Int} (i : InS p n (b.map (·.drop n)) v) : InS p (n + n) b (zer n ++ v) := by
  induction i with
  | zero => rw [zer, rep_add]; exact .zero
  | @add v r f _ hr ih =>
    obtain ⟨s, hs, rfl⟩ := List.mem_map.mp hr
    have e : addR p (zer n ++ v) f s = zer n ++ addR p v f (s.drop n) := by
      conv => lhs; rw [h s hs]
      rw [addR_app (by simp [zer])]
      congr 1
      exact addR_rep h0 (zero_row h0)
    rw [← e]
    exact .add f ih hs
/-- the rows of b whose first half is zero span the vectors of b's span whose first half is zero -/
theorem tails_span {p : Int} {n : Nat} {b : List (List Int)} (h2 : 2 ≤ p) (h : Rref p (n + n) b) {v : List Int} : InS p n ((b.filter fun r => decide (n ≤ lead r)).map (·.drop n)) v ↔ InS p (n + n) b (zer n ++ v) ∧ v.length = n := by
  have h0 : 0 < p := by omega
  have hs : (b.filter fun r => decide (n ≤ lead r)).Sublist b := List.filter_sublist
  have hB := h.sub hs
  have hz : ∀ r ∈ b.filter (fun r => decide (n ≤ lead r)), n ≤ lead r := fun r hr => of_decide_eq_true (List.mem_filter.mp hr).2
  constructor
  · intro i
    have hl := (i.row h0 (tails_rref hB hz).len).1
    exact ⟨(in_tails (fun r hr => split_row (hB.rows r hr).1 (hz r hr)) h0 i).mono fun r hr => hs.subset hr, hl⟩
  · rintro ⟨i, hl⟩
    have hw := i.row h0 h.len
    generalize hF : b.filter (fun r => decide (n ≤ lead r)) = B at hs hB hz ⊢
    have self : ∀ o ∈ B, InS p (n + n) b o := fun o ho => InS.self h2 (hB.rows o ho) (hs.subset ho)
    have k := rest_in h0 h.len B (zer n ++ v) self hw
    have u := zero_of h0 b h _ (k.mpr i) fun r hr => by
      by_cases c : n ≤ lead r
      · exact (hB.rest h0 hw).2 r (by rw [← hF]; exact List.mem_filter.mpr ⟨hr, decide_eq_true c⟩)
      · have : ∀ (l : List (List Int)) (x : List Int), (∀ o ∈ l, o ∈ B) → Row p (n + n) x → at0 x (lead r) = 0 → at0 (restOf p l x) (lead r) = 0 := by
          intro l
          induction l with
          | nil => exact fun x _ _ h => h
          | cons o l ih =>
            intro x hm hx hx0
            have hoB := hm o (.head _)
            refine ih _ (fun q hq => hm q (.tail _ hq)) ?_ ?_
            · show Row p (n + n) (if at0 x (lead o) = 0 then x else addR p x (-at0 x (lead o)) o)
              split
              · exact hx
              · exact addR_row h0 hx.1 (hB.rows o hoB).1
            · show at0 (if at0 x (lead o) = 0 then x else addR p x (-at0 x (lead o)) o) (lead r) = 0
              split
              · exact hx0
              · rw [at0_addR (by rw [hx.1, (hB.rows o hoB).1]), hx0, lead_zero (show lead r < lead o from by have := hz o hoB; omega)]
                simp
        exact this B _ (fun _ h => h) hw (by rw [at0_app_l (by simp [zer]; omega), zer, at0_rep])
    have self' : ∀ o ∈ B, InS p (n + n) B o := fun o ho => InS.self h2 (hB.rows o ho) ho
    have k' := rest_in h0 hB.len B (zer n ++ v) self' hw
    rw [u] at k'
    have z := tails_in (k'.mp .zero)
    rw [show (zer n ++ v).drop n = v by rw [List.drop_append_of_le_length (by simp [zer])]; simp [zer]] at z
    exact z
theorem pairs_of {p : Int} {n : Nat} {one other : List (List Int)} (h0 : 0 < p) (h1 : Len n one) (h2 : Len n other) {w : List Int} (i : InS p (n + n) ((one.map fun r => r ++ r) ++ other.map fun r => r ++ zer n) w) : ∃ a b, InS p n one a ∧ InS p n other b ∧ w = addR p a 1 b ++ a := by
  induction i with
  | zero =>
    refine ⟨zer n, zer n, .zero, .zero, ?_⟩
    rw [zer, addR_rep h0 (zero_row h0), rep_add]
  | @add v r f i hr ih =>
    obtain ⟨a, b, ha, hb, rfl⟩ := ih
    have la := (ha.row h0 h1).1
    have lb := (hb.row h0 h2).1
    have lab : (addR p a 1 b).length = n := addR_len la lb
    rcases List.mem_append.mp hr with hr | hr
    · obtain ⟨s, hs, rfl⟩ := List.mem_map.mp hr
      have ls := h1 s hs
      refine ⟨addR p a f s, b, .add f ha hs, hb, ?_⟩
      rw [addR_app (by rw [lab, ls]), addR_comm la lb ls]
    · obtain ⟨s, hs, rfl⟩ := List.mem_map.mp hr
      have ls := h2 s hs
      refine ⟨a, addR p b f s, ha, .add f hb hs, ?_⟩
      rw [addR_app (by rw [lab, ls]), addR_assoc la lb ls, Int.one_mul, zer, addR_rep h0 (ha.row h0 h1)]
theorem common_ok {p : Int} {inv : Int → Int} (I : Inv p inv) {n : Nat} {one other : List (List Int)} (h1 : Rref p n one) (h2 : Rref p n other) : Rref p n (commonL inv p n one other) ∧ ∀ v, InS p n (commonL inv p n one other) v ↔ InS p n one v ∧ InS p n other v := by
  have hp := I.two
  have h0 : 0 < p := by omega
  have hR : ∀ r ∈ other.map (fun r => r ++ zer n), Row p (n + n) r := fun r hr => by
    obtain ⟨s, hs, rfl⟩ := List.mem_map.mp hr
    exact (h2.rows s hs).app (zero_row h0)
  have hD := fold_ok I (other.map fun r => r ++ zer n) _ (double_rref one h1) hR
  refine ⟨tails_rref (hD.sub List.filter_sublist) fun r hr => of_decide_eq_true (List.mem_filter.mp hr).2, fun v => ?_⟩
  refine (tails_span hp hD).trans ?_
  rw [span_joined I (double_rref one h1) hR]
  constructor
  · rintro ⟨i, hl⟩
    obtain ⟨a, b, ha, hb, e⟩ := pairs_of h0 h1.len h2.len i
    have ra := ha.row h0 h1.len
    have rb := hb.row h0 h2.len
    obtain ⟨e1, e2⟩ := List.append_inj e (by rw [addR_len ra.1 rb.1, zer, List.length_replicate])
    subst e2
    refine ⟨ha, ?_⟩
    have z : scale p (-1) b = v := ext0 (by rw [scale_len, rb.1, ra.1]) fun j hj => by
      have q : at0 (addR p v 1 b) j = 0 := by rw [← e1, zer, at0_rep]
      rw [at0_addR (by rw [ra.1, rb.1])] at q
      rw [at0_scale]
      have b1 := ra.bound h0 j
      have e3 : (at0 v j + at0 b j) % p = 0 := by simpa using q
      have e4 : (-1 * at0 b j) % p = at0 v j % p := by
        have : -1 * at0 b j = at0 v j - (at0 v j + at0 b j) := by omega
        rw [this, Int.sub_emod, e3]
        simp
      rw [e4, ra.emod h0]
    rw [← z]
    exact hb.scale h0 h2.len
  · rintro ⟨ha, hb⟩
    have ra := ha.row h0 h1.len
    have dbl : ∀ {v}, InS p n one v → InS p (n + n) (one.map fun r => r ++ r) (v ++ v) := fun i => by
      induction i with
      | zero => rw [rep_add]; exact .zero
      | add f j hr ih =>
        rw [← addR_app (by rw [(j.row h0 h1.len).1, h1.len _ hr])]
        exact .add f ih (List.mem_map_of_mem hr)
    have lft : ∀ {v}, InS p n other v → InS p (n + n) (other.map fun r => r ++ zer n) (v ++ zer n) := fun i => by
      induction i with
      | zero => rw [zer, rep_add]; exact .zero
      | @add v r f j hr ih =>
        have : addR p v f r ++ zer n = addR p (v ++ zer n) f (r ++ zer n) := by
          rw [addR_app (by rw [(j.row h0 h2.len).1, h2.len _ hr])]
          congr 1
          exact (addR_rep h0 (zero_row h0)).symm
        rw [this]
        exact .add f ih (List.mem_map_of_mem hr)
    have hL : Len (n + n) ((one.map fun r => r ++ r) ++ other.map fun r => r ++ zer n) := fun r hr => (List.mem_append.mp hr).elim (fun h => (double_rref one h1).len r h) fun h => (hR r h).1
    have c := ((dbl ha).mono fun r hr => List.mem_append_left _ hr).comb (f := -1) h0 hL ((lft hb).mono fun r hr => List.mem_append_right _ hr)
    rw [addR_app rfl] at c
    have e1 : addR p v (-1) v = zer n := ext0 (by rw [addR_len ra.1 ra.1, zer, List.length_replicate]) fun j hj => by
      rw [at0_addR rfl, zer, at0_rep]
      have : at0 v j + -1 * at0 v j = 0 := by omega
      rw [this]
      simp
    rw [e1, zer, addR_rep h0 ra] at c
    exact ⟨c, ra.1⟩
/-! ### extensions -/
def extL (one other : List (List Int)) : List (List Int) := other.filter fun r => !decide (lead r ∈ one.map lead)
theorem leads_sub {p : Int} {n : Nat} (h0 : 0 < p) {one other : List (List Int)} (h1 : Rref p n one) (h2 : Rref p n other) (hs : ∀ v, InS p n one v → InS p n other v) (h22 : 2 ≤ p) : ∀ r ∈ one, ∃ s ∈ other, lead r = lead s := fun r hr =>
  lead_in h0 other h2 r (hs r (InS.self h22 (h1.rows r hr) hr)) (h1.ne_zero hr)
theorem filter_split {α : Type} (q : α → Bool) (l : List α) : l.length = (l.filter q).length + (l.filter fun x => !q x).length := by
  induction l with
  | nil => rfl
  | cons x l ih =>
    by_cases h : q x = true
    · simp [h]; omega
    · simp [h]; omega
theorem ext_len {p : Int} {n : Nat} (h2 : 2 ≤ p) {one other : List (List Int)} (h1 : Rref p n one) (h3 : Rref p n other) (hs : ∀ v, InS p n one v → InS p n other v) : (extL one other).length + one.length = other.length := by
  have h0 : 0 < p := by omega
  have k := filter_split (fun r : List Int => decide (lead r ∈ one.map lead)) other
  have e : (other.filter fun r => decide (lead r ∈ one.map lead)).map lead = one.map lead := by
    refine sorted_eq _ _ ?_ ?_ fun x => ?_
    · rw [List.pairwise_map]
      exact h3.inc.sublist List.filter_sublist
    · rw [List.pairwise_map]
      exact h1.inc
    · constructor
      · intro hx
        obtain ⟨r, hr, rfl⟩ := List.mem_map.mp hx
        exact of_decide_eq_true (List.mem_filter.mp hr).2
      · intro hx
        obtain ⟨r, hr, rfl⟩ := List.mem_map.mp hx
        obtain ⟨s, hs', e⟩ := leads_sub h0 h1 h3 hs h2 r hr
        exact List.mem_map.mpr ⟨s, List.mem_filter.mpr ⟨hs', decide_eq_true (by rw [← e]; exact hx)⟩, e.symm⟩
  have e2 := congrArg List.length e
  rw [List.length_map, List.length_map] at e2
  unfold extL
  omega
theorem ext_span {p : Int} {inv : Int → Int} (I : Inv p inv) {n : Nat} {one other : List (List Int)} (h1 : Rref p n one) (h3 : Rref p n other) (hs : ∀ v, InS p n one v → InS p n other v) (v : List Int) : InS p n (one ++ extL one other) v ↔ InS p n other v := by
  have h2 := I.two
  have h0 : 0 < p := by omega
  have hr : ∀ r ∈ one ++ extL one other, Row p n r := fun r h => (List.mem_append.mp h).elim (h1.rows r) fun h => h3.rows r (List.mem_filter.mp h).1
  have hl : Len n (one ++ extL one other) := fun r h => (hr r h).1
  have sub : ∀ r ∈ one ++ extL one other, InS p n other r := fun r h => (List.mem_append.mp h).elim (fun g => hs r (InS.self h2 (h1.rows r g) g)) fun g => InS.self h2 (hr r h) (List.mem_filter.mp g).1
  refine ⟨fun i => i.imp h0 h3.len sub, fun i => ?_⟩
  have hC := reduced_ok I hr
  have sp := reduced_span I hr
  rw [← sp v]
  have rv := i.row h0 h3.len
  have cs : ∀ o ∈ reduced inv p (one ++ extL one other), InS p n other o := fun o ho => ((sp o).mp (InS.self h2 (hC.rows o ho) ho)).imp h0 h3.len sub
  have k := rest_in h0 h3.len (reduced inv p (one ++ extL one other)) v cs rv
  have z := zero_of h0 other h3 _ (k.mpr i) fun r hr' => by
    have : ∃ x ∈ one ++ extL one other, lead r = lead x := by
      by_cases c : lead r ∈ one.map lead
      · obtain ⟨s, hs', e⟩ := List.mem_map.mp c
        exact ⟨s, List.mem_append_left _ hs', e.symm⟩
      · exact ⟨r, List.mem_append_right _ (List.mem_filter.mpr ⟨hr', by simp only [Bool.not_eq_true', decide_eq_false_iff_not]; exact c⟩), rfl⟩
    obtain ⟨x, hx, e⟩ := this
    have xin : InS p n (reduced inv p (one ++ extL one other)) x := (sp x).mpr (InS.self h2 (hr x hx) hx)
    have xne : x ≠ List.replicate n 0 := (List.mem_append.mp hx).elim (fun g => h1.ne_zero g) fun g => h3.ne_zero (List.mem_filter.mp g).1
    obtain ⟨q, hq, e2⟩ := lead_in h0 _ hC x xin xne
    rw [e, e2]
    exact (hC.rest h0 rv).2 q hq
  exact (rest_zero h0 hC rv).mp z
end RX

set_option linter.all false
/-! # spaces told by all their vectors: sums, intersections, one within the other, extensions -/
namespace RX
/-- all vectors of a span, each once -/
structure Told (p : Int) (n : Nat) (b l : List (List Int)) : Prop where
  nd : l.Nodup
  mem : ∀ v, v ∈ l ↔ InS p n b v
def sumL (inv : Int → Int) (p : Int) (b c : List (List Int)) : List (List Int) := reduced inv p (b ++ c)
def leB (p : Int) (n : Nat) (b c : List (List Int)) : Bool := b.all fun r => decide (restOf p c r = zer n)
def bothL (h t : List (List Int)) : List (List Int) := h.filter fun v => decide (v ∈ t)
def joinedL (p : Int) (h t : List (List Int)) : List (List Int) := t.foldl (spanStep p) h
section
variable {p : Int} {inv : Int → Int} {n : Nat} {b c h t : List (List Int)}
theorem Inv.pos (I : Inv p inv) : 0 < p := by have := I.two; omega
theorem Told.count (T : Told p n b h) (I : Inv p inv) (R : Rref p n b) : h.length = p.toNat ^ b.length := span_count I.pos R T.nd T.mem
theorem Told.has (T : Told p n b h) (I : Inv p inv) (R : Rref p n b) : ∀ r ∈ b, r ∈ h := fun r m => (T.mem r).mpr (.self I.two (R.rows r m) m)
theorem Told.rows (T : Told p n b h) (I : Inv p inv) (R : Rref p n b) : ∀ v ∈ h, Row p n v := fun v m => ((T.mem v).mp m).row I.pos R.len
theorem app_rows (R1 : Rref p n b) (R2 : Rref p n c) : ∀ r ∈ b ++ c, Row p n r := fun r m => (List.mem_append.mp m).elim (R1.rows r) (R2.rows r)
theorem sum_rref (I : Inv p inv) (R1 : Rref p n b) (R2 : Rref p n c) : Rref p n (sumL inv p b c) := reduced_ok I (app_rows R1 R2)
theorem sum_span (I : Inv p inv) (R1 : Rref p n b) (R2 : Rref p n c) (v : List Int) : InS p n (sumL inv p b c) v ↔ InS p n (b ++ c) v := reduced_span I (app_rows R1 R2) v
theorem common_rref (I : Inv p inv) (R1 : Rref p n b) (R2 : Rref p n c) : Rref p n (commonL inv p n b c) := (common_ok I R1 R2).1
theorem common_span (I : Inv p inv) (R1 : Rref p n b) (R2 : Rref p n c) (v : List Int) : InS p n (commonL inv p n b c) v ↔ InS p n b v ∧ InS p n c v := (common_ok I R1 R2).2 v
theorem told_span (I : Inv p inv) {rows : List (List Int)} (hr : Len n rows) : Told p n (reduced inv p (rows.map (modR p))) (spanL p n rows) :=
  ⟨(spanL_ok I.two hr).1, (span_told I hr).2.1⟩
theorem told_both (I : Inv p inv) (R1 : Rref p n b) (R2 : Rref p n c) (T1 : Told p n b h) (T2 : Told p n c t) : Told p n (commonL inv p n b c) (bothL h t) :=
  ⟨T1.nd.filter _, fun v => by rw [common_span I R1 R2, bothL, List.mem_filter, decide_eq_true_iff, T1.mem, T2.mem]⟩
theorem modR_id {r : List Int} (h : Row p n r) (h0 : 0 < p) : modR p r = r := by
  refine List.ext_getElem (by simp [modR]) fun i h1 h2 => ?_
  have := h.2 r[i] (List.getElem_mem h2)
  rw [show (modR p r)[i] = r[i] % p by simp [modR]]
  exact Int.emod_eq_of_lt this.1 this.2
theorem told_joined (I : Inv p inv) (R1 : Rref p n b) (R2 : Rref p n c) (T1 : Told p n b h) (T2 : Told p n c t) : Told p n (sumL inv p b c) (joinedL p h t) := by
  have hl : Len n t := fun v m => (T2.rows I R2 v m).1
  obtain ⟨k1, k2⟩ := spanFold_ok (p := p) (n := n) I.two t b h R1.len hl T1.nd T1.mem
  refine ⟨k1, fun v => ?_⟩
  show v ∈ t.foldl (spanStep p) h ↔ _
  rw [k2, sum_span I R1 R2]
  have e : t.map (modR p) = t := by
    rw [List.map_congr_left fun r m => modR_id (T2.rows I R2 r m) I.pos, List.map_id']
  rw [e]
  have lA : Len n (b ++ t) := fun r m => (List.mem_append.mp m).elim (R1.len r) (hl r)
  have lB : Len n (b ++ c) := fun r m => (app_rows R1 R2 r m).1
  refine InS.congr I.pos lA lB (fun r m => ?_) fun r m => ?_
  · rcases List.mem_append.mp m with m | m
    · exact .self I.two (R1.rows r m) (List.mem_append_left _ m)
    · exact ((T2.mem r).mp m).mono fun s q => List.mem_append_right _ q
  · rcases List.mem_append.mp m with m | m
    · exact .self I.two (R1.rows r m) (List.mem_append_left _ m)
    · exact .self I.two (R2.rows r m) (List.mem_append_right _ (T2.has I R2 r m))
theorem both_comm (I : Inv p inv) (R1 : Rref p n b) (R2 : Rref p n c) : commonL inv p n b c = commonL inv p n c b :=
  (common_rref I R1 R2).uniq I.two (common_rref I R2 R1) fun v => by rw [common_span I R1 R2, common_span I R2 R1, and_comm]
theorem app_iff (I : Inv p inv) (R1 : Rref p n b) (R2 : Rref p n c) {d : List (List Int)} (hd : Len n d) : (∀ v, InS p n (b ++ c) v → InS p n d v) ↔ (∀ v, InS p n b v → InS p n d v) ∧ ∀ v, InS p n c v → InS p n d v := by
  refine ⟨fun k => ⟨fun v i => k v (i.mono fun r m => List.mem_append_left _ m), fun v i => k v (i.mono fun r m => List.mem_append_right _ m)⟩, fun ⟨k1, k2⟩ v i => i.imp I.pos hd fun r m => ?_⟩
  rcases List.mem_append.mp m with m | m
  · exact k1 r (.self I.two (R1.rows r m) m)
  · exact k2 r (.self I.two (R2.rows r m) m)
theorem sum_l (I : Inv p inv) (R1 : Rref p n b) (R2 : Rref p n c) {v : List Int} (i : InS p n b v) : InS p n (sumL inv p b c) v := (sum_span I R1 R2 v).mpr (i.mono fun r m => List.mem_append_left _ m)
theorem sum_r (I : Inv p inv) (R1 : Rref p n b) (R2 : Rref p n c) {v : List Int} (i : InS p n c v) : InS p n (sumL inv p b c) v := (sum_span I R1 R2 v).mpr (i.mono fun r m => List.mem_append_right _ m)
theorem sum_le (I : Inv p inv) (R1 : Rref p n b) (R2 : Rref p n c) {d : List (List Int)} (hd : Len n d) (k1 : ∀ v, InS p n b v → InS p n d v) (k2 : ∀ v, InS p n c v → InS p n d v) {v : List Int} (i : InS p n (sumL inv p b c) v) : InS p n d v :=
  (app_iff I R1 R2 hd).mpr ⟨k1, k2⟩ v ((sum_span I R1 R2 v).mp i)
theorem sum_comm (I : Inv p inv) (R1 : Rref p n b) (R2 : Rref p n c) : sumL inv p b c = sumL inv p c b :=
  (sum_rref I R1 R2).uniq I.two (sum_rref I R2 R1) fun v =>
    ⟨sum_le I R1 R2 (sum_rref I R2 R1).len (fun _ => sum_r I R2 R1) (fun _ => sum_l I R2 R1), sum_le I R2 R1 (sum_rref I R1 R2).len (fun _ => sum_r I R1 R2) (fun _ => sum_l I R1 R2)⟩
theorem both_self (I : Inv p inv) (R1 : Rref p n b) : commonL inv p n b b = b := (common_rref I R1 R1).uniq I.two R1 fun v => by rw [common_span I R1 R1, and_self]
theorem sum_self (I : Inv p inv) (R1 : Rref p n b) : sumL inv p b b = b := (sum_rref I R1 R1).uniq I.two R1 fun v => ⟨sum_le I R1 R1 R1.len (fun _ i => i) (fun _ i => i), sum_l I R1 R1⟩
theorem both_sum (I : Inv p inv) (R1 : Rref p n b) (R2 : Rref p n c) : commonL inv p n b (sumL inv p b c) = b :=
  (common_rref I R1 (sum_rref I R1 R2)).uniq I.two R1 fun v => by
    rw [common_span I R1 (sum_rref I R1 R2)]
    exact ⟨fun k => k.1, fun i => ⟨i, sum_l I R1 R2 i⟩⟩
theorem sum_both (I : Inv p inv) (R1 : Rref p n b) (R2 : Rref p n c) : sumL inv p b (commonL inv p n b c) = b :=
  (sum_rref I R1 (common_rref I R1 R2)).uniq I.two R1 fun v =>
    ⟨sum_le I R1 (common_rref I R1 R2) R1.len (fun _ i => i) (fun v i => ((common_span I R1 R2 v).mp i).1), sum_l I R1 (common_rref I R1 R2)⟩
theorem leB_iff (I : Inv p inv) (R1 : Rref p n b) (R2 : Rref p n c) : leB p n b c = true ↔ ∀ v, InS p n b v → InS p n c v := by
  rw [leB, List.all_eq_true]
  constructor
  · intro k v i
    exact i.imp I.pos R2.len fun r m => (rest_zero I.pos R2 (R1.rows r m)).mp (of_decide_eq_true (k r m))
  · intro k r m
    exact decide_eq_true ((rest_zero I.pos R2 (R1.rows r m)).mpr (k r (.self I.two (R1.rows r m) m)))
theorem le_len (I : Inv p inv) (R1 : Rref p n b) (R2 : Rref p n c) (T1 : Told p n b h) (T2 : Told p n c t) : leB p n b c = decide ((bothL h t).length = h.length) := by
  rw [Bool.eq_iff_iff, leB_iff I R1 R2, decide_eq_true_iff]
  rw [bothL, List.length_filter_eq_length_iff]
  exact ⟨fun k v m => decide_eq_true ((T2.mem v).mpr (k v ((T1.mem v).mp m))), fun k v i => (T2.mem v).mp (of_decide_eq_true (k v ((T1.mem v).mpr i)))⟩
theorem bothL_comm (T1 : Told p n b h) (T2 : Told p n c t) : (bothL h t).length = (bothL t h).length :=
  nodup_len (T1.nd.filter _) (T2.nd.filter _) fun v => by
    rw [bothL, bothL, List.mem_filter, List.mem_filter, decide_eq_true_iff, decide_eq_true_iff, and_comm]
theorem le_len' (I : Inv p inv) (R1 : Rref p n b) (R2 : Rref p n c) (T1 : Told p n b h) (T2 : Told p n c t) : leB p n c b = decide ((bothL h t).length = t.length) := by
  rw [bothL_comm T1 T2]
  exact le_len I R2 R1 T2 T1
theorem eq_len (I : Inv p inv) (R1 : Rref p n b) (R2 : Rref p n c) (T1 : Told p n b h) (T2 : Told p n c t) : decide (b = c) = (decide ((bothL h t).length = h.length) && decide ((bothL h t).length = t.length)) := by
  rw [← le_len I R1 R2 T1 T2, ← le_len' I R1 R2 T1 T2, Bool.eq_iff_iff, Bool.and_eq_true, leB_iff I R1 R2, leB_iff I R2 R1, decide_eq_true_iff]
  exact ⟨fun e => by subst e; exact ⟨fun _ i => i, fun _ i => i⟩, fun ⟨k1, k2⟩ => R1.uniq I.two R2 fun v => ⟨k1 v, k2 v⟩⟩
theorem both_le (I : Inv p inv) (R1 : Rref p n b) (R2 : Rref p n c) : leB p n (commonL inv p n b c) b = true :=
  (leB_iff I (common_rref I R1 R2) R1).mpr fun v i => ((common_span I R1 R2 v).mp i).1
/-- what the told vectors fill up -/
theorem ext_told (I : Inv p inv) (R1 : Rref p n b) (R2 : Rref p n c) (k : leB p n b c = true) (T2 : Told p n c t) : (extL b c).length + b.length = c.length ∧ (spanL p n (b ++ extL b c)).length = t.length ∧ ∀ v ∈ spanL p n (b ++ extL b c), v ∈ t := by
  have hs := (leB_iff I R1 R2).mp k
  have hr : ∀ r ∈ b ++ extL b c, Row p n r := fun r m => (List.mem_append.mp m).elim (R1.rows r) fun m => R2.rows r (List.mem_filter.mp m).1
  have hl : Len n (b ++ extL b c) := fun r m => (hr r m).1
  obtain ⟨k1, k2⟩ := spanL_ok (p := p) (n := n) I.two hl
  have e : (b ++ extL b c).map (modR p) = b ++ extL b c := by rw [List.map_congr_left fun r m => modR_id (hr r m) I.pos, List.map_id']
  rw [e] at k2
  have k3 : ∀ v, v ∈ spanL p n (b ++ extL b c) ↔ v ∈ t := fun v => by rw [k2, T2.mem, ext_span I R1 R2 hs v]
  exact ⟨ext_len I.two R1 R2 hs, nodup_len k1 T2.nd k3, fun v m => (k3 v).mp m⟩
end
end RX

set_option Elab.async false
set_option linter.all false
set_option maxRecDepth 100000
set_option maxHeartbeats 4000000
/-! # operators by own methods, within a try -/
namespace VX
open PySem PySem.Spec PyProof.Rows L2
/-- an operator whose promise knows the slots -/
def OpS (X : Cx) (f : Value → Value → Sem Value) (r : L2.St → R2) : Prop :=
  ∀ (pins : List (Addr × Obj)) (s : Shared) (σ : L2.St) (H : Hp) (x y : V) (v u : Value) (Q : VK), Inv X pins σ H s → RelV x v → RelV y u → r σ x y H Q →
    wpAny (model X.prog X.w) X.A (f v u) (EP X pins σ Q) X.xe s
def tOpS (r : L2.St → R2) (ta tb : TE) : TE := fun σ H Q => ta σ H fun x H1 => tb σ H1 fun y H2 => r σ x y H2 Q
section
variable {X : Cx} {a b : Expr} {pos : Pos} {ta tb : TE} {r : L2.St → R2}
theorem pe_opS {op : Operator} (ho : OpS X (binaryOp op) r) (ha : PE X a ta) (hb : PE X b tb) : PE X (.BinOp a op b pos) (tOpS r ta tb) :=
  ⟨fun pins s σ H Q I h => wpAny_BinOp (binT ha hb I h fun v u s2 x y H2 I2 rx ry q => ho pins s2 σ H2 x y v u Q I2 rx ry q)⟩
theorem pe_cmpS {op : CmpOp} (ho : OpS X (compareOp op) r) (ha : PE X a ta) (hb : PE X b tb) (hm : behindInMarks op b = false) : PE X (.Compare a [op] [b] pos) (tOpS r ta tb) :=
  ⟨fun pins s σ H Q I h => wpAny_Compare1 (binT ha hb I h fun v u s2 x y H2 I2 rx ry q => ho pins s2 σ H2 x y v u Q I2 rx ry q) hm⟩
theorem cmp_back {A : Around} {pins : List (Addr × Obj)} {σ : L2.St} {Q : VK} {f : Addr} {us : List Value} {s : Shared} {xe : Value → Shared → Prop} (h : wpAny (model X.prog X.w) A (call (.ref f) us) (EP X pins σ Q) xe s) :
    wpAny (model X.prog X.w) A (call (.ref f) us) (PySem.W.CmpBack (EP X pins σ Q)) xe s := by
  refine wpAny_mono h (fun w s' z => ?_) fun _ _ e => e
  obtain ⟨v, H1, I1, rv, q⟩ := z
  show PySem.W.CmpBack _ w s'
  cases w with
  | notImplemented => cases v <;> first | (cases rv; done) | (obtain ⟨_, z⟩ := rv; cases z)
  | _ => exact ⟨v, H1, I1, rv, q⟩
theorem op_ownBS {CX : CXT} {C f : Addr} {fd : FuncData} {ps : List Str} {n : Nat} {sp : Sp} {E : L2.St → XK} {op : Operator} (F : FnOk X.prog X.w X.K X.mg X.base CX n f fd ps sp) (hb : Binds X.K fd ps []) (hc : PySem.W.selfFirst X.K C = true)
    (hs : PySem.W.findIn X.K (.ref C) (PySem.dunder op.info.2) = some (some (.ref f))) (hf : PySem.W.isFn X.K (.ref f) = true) (hx : ∀ σ, PassesAt CX X σ (E σ)) (hr : Room n X.A) : OpS X (binaryOp op) (fun σ => rOwnB C sp (E σ)) := by
  intro pins s σ H x y v u Q I rx ry hq
  obtain ⟨a, b, dx, dy, fs, gs, rfl, rfl, ha, hb', h⟩ := hq
  cases rx
  cases ry
  obtain ⟨mA, J, _⟩ := ins_get I.hok ha
  obtain ⟨mB, J', _⟩ := ins_get I.hok hb'
  obtain ⟨od, J, _⟩ := J.look
  obtain ⟨od', J', _⟩ := J'.look
  obtain ⟨m, hF⟩ := I.fr
  refine PySem.W.binop_K (op := op) hF I.ok.mod.kin J J'.type hc hs hf ?_
  have r2 : Vals [V.ref a, V.ref b] [Value.ref a, Value.ref b] := .cons rfl (.cons rfl .nil)
  exact cmp_back (run_fnS F hr hb (hx σ) I r2 h)
theorem op_ownCS {CX : CXT} {C C' f : Addr} {fd : FuncData} {ps : List Str} {n : Nat} {sp : Sp} {E : L2.St → XK} (op : CmpOp) (F : FnOk X.prog X.w X.K X.mg X.base CX n f fd ps sp) (hb : Binds X.K fd ps []) (hn : PySem.W.notFirst X.K C (.ref C') = true)
    (hs : PySem.W.findIn X.K (.ref C) (cmpInfo op).2.1 = some (some (.ref f))) (hf : PySem.W.isFn X.K (.ref f) = true) (hx : ∀ σ, PassesAt CX X σ (E σ)) (hr : Room n X.A) (ho : compareOp op = richCompare op := by rfl) : OpS X (compareOp op) (fun σ => rOwnC C C' sp (E σ)) := by
  intro pins s σ H x y v u Q I rx ry hq
  obtain ⟨a, b, dx, dy, fs, gs, rfl, rfl, ha, hb', h⟩ := hq
  cases rx
  cases ry
  obtain ⟨mA, J, _⟩ := ins_get I.hok ha
  obtain ⟨mB, J', _⟩ := ins_get I.hok hb'
  obtain ⟨od, J, _⟩ := J.look
  obtain ⟨od', J', _⟩ := J'.look
  obtain ⟨m, hF⟩ := I.fr
  rw [ho]
  refine PySem.W.cmp_K (op := op) hr.units0 hF I.ok.mod.kin J J'.type hn hs hf ?_
  have r2 : Vals [V.ref a, V.ref b] [Value.ref a, Value.ref b] := .cons rfl (.cons rfl .nil)
  exact cmp_back (run_fnS F hr hb (hx σ) I r2 h)
/-- f(g = u, h = v) in a try -/
theorem pe_kcall2S {X : Cx} {CX : CXT} {x g h a b : Str} {f : Addr} {k : Nat} {fd : FuncData} {sp : Sp} {E : L2.St → XK} {p k1 k2 pos : Pos} {e1 e2 : Expr} {tk : TA} (o : Bool) (F : FnOk X.prog X.w X.K X.mg X.base CX k f fd [g, h] sp) (hr : Room k X.A) (hg : Gl X x) (hm : X.mg x = some (.ref f)) (hk : PySem.W.keepIn X.K (.ref f) = true)
    (hb : ∀ (s : Shared) (u v : Value), BindsTo s fd ⟨[], [(a, u), (b, v)]⟩ (if o = true then [(g, u), (h, v)] else [(g, v), (h, u)])) (hx : ∀ σ, PassesAt CX X σ (E σ)) (ha : PK X [⟨some a, e1, k1⟩, ⟨some b, e2, k2⟩] tk) (hdb : (x == ("__debug__" : Str)) = false := by decide)
    (hpl : ((backTo pos (starEach [] X.env)).any (·.1) || (backToKw pos (keywordEach [⟨some a, e1, k1⟩, ⟨some b, e2, k2⟩] X.env)).any (·.1.isNone)) = false := by rfl)
    (hall : (backToKw pos (keywordEach [⟨some a, e1, k1⟩, ⟨some b, e2, k2⟩] X.env)).all (·.1.isSome) = true := by rfl) (hks : (backToKw pos (keywordEach [⟨some a, e1, k1⟩, ⟨some b, e2, k2⟩] X.env)).filterMap (·.1) = [a, b] := by rfl) :
    PE X (.Call (.Name x p) [] [⟨some a, e1, k1⟩, ⟨some b, e2, k2⟩] pos) (fun σ H Q => tk σ H fun zs H1 => ∃ z1 z2, zs = [z1, z2] ∧ sp (if o = true then [z1, z2] else [z2, z1]) H1 Q (E σ)) := by
  refine ⟨fun pins s σ H Q I q0 => wpAny_Call_Name_kw (ld_glob I hg hm ?_ hdb)⟩
  refine PySem.W.callWith_KW0 (h₀ := X.base) I.ok.mod.kin hk hall ?_ hpl
  refine thn (ha.run pos pins s σ H _ I q0) fun ws s1 ⟨zs, H1, I1, rz, z1, z2, ez, q⟩ => ⟨I1.kIn, ?_⟩
  subst ez
  rw [hks]
  obtain ⟨u1, u2, rfl, r1, r2⟩ := vals2 rz
  show wpAny _ _ (call (.ref f) [] [(a, u1), (b, u2)]) _ _ _
  cases o with
  | true =>
    refine wpAny_call (codeAny_mono (F.run X.A X.stack s1 H1 ⟨[], [(a, u1), (b, u2)]⟩ [u1, u2] [z1, z2] Q (E σ) hr I1.env0 (hb s1 u1 u2) (.cons r1 (.cons r2 .nil)) q) fun r s' hq => ?_)
    match r, hq with
    | .ok (.ret u), hq => exact I1.after hq
    | .error er, hq => exact hx σ pins H1 s1 er s' I1 hq
  | false =>
    refine wpAny_call (codeAny_mono (F.run X.A X.stack s1 H1 ⟨[], [(a, u1), (b, u2)]⟩ [u2, u1] [z2, z1] Q (E σ) hr I1.env0 (hb s1 u1 u2) (.cons r2 (.cons r1 .nil)) q) fun r s' hq => ?_)
    match r, hq with
    | .ok (.ret u), hq => exact I1.after hq
    | .error er, hq => exact hx σ pins H1 s1 er s' I1 hq
end
end VX

set_option Elab.async false
set_option linter.all false
set_option maxRecDepth 100000
set_option maxHeartbeats 4000000
/-! several except clauses, some «as n», one name -/
namespace VX
open PySem PySem.Spec PyProof.Rows L2
/-- what the clauses wish of an exception of the body, from the first on; the name in slot i is empty behind a suite -/
def wMixed (K : PySem.W.Frag) (i : Nat) (Wout : WX) (D : Ends) : List (Bool × Value × (Addr → Value → Option Addr → TS)) → WX
  | [] => Wout
  | (m, c, ts) :: r => fun cls d σ H => ∃ b, PySem.W.exmOne K cls c = some b ∧ (b = true → ∀ a, H a = none →
      if m = true then ts a cls d { nx := fun σ' H' => D.nx (σ'.set i none) H', rt := D.rt, bk := fun σ' H' => D.bk (σ'.set i none) H', ct := fun σ' H' => D.ct (σ'.set i none) H' } (σ.set i (some (.ref a))) H else ts a cls d D σ H) ∧ (b = false → wMixed K i Wout D r cls d σ H)
inductive ClausesM (X : Cx) (n : Str) : List ExceptHandler → List (Bool × Value × (Addr → Value → Option Addr → TS)) → Prop
  | nil : ClausesM X n [] []
  | cons {x : Str} {c : Value} {ts : Addr → Value → Option Addr → TS} {b₀ : Stmt} {su : List Stmt} {p1 p2 : Pos} {hs : List ExceptHandler} {l : List (Bool × Value × (Addr → Value → Option Addr → TS))} (hc : Names X x c)
      (hsu : ∀ (a : Addr) (oe : Obj) (cls : Value) (d : Option Addr) (pn : List (Addr × Obj)), Zc cls d oe → (∃ vs, oe.data = .fields vs) → PSs (X.suite a ((a, oe) :: pn)) (b₀ :: su) (ts a cls d)) (r : ClausesM X n hs l) :
      ClausesM X n (.ExceptHandler (some (.Name x p1)) (some n) (b₀ :: su) p2 :: hs) ((true, c, ts) :: l)
  | bare {x : Str} {c : Value} {ts : Addr → Value → Option Addr → TS} {b₀ : Stmt} {su : List Stmt} {p1 p2 : Pos} {hs : List ExceptHandler} {l : List (Bool × Value × (Addr → Value → Option Addr → TS))} (hc : Names X x c)
      (hsu : ∀ (a : Addr) (oe : Obj) (cls : Value) (d : Option Addr) (pn : List (Addr × Obj)), Zc cls d oe → (∃ vs, oe.data = .fields vs) → PSs (X.suite a ((a, oe) :: pn)) (b₀ :: su) (ts a cls d)) (r : ClausesM X n hs l) :
      ClausesM X n (.ExceptHandler (some (.Name x p1)) none (b₀ :: su) p2 :: hs) ((false, c, ts) :: l)
theorem ps_try_mixed {X : Cx} {n : Str} {i : Nat} {body : List Stmt} {h₀ : ExceptHandler} {hds : List ExceptHandler} {l : List (Bool × Value × (Addr → Value → Option Addr → TS))} {pos : Pos} {tb : WX → TS} {Wout : WX}
    (hs : X.stack = X.env :: X.outer) (hf : X.env.frame = some X.env.locals) (hN : X.N.Nodup) (hi : X.N[i]? = some n) (hln : X.env.kindOf n = some .local) (tk : Takes X Wout)
    (hb : ∀ (W : WX) (pn : List (Addr × Obj)) (xe : Value → Shared → Prop), Takes (X.tr pn xe) W → PassesOwn (model X.prog X.w) X.A X.env xe → PSs (X.tr pn xe) body (tb W)) (hh : ClausesM X n (h₀ :: hds) l) :
    PS X (.Try body (h₀ :: hds) [] [] pos) (fun D σ H => tb (wMixed X.K i Wout D l) D σ H) := by
  refine ⟨fun pins s σ H D I h => wpAny_Try_except ?_⟩
  have ok := I.ok
  have fr : X.A.frames = some (X.env :: X.outer) := by rw [ok.frames, hs]
  have lc : Loc X.env.scope n := .inl hln
  refine wpAny_mono ((hb (wMixed X.K i Wout D l) (X.pn ++ pins) (fun e t1 => wpAny (model X.prog X.w) X.A (noteFrame e X.env) (fun _ t2 => wpAny (model X.prog X.w) X.A (setFlight e none) (fun _ t3 =>
    wpAny (model X.prog X.w) X.A (handleBy e X.env (h₀ :: hds)) (SP X pins D) X.xe t3) X.xe t2) X.xe t1) (fun u s' xx => ?caught) PassesOwn.looking).run [] s σ H D (I.toTry _) h) (fun f s1 q => ?through) (fun _ _ z => z)
  case through =>
    cases f with
    | next => obtain ⟨σ', H', J, q⟩ := q; exact wpAny_execs_nil ⟨σ', H', J.ofTry ok, q⟩
    | brk => obtain ⟨σ', H', J, q⟩ := q; exact ⟨σ', H', J.ofTry ok, q⟩
    | cont => obtain ⟨σ', H', J, q⟩ := q; exact ⟨σ', H', J.ofTry ok, q⟩
    | ret u => obtain ⟨v, σ', H', J, r, q⟩ := q; exact ⟨v, σ', H', J.ofTry ok, r, q⟩
  case caught =>
    obtain ⟨a, B, sI, ps', σ', H', cls, d, rfl, J', nb, up, sky, na, os, ag, w⟩ := xx
    have J : L2.Inv X pins σ' H' sI := J'.ofTry ok
    have sk : Sky B (X.env :: X.outer) a (Zc cls d) X.env.locals s'.heap := by rw [← hs]; exact sky
    show wpAny (model X.prog X.w) X.A (noteFrame (.ref a) X.env) _ _ _
    refine Sky.land Zc.steady fr hf sk fun h3 fl3 up3 => ?_
    have J3 : L2.Inv X pins σ' H' { s' with heap := h3 } := J.landed nb fl3.1 (up.trans up3) os ag
    obtain ⟨oe, vs, he, hz, hd⟩ := fl3.there
    have nfr : a ∉ frs (X.env :: X.outer) := fun hm => by
      obtain ⟨_, o', e', hnf⟩ := fl3.2.2.1.mem hm
      rw [he] at e'
      cases e'
      exact hnf _ hd
    have nL : a ≠ X.env.locals := fun z => nfr (List.mem_filterMap.mpr ⟨X.env, .head _, by rw [hf, z]⟩)
    have nF : a ∉ X.fs := fun hm => by
      obtain ⟨e, m, q⟩ := List.mem_filterMap.mp hm
      exact nfr (List.mem_filterMap.mpr ⟨e, .tail _ m, q⟩)
    have S3 := J3.suite he hd na nL nF
    have go : ∀ {hs' : List ExceptHandler} {l' : List (Bool × Value × (Addr → Value → Option Addr → TS))}, ClausesM X n hs' l' → wMixed X.K i Wout D l' cls d σ' H' → wpAny (model X.prog X.w) X.A (handleBy (.ref a) X.env hs') (SP X pins D) X.xe { s' with heap := h3 } := by
      intro hs' l' hk
      induction hk with
      | nil =>
        intro w
        refine wpAny_handleBy_nil ?_
        obtain ⟨_, _, _, oe1, vs1, T, oT, ts1, he1, hz1, hd1, h1, _⟩ := id fl3
        unfold PySem.passOn
        refine wpAny_bind (wpAny_field he1 hd1 h1 ?_)
        rw [if_neg (show ¬ ((Value.ref T == Value.none) = true) by simp)]
        have fin : wpAny (model X.prog X.w) X.A (setFlight (.ref a) X.env.frame) (fun _ s4 => wpAny (model X.prog X.w) X.A (throw (.ref a) : Sem Flow) (SP X pins D) X.xe s4) X.xe { s' with heap := h3 } := by
          rw [hf]
          exact HandSPX.setFlight_upZ fl3 fun h4 hh4 up4 => wpAny_throw (tk _ _ ⟨a, B, sI, pins, σ', H', cls, d, rfl, J, nb, (up.trans up3).trans up4, .inr (.inr (by rw [hs]; exact hh4)), na, os, ag, w⟩)
        first | exact wpAny_bind (wpAny_pure (wpAny_bind fin)) | exact wpAny_bind fin
      | @cons x c ts b₀ su p1 p2 hs2 l2 hc hsu r ih =>
        rintro ⟨b, hb1, hy, hno⟩
        refine wpAny_handleBy_cons (codeAny_handlers_test ?_) (by intro q; cases q)
        have ty : PySem.W.Looks (model X.prog X.w) h3 (typeOf (.ref a)) cls := fun A Q E t k q => wpAny_typeOf_ref (k _ _ he) (by rw [hz.1]; exact q)
        have lk := PySem.W.exm_one (M := model X.prog X.w) (J3.kIn) ty hb1
        have asked : ∀ {Q E : Value → Shared → Prop}, Q c { s' with heap := h3 } → wpAny (model X.prog X.w) (X.A.mark (some (.ref a))) (eval (.Name x p1) X.env) Q E { s' with heap := h3 } := by
          intro Q E q
          obtain ⟨hg, hdb, hm | ⟨hm, hv, hn⟩⟩ := hc
          · exact ld_glob (X := X.suite a ((a, oe) :: (X.pn ++ pins))) S3 hg hm q hdb
          · exact ld_blt (X := X.suite a ((a, oe) :: (X.pn ++ pins))) S3 hg hm hv q hn hdb
        refine asked (lk.here ?_)
        cases b with
        | false => exact ih (hno rfl)
        | true =>
          refine codeAny_handlers_suite_as (HandSPX.lands_againZ fl3 fun h4 fl4 up4 => ?_)
          have J4 : L2.Inv X pins σ' H' { s' with heap := h4 } := J.landed nb fl4.1 ((up.trans up3).trans up4) os ag
          obtain ⟨oe4, vs4, he4, hz4, hd4⟩ := fl4.there
          refine store_ok (X := X.suite a ((a, oe4) :: (X.pn ++ pins))) (v := .ref a) (J4.suite he4 hd4 na nL nF) hN hi lc rfl (fun s5 S5 => ?_) (.inr hln)
          refine wpAny_mono ((hsu a oe4 cls d (X.pn ++ pins) hz4 ⟨_, hd4⟩).run [] s5 _ H' _ S5 (hy rfl a na)) (fun f s6 q => ?_) (fun _ _ z => False.elim z)
          have over : ∀ {σ6 : L2.St} {H6 : Hp} {Q : Shared → Prop}, L2.Inv (X.suite a ((a, oe4) :: (X.pn ++ pins))) [] σ6 H6 s6 → (∀ s7, L2.Inv X pins (σ6.set i none) H6 s7 → Q s7) →
              wpAny (model X.prog X.w) X.A (do bindName X.env n .none; unbindBehindTheSuite X.env n p2) (fun _ s7 => Q s7) X.xe s6 := fun S6 hq => gone_ok (S6.unsuite ok) hN hi hln hq
          cases f with
          | next => obtain ⟨σ6, H6, S6, q6⟩ := q; exact over S6 fun s7 J7 => ⟨_, _, J7, q6⟩
          | brk => obtain ⟨σ6, H6, S6, q6⟩ := q; exact over S6 fun s7 J7 => ⟨_, _, J7, q6⟩
          | cont => obtain ⟨σ6, H6, S6, q6⟩ := q; exact over S6 fun s7 J7 => ⟨_, _, J7, q6⟩
          | ret u => obtain ⟨v6, σ6, H6, S6, r6, q6⟩ := q; exact over S6 fun s7 J7 => ⟨_, _, _, J7, r6, q6⟩
      | @bare x c ts b₀ su p1 p2 hs2 l2 hc hsu r ih =>
        rintro ⟨b, hb1, hy, hno⟩
        refine wpAny_handleBy_cons (codeAny_handlers_test ?_) (by intro q; cases q)
        have ty : PySem.W.Looks (model X.prog X.w) h3 (typeOf (.ref a)) cls := fun A Q E t k q => wpAny_typeOf_ref (k _ _ he) (by rw [hz.1]; exact q)
        have lk := PySem.W.exm_one (M := model X.prog X.w) (J3.kIn) ty hb1
        have asked : ∀ {Q E : Value → Shared → Prop}, Q c { s' with heap := h3 } → wpAny (model X.prog X.w) (X.A.mark (some (.ref a))) (eval (.Name x p1) X.env) Q E { s' with heap := h3 } := by
          intro Q E q
          obtain ⟨hg, hdb, hm | ⟨hm, hv, hn⟩⟩ := hc
          · exact ld_glob (X := X.suite a ((a, oe) :: (X.pn ++ pins))) S3 hg hm q hdb
          · exact ld_blt (X := X.suite a ((a, oe) :: (X.pn ++ pins))) S3 hg hm hv q hn hdb
        refine asked (lk.here ?_)
        cases b with
        | false => exact ih (hno rfl)
        | true =>
          refine codeAny_handlers_suite (HandSPX.lands_againZ fl3 fun h4 fl4 up4 => ?_)
          have J4 : L2.Inv X pins σ' H' { s' with heap := h4 } := J.landed nb fl4.1 ((up.trans up3).trans up4) os ag
          obtain ⟨oe4, vs4, he4, hz4, hd4⟩ := fl4.there
          refine wpAny_mono ((hsu a oe4 cls d (X.pn ++ pins) hz4 ⟨_, hd4⟩).run [] _ _ H' _ (J4.suite he4 hd4 na nL nF) (hy rfl a na)) (fun f s6 q => ?_) (fun _ _ z => False.elim z)
          cases f with
          | next => obtain ⟨σ6, H6, S6, q6⟩ := q; exact ⟨_, _, S6.unsuite ok, q6⟩
          | brk => obtain ⟨σ6, H6, S6, q6⟩ := q; exact ⟨_, _, S6.unsuite ok, q6⟩
          | cont => obtain ⟨σ6, H6, S6, q6⟩ := q; exact ⟨_, _, S6.unsuite ok, q6⟩
          | ret u => obtain ⟨v6, σ6, H6, S6, r6, q6⟩ := q; exact ⟨_, _, _, S6.unsuite ok, r6, q6⟩
    exact go hh w
end VX

set_option Elab.async false
set_option linter.all false
set_option maxRecDepth 100000
set_option maxHeartbeats 4000000
/-! # == and != of lists of own objects, either way; own x[k]; C(..) in a try; C(*y); a list value in a tuple of texts -/
namespace GB
open PySem PySem.SeqAt GQ MeetsSeq MeetsSeq2 MeetsSeq3 SeqRoads2
open AutoSeq1 (wpAny_loadPart')
section
variable {prog : Program} {w : World} {A : Around} {R : Result → Shared → Prop}
/-- at each turn the two lists are read anew: N items each, the i-th two as e says -/
def ListB (prog : Program) (w : World) (A : Around) (E : Value → Shared → Prop) (l b : Addr) (N : Nat) (e : Nat → Bool) (I : Shared → Prop) : Prop :=
  ∀ i s, I s → ∃ (items items2 : Array Value) (n n2 : Nat), s.heap.get? l = some { cls := .type "list", data := .seq items n } ∧ s.heap.get? b = some { cls := .type "list", data := .seq items2 n2 } ∧ items.size = N ∧ items2.size = N ∧
    ∀ (h1 : i < items.size) (h2 : i < items2.size), wpAny (model prog w) A.in1 (eqBool items[i] items2[i]) (fun r s' => r = e i ∧ I s') E s
theorem eq_loopB (l b : Addr) (N : Nat) (e : Nat → Bool) (I : Shared → Prop) (hl : ListB prog w A (fun e s' => R (.error e) s') l b N e I)
    (fin : ∀ s, I s → R (.ok (.ret (.bool (((List.range N).all e))))) s) (k : Nat) :
    ∀ i : Nat, N - i = k → i ≤ N → ((List.range N).drop i).all e = (List.range N).all e → ∀ s, I s →
      wpAny (model prog w) A.in1 (Builtin.«list.__eq__.loop» ⟨[.ref l, .ref b, rawInt i, rawInt 2], []⟩) (FinOf prog w A R) (fun e s' => R (.error e) s') s := by
  induction k with
  | zero =>
    intro i hk hi ha s h
    obtain ⟨items, items2, n, n2, hl1, hb1, hs1, hs2, _⟩ := hl i s h
    have hi' : i = N := by omega
    have hR := fin s h
    rw [← ha, hi', List.drop_of_length_le (by simp), List.all_nil] at hR
    obtain ⟨hp, g, d, tk, os⟩ := s
    wp_walk using wpAny_loadPart' hl1, wpAny_loadPart' hb1
    have hi1 : items[((i : Nat) : Int).toNat]? = none := by simp; omega
    have hi2 : items2[((i : Nat) : Int).toNat]? = none := by simp; omega
    rw [hi1, hi2]
    wp_walk using wpAny_loadPart' hl1, wpAny_loadPart' hb1
    show R (.ok (.ret (.bool (items.size == items2.size)))) _
    rw [hs1, hs2]
    simpa using hR
  | succ k ih =>
    intro i hk hi ha s h
    obtain ⟨items, items2, n, n2, hl1, hb1, hs1, hs2, turn⟩ := hl i s h
    have hlt : i < items.size := by omega
    have hlt2 : i < items2.size := by omega
    have ht := turn hlt hlt2
    obtain ⟨hp, g, d, tk, os⟩ := s
    wp_walk using wpAny_loadPart' hl1, wpAny_loadPart' hb1
    have hi1 : items[((i : Nat) : Int).toNat]? = some items[i] := by simp [hlt]
    have hi2 : items2[((i : Nat) : Int).toNat]? = some items2[i] := by simp [hlt2]
    have hc : ((i : Int) + 1) = ((i + 1 : Nat) : Int) := by omega
    rw [hi1, hi2]
    refine wpAny_bind (wpAny_mono ht (fun r s2 h2 => ?_) fun _ _ x => x)
    obtain ⟨hr, h2⟩ := h2
    subst hr
    have hiN : i < N := by omega
    have hd : (List.range N).drop i = i :: (List.range N).drop (i + 1) := by simp [List.drop_eq_getElem_cons, hiN]
    rw [hd, List.all_cons] at ha
    cases hy : e i with
    | true =>
      rw [hy, Bool.true_and] at ha
      have hrec := ih (i + 1) (by omega) (by omega) ha s2 h2
      obtain ⟨hp2, g2, d2, tk2, os2⟩ := s2
      wp_walk
      rw [hc]
      exact ⟨plainId_quiet plain_eq_loop _, codeAny_builtin entry_eq_loop (by
        rw [Around.under_plainId plain_eq_loop _]
        exact hrec)⟩
    | false =>
      rw [hy, Bool.false_and] at ha
      have hR := fin s2 h2
      rw [← ha] at hR
      obtain ⟨items', items2', n', n2', hl2, hb2, hs1', hs2', _⟩ := hl i s2 h2
      have hi1' : items'[((i : Nat) : Int).toNat]? = some (items'[i]'(by omega)) := by
        rw [Int.toNat_natCast]
        exact Array.getElem?_eq_getElem _
      have hi2' : items2'[((i : Nat) : Int).toNat]? = some (items2'[i]'(by omega)) := by
        rw [Int.toNat_natCast]
        exact Array.getElem?_eq_getElem _
      obtain ⟨hp2, g2, d2, tk2, os2⟩ := s2
      wp_walk using wpAny_loadPart' hl2, wpAny_loadPart' hb2
      rw [hi1', hi2']
      wp_walk using wpAny_loadPart' hl2, wpAny_loadPart' hb2
      first | exact hR | exact ⟨_, rfl, hR⟩ | simpa using hR
theorem list_eqB (l b : Addr) (N : Nat) (e : Nat → Bool) (I : Shared → Prop) (hl : ListB prog w A (fun e s' => R (.error e) s') l b N e I)
    (fin : ∀ s, I s → R (.ok (.ret (.bool (((List.range N).all e))))) s) {s : Shared} (h : I s) :
    wpAny (model prog w) A.in1 (Builtin.«list.__eq__» ⟨[.ref l, .ref b], []⟩) (FinOf prog w A R) (fun e s' => R (.error e) s') s := by
  obtain ⟨items, items2, n, n2, hl1, hb1, hs1, hs2, _⟩ := hl 0 s h
  have hrec := eq_loopB (A := A) (R := R) l b N e I hl fin _ 0 rfl (Nat.zero_le _) rfl s h
  obtain ⟨hp, g, d, tk, os⟩ := s
  have f3 := AutoSeq1.sub_list_list
  have hne : ¬ (items.size != items2.size) = true := by simp [hs1, hs2]
  wp_walk using wpAny_loadPart' hl1, wpAny_loadPart' hb1
  exact ⟨plainId_quiet plain_eq_loop _, codeAny_builtin entry_eq_loop (by
    rw [Around.under_plainId plain_eq_loop _]
    exact hrec)⟩
theorem rc_listB {E : Value → Shared → Prop} {s : Shared} {l b : Addr} {N : Nat} {Q : Value → Shared → Prop} (hu : A.units < cLine) (e : Nat → Bool) (I : Shared → Prop) (hl : ListB prog w A E l b N e I)
    (fin : ∀ s, I s → Q (.bool (((List.range N).all e))) s) (h : I s) : wpAny (model prog w) A (richCompare .Eq (.ref l) (.ref b)) Q E s := by
  obtain ⟨items, items2, n, n2, hl1, hb1, _, _, _⟩ := hl 0 s h
  refine wpAny_richCompare_same_room (op := .Eq) ⟨_, hl1, rfl⟩ ⟨_, hb1, rfl⟩ F.slot_list_eq (call_here F.slot_list_eq ⟨_, hl1, rfl⟩ F.entry_list_eq (F.args_list_eq_2 _ _) ?_) hu
  exact list_eqB (R := wants (fun v s' => v ≠ .notImplemented ∧ Q v s') E) l b N e I hl (fun s' q => ⟨(fun x => nomatch x), fin s' q⟩) h
theorem ne_loopB (l b : Addr) (N : Nat) (e : Nat → Bool) (I : Shared → Prop) (hl : ListB prog w A (fun e s' => R (.error e) s') l b N e I)
    (fin : ∀ s, I s → R (.ok (.ret (.bool (!((List.range N).all e))))) s) (k : Nat) :
    ∀ i : Nat, N - i = k → i ≤ N → ((List.range N).drop i).all e = (List.range N).all e → ∀ s, I s →
      wpAny (model prog w) A.in1 (Builtin.«list.__eq__.loop» ⟨[.ref l, .ref b, rawInt i, rawInt 3], []⟩) (FinOf prog w A R) (fun e s' => R (.error e) s') s := by
  induction k with
  | zero =>
    intro i hk hi ha s h
    obtain ⟨items, items2, n, n2, hl1, hb1, hs1, hs2, _⟩ := hl i s h
    have hi' : i = N := by omega
    have hR := fin s h
    rw [← ha, hi', List.drop_of_length_le (by simp), List.all_nil] at hR
    obtain ⟨hp, g, d, tk, os⟩ := s
    wp_walk using wpAny_loadPart' hl1, wpAny_loadPart' hb1
    have hi1 : items[((i : Nat) : Int).toNat]? = none := by simp; omega
    have hi2 : items2[((i : Nat) : Int).toNat]? = none := by simp; omega
    rw [hi1, hi2]
    wp_walk using wpAny_loadPart' hl1, wpAny_loadPart' hb1
    show R (.ok (.ret (.bool (items.size != items2.size)))) _
    rw [hs1, hs2]
    simpa using hR
  | succ k ih =>
    intro i hk hi ha s h
    obtain ⟨items, items2, n, n2, hl1, hb1, hs1, hs2, turn⟩ := hl i s h
    have hlt : i < items.size := by omega
    have hlt2 : i < items2.size := by omega
    have ht := turn hlt hlt2
    obtain ⟨hp, g, d, tk, os⟩ := s
    wp_walk using wpAny_loadPart' hl1, wpAny_loadPart' hb1
    have hi1 : items[((i : Nat) : Int).toNat]? = some items[i] := by simp [hlt]
    have hi2 : items2[((i : Nat) : Int).toNat]? = some items2[i] := by simp [hlt2]
    have hc : ((i : Int) + 1) = ((i + 1 : Nat) : Int) := by omega
    rw [hi1, hi2]
    refine wpAny_bind (wpAny_mono ht (fun r s2 h2 => ?_) fun _ _ x => x)
    obtain ⟨hr, h2⟩ := h2
    subst hr
    have hiN : i < N := by omega
    have hd : (List.range N).drop i = i :: (List.range N).drop (i + 1) := by simp [List.drop_eq_getElem_cons, hiN]
    rw [hd, List.all_cons] at ha
    cases hy : e i with
    | true =>
      rw [hy, Bool.true_and] at ha
      have hrec := ih (i + 1) (by omega) (by omega) ha s2 h2
      obtain ⟨hp2, g2, d2, tk2, os2⟩ := s2
      wp_walk
      rw [hc]
      exact ⟨plainId_quiet plain_eq_loop _, codeAny_builtin entry_eq_loop (by
        rw [Around.under_plainId plain_eq_loop _]
        exact hrec)⟩
    | false =>
      rw [hy, Bool.false_and] at ha
      have hR := fin s2 h2
      rw [← ha] at hR
      obtain ⟨items', items2', n', n2', hl2, hb2, hs1', hs2', _⟩ := hl i s2 h2
      have hi1' : items'[((i : Nat) : Int).toNat]? = some (items'[i]'(by omega)) := by
        rw [Int.toNat_natCast]
        exact Array.getElem?_eq_getElem _
      have hi2' : items2'[((i : Nat) : Int).toNat]? = some (items2'[i]'(by omega)) := by
        rw [Int.toNat_natCast]
        exact Array.getElem?_eq_getElem _
      obtain ⟨hp2, g2, d2, tk2, os2⟩ := s2
      wp_walk using wpAny_loadPart' hl2, wpAny_loadPart' hb2
      rw [hi1', hi2']
      wp_walk using wpAny_loadPart' hl2, wpAny_loadPart' hb2
      first | exact hR | exact ⟨_, rfl, hR⟩ | simpa using hR
theorem list_neB (l b : Addr) (N : Nat) (e : Nat → Bool) (I : Shared → Prop) (hl : ListB prog w A (fun e s' => R (.error e) s') l b N e I)
    (fin : ∀ s, I s → R (.ok (.ret (.bool (!((List.range N).all e))))) s) {s : Shared} (h : I s) :
    wpAny (model prog w) A.in1 (Builtin.«list.__ne__» ⟨[.ref l, .ref b], []⟩) (FinOf prog w A R) (fun e s' => R (.error e) s') s := by
  obtain ⟨items, items2, n, n2, hl1, hb1, hs1, hs2, _⟩ := hl 0 s h
  have hrec := ne_loopB (A := A) (R := R) l b N e I hl fin _ 0 rfl (Nat.zero_le _) rfl s h
  obtain ⟨hp, g, d, tk, os⟩ := s
  have f3 := AutoSeq1.sub_list_list
  have hne : ¬ (items.size != items2.size) = true := by simp [hs1, hs2]
  wp_walk using wpAny_loadPart' hl1, wpAny_loadPart' hb1
  exact ⟨plainId_quiet plain_eq_loop _, codeAny_builtin entry_eq_loop (by
    rw [Around.under_plainId plain_eq_loop _]
    exact hrec)⟩
theorem rc_listNB {E : Value → Shared → Prop} {s : Shared} {l b : Addr} {N : Nat} {Q : Value → Shared → Prop} (hu : A.units < cLine) (e : Nat → Bool) (I : Shared → Prop) (hl : ListB prog w A E l b N e I)
    (fin : ∀ s, I s → Q (.bool (!((List.range N).all e))) s) (h : I s) : wpAny (model prog w) A (richCompare .NotEq (.ref l) (.ref b)) Q E s := by
  obtain ⟨items, items2, n, n2, hl1, hb1, _, _, _⟩ := hl 0 s h
  refine wpAny_richCompare_same_room (op := .NotEq) ⟨_, hl1, rfl⟩ ⟨_, hb1, rfl⟩ F.slot_list_ne (call_here F.slot_list_ne ⟨_, hl1, rfl⟩ F.entry_list_ne (F.args_list_ne_2 _ _) ?_) hu
  exact list_neB (R := wants (fun v s' => v ≠ .notImplemented ∧ Q v s') E) l b N e I hl (fun s' q => ⟨(fun x => nomatch x), fin s' q⟩) h
end
end GB
namespace VX
open PySem PySem.Spec PyProof.Rows L2
section
variable {X : Cx} {n : Nat} {D : EqvB}
/-- two lists of as many items, item by item -/
def DListB (D : EqvB) : EqvB := fun x y b H => ∃ p q xs ys e, x = .ref p ∧ y = .ref q ∧ H p = some (.lst xs) ∧ H q = some (.lst ys) ∧ PrsB D xs ys e H ∧ b = (List.range xs.length).all e
theorem turnB (hD : MonB D) (h : EqB X n D) {A : Around} (sb : Sub X (n + 1) A) {pins : List (Addr × Obj)} {σ : L2.St} {H : Hp} {xs ys : List V} {e : Nat → Bool} {its its2 : List Value} (p : PrsB D xs ys e H) (r : Vals xs its) (r2 : Vals ys its2)
    (i : Nat) (h1 : i < its.toArray.size) (h2 : i < its2.toArray.size) (s' : Shared) (l : LoopI X pins σ H s') :
    wpAny (model X.prog X.w) A.in1 (eqBool its.toArray[i] its2.toArray[i]) (fun r s2 => r = e i ∧ LoopI X pins σ H s2) X.xe s' := by
  obtain ⟨H1, I1, e1⟩ := l
  have g1 : its[i]? = some its.toArray[i] := by
    have h1' : i < its.length := by simpa using h1
    rw [List.getElem?_eq_getElem h1'] <;> simp
  have g2 : its2[i]? = some its2.toArray[i] := by
    have h2' : i < its2.length := by simpa using h2
    rw [List.getElem?_eq_getElem h2'] <;> simp
  have k1 : i < xs.length := by rw [r.length]; simpa using h1
  have k2 : i < ys.length := by rw [r2.length]; simpa using h2
  obtain ⟨u, hu, ru⟩ := r.get (List.getElem?_eq_getElem k1)
  obtain ⟨v, hv, rv⟩ := r2.get (List.getElem?_eq_getElem k2)
  rw [g1] at hu
  rw [g2] at hv
  rw [Option.some.inj hu, Option.some.inj hv]
  refine wpAny_mono (h A.in1 pins s' σ H1 _ _ _ u v sb.in1 I1 ru rv (hD _ _ _ _ _ e1 (p.2 i _ _ (List.getElem?_eq_getElem k1) (List.getElem?_eq_getElem k2)))) (fun r s2 q => ?_) fun _ _ x => x
  obtain ⟨hr, H2, I2, e2⟩ := q
  exact ⟨hr, H2, I2, e1.trans e2⟩
/-- x == y, x != y, lists of own objects -/
def rLst (b : Bool) (D : EqvB) : R2 := fun x y H Q => ∃ z, DListB D x y z H ∧ ∀ H', Ext H H' → Q (.bl (if b = true then z else !z)) H'
theorem op_eqLB (hD : MonB D) (h : EqB X n D) (hr : Room (n + 1) X.A) : OpR X (compareOp .Eq) (rLst true D) := by
  intro pins s σ H x y v u Q I rx ry hq
  obtain ⟨z, ⟨a, b, xs, ys, e, rfl, rfl, ha, hb, p, rfl⟩, q⟩ := hq
  cases rx
  cases ry
  show wpAny (model X.prog X.w) X.A (richCompare .Eq (.ref a) (.ref b)) (EP X pins σ Q) X.xe s
  refine GB.rc_listB (N := xs.length) hr.units0 e (fun s' => LoopI X pins σ H s') (fun i s' l => ?_) (fun s' l => ?_) ⟨H, I, Ext.rfl'⟩
  · obtain ⟨H1, I1, e1⟩ := id l
    obtain ⟨z, its, k, r, ee⟩ := I1.hok a _ (e1 _ _ ha)
    obtain ⟨z2, its2, k2, r2, e2⟩ := I1.hok b _ (e1 _ _ hb)
    refine ⟨its.toArray, its2.toArray, k, k2, ee, e2, by rw [List.size_toArray, ← r.length], by rw [List.size_toArray, ← r2.length, ← p.1], fun h1 h2 => ?_⟩
    exact turnB hD h ⟨hr, rfl⟩ p r r2 i h1 h2 s' l
  · obtain ⟨H1, I1, e1⟩ := l
    exact ⟨.bl _, H1, I1, rfl, q H1 e1⟩
theorem op_neLB (hD : MonB D) (h : EqB X n D) (hr : Room (n + 1) X.A) : OpR X (compareOp .NotEq) (rLst false D) := by
  intro pins s σ H x y v u Q I rx ry hq
  obtain ⟨z, ⟨a, b, xs, ys, e, rfl, rfl, ha, hb, p, rfl⟩, q⟩ := hq
  cases rx
  cases ry
  show wpAny (model X.prog X.w) X.A (richCompare .NotEq (.ref a) (.ref b)) (EP X pins σ Q) X.xe s
  refine GB.rc_listNB (N := xs.length) hr.units0 e (fun s' => LoopI X pins σ H s') (fun i s' l => ?_) (fun s' l => ?_) ⟨H, I, Ext.rfl'⟩
  · obtain ⟨H1, I1, e1⟩ := id l
    obtain ⟨z, its, k, r, ee⟩ := I1.hok a _ (e1 _ _ ha)
    obtain ⟨z2, its2, k2, r2, e2⟩ := I1.hok b _ (e1 _ _ hb)
    refine ⟨its.toArray, its2.toArray, k, k2, ee, e2, by rw [List.size_toArray, ← r.length], by rw [List.size_toArray, ← r2.length, ← p.1], fun h1 h2 => ?_⟩
    exact turnB hD h ⟨hr, rfl⟩ p r r2 i h1 h2 s' l
  · obtain ⟨H1, I1, e1⟩ := l
    exact ⟨.bl _, H1, I1, rfl, q H1 e1⟩
end
/-! ### own x[k], the exception's promise at the slots -/
theorem fnIn_of {K : PySem.W.Frag} {x qual : Str} {pa : Arguments} {bd : List Stmt} {sc : Scope} {dvs : List V} {kws : List (Str × V)} {f : Addr} {fd : FuncData} (F : FunD K x qual pa bd sc dvs kws f fd) : PySem.W.fnIn K f = true := by
  obtain ⟨oc, od, dV, kV, doc, pm, an, cdv, ct, osl, rfl, lk, hcd, hD, hK⟩ := F.ex
  unfold PySem.W.fnIn
  rw [lk]
def tIxO (C : Addr) (sp : Sp) (E : L2.St → XK) (ta tb : TE) : TE := fun σ H Q => ta σ H fun x H1 => tb σ H1 fun y H2 => ∃ o dx fs, x = .ref o ∧ H2 o = some (.ins C dx fs) ∧ sp [.ref o, y] H2 Q (E σ)
theorem pe_ixO {X : Cx} {CX : CXT} {C f : Addr} {fd : FuncData} {ps : List Str} {n : Nat} {sp : Sp} {E : L2.St → XK} {a b : Expr} {pos : Pos} {ta tb : TE} (F : FnOk X.prog X.w X.K X.mg X.base CX n f fd ps sp) (hb : Binds X.K fd ps [])
    (hs : PySem.W.findIn X.K (.ref C) "__getitem__" = some (some (.ref f))) (hf : PySem.W.isFn X.K (.ref f) = true) (hfn : PySem.W.fnIn X.K f = true) (hx : ∀ σ, PassesAt CX X σ (E σ)) (hr : Room (n + 1) X.A) (ha : PE X a ta) (hb' : PE X b tb)
    (hsl : ∀ (o : Addr) (i : Value), subscripted b true (.ref o) i = runValue (.builtin "lifetime.subscript" ⟨[.ref o, i], []⟩) := by intro o i; with_unfolding_all rfl) : PE X (.Subscript a b pos) (tIxO C sp E ta tb) := by
  refine ⟨fun pins s σ H Q I h => ?_⟩
  refine Subscript_ (thn (ha.run pins s σ H _ I h) fun v s1 ⟨x, H1, I1, rx, q1⟩ => thn (hb'.run pins s1 σ H1 _ I1 q1) fun u s2 ⟨y, H2, I2, ry, o, dx, fs, ex, ho, q⟩ => ?_)
  subst ex
  obtain rfl : v = Value.ref o := rx
  obtain ⟨mA, J, _⟩ := ins_get I2.hok ho
  obtain ⟨od, J, _⟩ := J.look
  obtain ⟨m, hF⟩ := I2.fr
  refine PySem.W.sub_K hF I2.ok.mod.kin J hs hfn hf ?_ (hsl o u)
  have r2 : Vals [V.ref o, y] [Value.ref o, u] := .cons rfl (.cons ry .nil)
  have hl := F.len _ _ _ _ q
  have bb := hb s2 [.ref o, u] I2.kIn (by simpa using hl)
  have e0 : Env0 X.prog X.w X.K X.mg X.base X.A.in1 X.stack s2 H2 := by
    have e := I2.env0
    exact ⟨e.frames, e.mod, e.bs, e.bsz, e.funs, e.frf, e.hok, e.bare⟩
  refine wpAny_call (codeAny_mono (F.run X.A.in1 X.stack s2 H2 ⟨[.ref o, u], []⟩ [.ref o, u] [.ref o, y] Q (E σ) hr.in1 e0 (by simpa using bb) r2 q) fun r s' hq => ?_)
  cases r with
  | error e => exact hx σ pins H2 s2 e s' I2 hq
  | ok fl =>
    cases fl with
    | ret w => exact I2.after hq
    | next => exact False.elim hq
    | brk => exact False.elim hq
    | cont => exact False.elim hq
/-! ### C(..) in a try; C(*y) -/
def tMakeT (C : Addr) (sp : Sp) (E : L2.St → XK) (t : TA) : TE := fun σ H Q => t σ H fun vs H1 => ∀ x dx, H1 x = none → H1 dx = none → dx ≠ x →
  sp (V.ref x :: vs) (upd (upd H1 dx (.own x)) x (.ins C dx [])) (fun v H2 => v = .non ∧ Q (.ref x) H2) (E σ)
section
variable {X : Cx} {CX : CXT} {k : Nat} {f C : Addr} {fd : FuncData} {ps : List Str} {sp : Sp} {x : Str} {e : Expr} {es : List Expr} {te : TE} {t : TA} {p pos sp_ : Pos}
theorem run_makeT {E : XK} {pins : List (Addr × Obj)} {σ : L2.St} {H : Hp} {s : Shared} {Q : VK} {us : List Value} {vs : List V} (M : Mk X.K C f) (F : FnR X.prog X.w X.K X.mg X.base CX k f sp) (hr : Room (k + 1) X.A) (hx : PassesAt CX X σ E) (I : Inv X pins σ H s) (r : Vals vs us)
    (h : ∀ x dx, H x = none → H dx = none → dx ≠ x → sp (V.ref x :: vs) (upd (upd H dx (.own x)) x (.ins C dx [])) (fun v H2 => v = .non ∧ Q (.ref x) H2) E) :
    wpAny (model X.prog X.w) X.A (call (.ref C) us) (EP X pins σ Q) X.xe s := by
  have hq := h (s.heap.objs.size + 1) s.heap.objs.size (I.hok.fresh (Nat.le_succ _)) (I.hok.fresh (Nat.le_refl _)) (Nat.ne_of_lt (Nat.lt_succ_self _))
  have I2 := Inv.made (C := C) I
  have r2 : Vals (V.ref (s.heap.objs.size + 1) :: vs) (Value.ref (s.heap.objs.size + 1) :: us) := .cons rfl r
  refine wpAny_call (make_map (f := f) I.kIn M.makes M.init (beq_iff_eq.mp M.fn) (codeAny_mono (F _ X.stack _ _ (Value.ref (s.heap.objs.size + 1) :: us) _ _ E (hr.make C us []) (I2.env0.make C us []) r2 hq) fun r s' hq' => ?_))
  cases r with
  | error e => exact hx pins _ _ e s' I2 hq'
  | ok fl =>
    cases fl with
    | ret u =>
      obtain ⟨v, H', I3, rv, ev, q3⟩ := I2.after hq'
      subst ev
      exact ⟨rv, ⟨V.ref (s.heap.objs.size + 1), H', I3, rfl, q3⟩⟩
    | next => exact False.elim hq'
    | brk => exact False.elim hq'
    | cont => exact False.elim hq'
theorem pe_makeT {E : L2.St → XK} (M : Mk X.K C f) (F : FnR X.prog X.w X.K X.mg X.base CX k f sp) (hr : Room (k + 1) X.A) (hg : Gl X x) (hm : X.mg x = some (.ref C)) (hx : ∀ σ, PassesAt CX X σ (E σ)) (ha : PA X (e :: es) t) (hdb : (x == ("__debug__" : Str)) = false := by decide)
    (he : starEach (e :: es) X.env = (false, eval e X.env) :: starEach es X.env := by rfl) (hpl : (backTo pos (starEach es X.env)).any (·.1) = false := by rfl) : PE X (.Call (.Name x p) (e :: es) [] pos) (tMakeT C sp E t) := by
  refine ⟨fun pins s σ H Q I h => wpAny_Call_Name_kw (ld_glob I hg hm ?_ hdb)⟩
  refine PySem.W.callWith_K (h₀ := X.base) I.ok.mod.kin M.kp (thn (ha.run pos pins s σ H _ I h) fun us s1 ⟨vs, H1, I1, r, q⟩ => ⟨I1.kIn, ?_⟩) he hpl
  exact run_makeT M F hr (hx σ) I1 r q
theorem pe_makeS1 {E : XK} (M : Mk X.K C f) (F : FnR X.prog X.w X.K X.mg X.base CX k f sp) (hr : Room (k + 1) X.A) (hg : Gl X x) (hm : X.mg x = some (.ref C)) (hx : Passes CX X E) (he : PE X e te) (hd : (x == ("__debug__" : Str)) = false := by decide)
    (hst : starEach [.Starred e sp_] X.env = [(true, eval e X.env)] := by rfl) :
    PE X (.Call (.Name x p) [.Starred e sp_] [] pos) (fun σ H Q => te σ H fun y H1 => ∃ a xs, y = V.ref a ∧ (SqT X.K H1 a xs ∨ SqL X.K H1 a xs) ∧ ∀ x dx, H1 x = none → H1 dx = none → dx ≠ x →
      sp (V.ref x :: xs) (upd (upd H1 dx (.own x)) x (.ins C dx [])) (fun v H2 => v = .non ∧ Q (.ref x) H2) E) := by
  refine ⟨fun pins s σ H Q I h => wpAny_Call_Name_kw (ld_glob I hg hm ?_ hd)⟩
  refine PySem.W.callWith_S (h₀ := X.base) I.ok.mod.kin M.kp (thn (he.run pins s σ H _ I h) fun v s1 ⟨y, H1, I1, ry, a, xs, ey, hxs, q⟩ => ?_) hst
  subst ey
  obtain rfl : v = Value.ref a := ry
  exact StX.star_any I1 hxs fun us s2 I2 rv => ⟨I2.kIn, StX.run_makeR M F hr hx I2 rv q⟩
end
/-! ### a list asked for in a tuple of texts -/
theorem notIn_odd {X : Cx} (K : PySem.W.Frag) (hu : X.A.units + 1 < cLine) (hK : X.K = K := by rfl) : OpR X (compareOp .NotIn) (fun x y H Q => ∃ (l p : Addr) (xs : List V) (zs : List Str), x = .ref l ∧ y = .ref p ∧ SqL K H l xs ∧ SqT K H p (zs.map V.str) ∧ Q (.bl true) H) := by
  subst hK
  intro pins s σ H x y v u Q I rx ry h
  obtain ⟨l, p, xs, zs, rfl, rfl, hl, hp, q⟩ := h
  cases rx
  cases ry
  obtain ⟨its, r, pl, hz⟩ := I.list hl
  obtain ⟨us, r2, pt, _⟩ := I.tuple hp
  refine SeqAt.notIn_tupleAt (fun _ => false) pt (fun w hw => ?_) ⟨.bl _, H, I, rfl, ?_⟩
  · have hw' : w ∈ us := by simpa using hw
    obtain ⟨i, hi, e⟩ := List.mem_iff_getElem.mp hw'
    have hi2 : i < (zs.map V.str).length := by rw [r2.length]; exact hi
    have hi3 : i < zs.length := by simpa using hi2
    obtain ⟨v, hv, rv⟩ := r2.get (List.getElem?_eq_getElem hi2)
    rw [List.getElem?_eq_getElem hi, e] at hv
    obtain rfl := Option.some.inj hv
    rw [List.getElem_map] at rv
    obtain ⟨t, rfl⟩ : ∃ t, w = Value.str zs[i] t := rv
    exact SeqAt.EqAt.str_list _ t pl.isList hu
  · have e : (us.toArray.any fun _ => false) = false := by rw [Bool.eq_false_iff]; simp
    rw [e]
    exact q
end VX

set_option Elab.async false
set_option linter.all false
set_option maxRecDepth 100000
set_option maxHeartbeats 4000000
/-! # common facts -/
namespace KV
open PySem PySem.Spec PyProof.Rows L2 VX RX
section
variable {P : Program} {w : World} {K : PySem.W.Frag} {mg : Str → Option Value} {base : Heap} {f : Addr} {fd : FuncData}
theorem fold_more {α β : Type} {g : β → α → β} {z : β} {b : List α} {i : Nat} {o : α} (h : b[i]? = some o) : (b.take (i + 1)).foldl g z = g ((b.take i).foldl g z) o := by
  rw [List.take_succ, h, Option.toList_some, List.foldl_append]
  rfl
theorem told_fold {p : Int} {n : Nat} {inv : Int → Int} {b h rows : List (List Int)} (I : RX.Inv p inv) (R1 : Rref p n b) (T1 : Told p n b h) (hr : ∀ r ∈ rows, Row p n r) : Told p n (reduced inv p (b ++ rows)) (rows.foldl (spanStep p) h) := by
  obtain ⟨k1, k2⟩ := spanFold_ok (p := p) (n := n) I.two rows b h R1.len (fun r m => (hr r m).1) T1.nd T1.mem
  have e : rows.map (modR p) = rows := map_modR I.pos hr
  rw [e] at k2
  exact ⟨k1, fun v => by rw [k2, reduced_span I (fun r m => (List.mem_append.mp m).elim (R1.rows r) (hr r))]⟩
theorem told_len {p : Int} {n : Nat} {inv : Int → Int} {b h : List (List Int)} (I : RX.Inv p inv) (R1 : Rref p n b) (T1 : Told p n b h) (hn : p ^ n ≤ 1000000) : h.length ≤ 1000000 := by
  have h2 := I.two
  rw [T1.count I R1]
  have h1 := Nat.pow_le_pow_right (n := p.toNat) (by omega) R1.card
  have h3 : ((p.toNat ^ n : Nat) : Int) = p ^ n := by rw [Int.natCast_pow, Int.toNat_of_nonneg (by omega)]
  omega
theorem nodup_at {h : List (List Int)} (nd : h.Nodup) {i : Nat} {r : List Int} (e : h[i]? = some r) : r ∉ h.take i := fun m => by
  rw [← List.take_append_drop i h] at nd
  refine (List.nodup_append.mp nd).2.2 r m r ?_ rfl
  refine List.mem_iff_getElem?.mpr ⟨0, ?_⟩
  rw [List.getElem?_drop, Nat.add_zero]
  exact e
theorem key_eq {H : Hp} {c : Addr} {r : List Int} (h : IsRow H c r) : H c = some (.tup ((r.map (Sum.inl : Int → L2.Key)).map kV)) := by
  have e2 : (r.map (Sum.inl : Int → L2.Key)).map kV = r.map V.int := by rw [List.map_map]; rfl
  rw [e2]
  exact h
theorem AreInts.append {H : Hp} : ∀ {as cs : List Addr} {b c : List (List Int)}, AreInts H as b → AreInts H cs c → AreInts H (as ++ cs) (b ++ c)
  | _, _, _, _, .nil, h => h
  | _, _, _, _, .cons h t, g => .cons h (AreInts.append t g)
end
end KV

set_option Elab.async false
set_option linter.all false
set_option maxRecDepth 100000
set_option maxHeartbeats 4000000
/-! # Triple: made, read -/
namespace KV
open PySem PySem.Spec PyProof.Rows L2 VX RX
section
variable {P : Program} {w : World} {K : PySem.W.Frag} {mg : Str → Option Value} {base : Heap} {f : Addr} {fd : FuncData}
abbrev cT (K : PySem.W.Frag) : Addr := He.ga K "Triple"
/-- a triple as it stands -/
structure IsTr (K : PySem.W.Frag) (H : Hp) (x a b c : Addr) : Prop where
  ob : ∃ dx, H x = some (.ins (cT K) dx [("_a", .ref a), ("_b", .ref b), ("_c", .ref c)])
theorem IsTr.same {H H' : Hp} (s : Same H H') {x a b c : Addr} (h : IsTr K H x a b c) : IsTr K H' x a b c := by
  obtain ⟨dx, e⟩ := h.ob
  exact ⟨dx, s _ _ e⟩
/-! ### keywords of a def without defaults -/
end
end KV

set_option Elab.async false
set_option linter.all false
set_option maxRecDepth 100000
set_option maxHeartbeats 4000000
/-! # built -/
namespace KV
open PySem PySem.Spec PyProof.Rows L2 VX RX
section
variable {P : Program} {w : World} {K : PySem.W.Frag} {mg : Str → Option Value} {base : Heap} {f : Addr} {fd : FuncData}
/-- a list of n integers -/
def IntL (H : Hp) (n : Nat) (a : Addr) : Prop := ∃ r : List Int, H a = some (.lst (r.map V.int)) ∧ r.length = n
theorem IntL.upd {H : Hp} {n : Nat} {a x : Addr} {o : HO} (h : IntL H n a) (ne : a ≠ x) : IntL (upd H x o) n a := by
  obtain ⟨r, h1, h2⟩ := h
  exact ⟨r, by rw [upd_ne ne]; exact h1, h2⟩
theorem IntL.same {H H' : Hp} {n : Nat} {a : Addr} (s : Same H H') (h : IntL H n a) : IntL H' n a := by
  obtain ⟨r, h1, h2⟩ := h
  exact ⟨r, s _ _ h1, h2⟩
end
end KV

set_option Elab.async false
set_option linter.all false
set_option maxRecDepth 100000
set_option maxHeartbeats 4000000
/-! # stirred -/
namespace KV
open PySem PySem.Spec PyProof.Rows L2 VX RX
section
variable {P : Program} {w : World} {K : PySem.W.Frag} {mg : Str → Option Value} {base : Heap} {f : Addr} {fd : FuncData}
/-- three lists of rows, all of it new -/
structure St (H0 H : Hp) (b l : Addr) (hs : List Addr) (n M : Nat) : Prop where
  ls : H l = some (.lst (hs.map V.ref))
  nd : hs.Nodup
  lh : l ∉ hs
  lb : l ≠ b
  l0 : H0 l = none
  h0 : ∀ h ∈ hs, H0 h = none ∧ h ≠ b
  rows : ∀ h ∈ hs, ∃ as : List Addr, H h = some (.lst (as.map V.ref)) ∧ as.length ≤ M ∧ ∀ a ∈ as, IntL H n a ∧ a ≠ b ∧ a ∉ hs ∧ a ≠ l ∧ H0 a = none
theorem IntL.kept {H H' : Hp} {n : Nat} {a b : Addr} (k : Kept b H H') (ne : a ≠ b) (h : IntL H n a) : IntL H' n a := by
  obtain ⟨r, h1, h2⟩ := h
  exact ⟨r, k _ _ h1 ne, h2⟩
theorem St.kept {H0 H H' : Hp} {b l : Addr} {hs : List Addr} {n M : Nat} (h : St H0 H b l hs n M) (k : Kept b H H') : St H0 H' b l hs n M :=
  ⟨k _ _ h.ls h.lb, h.nd, h.lh, h.lb, h.l0, h.h0, fun x hx => let ⟨as, h1, h2, h3⟩ := h.rows x hx; ⟨as, k _ _ h1 (h.h0 x hx).2, h2, fun a ha => let ⟨g1, g2⟩ := h3 a ha; ⟨g1.kept k g2.1, g2⟩⟩⟩
theorem refs_inj {as cs : List Addr} (h : as.map V.ref = cs.map V.ref) : as = cs := by
  induction as generalizing cs with
  | nil => cases cs <;> first | rfl | cases h
  | cons a as ih =>
    cases cs with
    | nil => cases h
    | cons c cs =>
      rw [List.map_cons, List.map_cons] at h
      injection h with h1 h2
      injection h1 with h1
      rw [h1, ih h2]
theorem St.at {H0 H : Hp} {b l : Addr} {hs as : List Addr} {n M : Nat} (h : St H0 H b l hs n M) {x : Addr} (hx : x ∈ hs) (e : H x = some (.lst (as.map V.ref))) : as.length ≤ M ∧ ∀ a ∈ as, IntL H n a ∧ a ≠ b ∧ a ∉ hs ∧ a ≠ l ∧ H0 a = none := by
  obtain ⟨as', h1, h2, h3⟩ := h.rows x hx
  rw [e] at h1
  injection h1 with h1
  injection h1 with h1
  obtain rfl := refs_inj h1
  exact ⟨h2, h3⟩
/-- a row is written anew -/
theorem St.set {H0 H : Hp} {b l : Addr} {hs as : List Addr} {n M : Nat} (h : St H0 H b l hs n M) {x a : Addr} (hx : x ∈ hs) (e : H x = some (.lst (as.map V.ref))) (ha : a ∈ as) {r : List Int} (hr : r.length = n) :
    St H0 (L2.upd H a (.lst (r.map V.int))) b l hs n M ∧ ∀ z ∈ hs, L2.upd H a (.lst (r.map V.int)) z = H z := by
  obtain ⟨_, h3⟩ := h.at hx e
  obtain ⟨g1, g2, g3, g4, g5⟩ := h3 a ha
  have keep : ∀ z ∈ hs, L2.upd H a (.lst (r.map V.int)) z = H z := fun z hz => upd_ne (show z ≠ a from fun q => g3 (by rw [← q]; exact hz))
  refine ⟨⟨by rw [upd_ne (Ne.symm g4)]; exact h.ls, h.nd, h.lh, h.lb, h.l0, h.h0, fun z hz => ?_⟩, keep⟩
  obtain ⟨cs, k1, k2, k3⟩ := h.rows z hz
  refine ⟨cs, by rw [keep z hz]; exact k1, k2, fun c hc => ?_⟩
  obtain ⟨m1, m2⟩ := k3 c hc
  refine ⟨?_, m2⟩
  by_cases q : c = a
  · rw [q]
    exact ⟨r, upd_same, hr⟩
  · exact m1.upd q
/-- one item of a list of rows is put anew -/
theorem St.put {H0 H : Hp} {b l : Addr} {hs as : List Addr} {n M : Nat} (h : St H0 H b l hs n M) {x y : Addr} (hx : x ∈ hs) (e : H x = some (.lst (as.map V.ref))) (j : Nat) (hy : IntL H n y ∧ y ≠ b ∧ y ∉ hs ∧ y ≠ l ∧ H0 y = none) :
    St H0 (L2.upd H x (.lst ((as.set j y).map V.ref))) b l hs n M := by
  obtain ⟨la, h3⟩ := h.at hx e
  have keep : ∀ a, IntL H n a → a ∉ hs → IntL (L2.upd H x (.lst ((as.set j y).map V.ref))) n a := fun a i ni => i.upd fun z => ni (by rw [z]; exact hx)
  refine ⟨by rw [upd_ne (show l ≠ x from fun z => h.lh (by rw [z]; exact hx))]; exact h.ls, h.nd, h.lh, h.lb, h.l0, h.h0, fun z hz => ?_⟩
  by_cases ez : z = x
  · subst ez
    refine ⟨as.set j y, upd_same, by rw [List.length_set]; exact la, fun a ha => ?_⟩
    rcases List.mem_or_eq_of_mem_set ha with ha | rfl
    · obtain ⟨g1, g2⟩ := h3 a ha
      exact ⟨keep a g1 g2.2.1, g2⟩
    · exact ⟨keep a hy.1 hy.2.2.1, hy.2⟩
  · obtain ⟨cs, k1, k2, k3⟩ := h.rows z hz
    refine ⟨cs, by rw [upd_ne ez]; exact k1, k2, fun a ha => ?_⟩
    obtain ⟨g1, g2⟩ := k3 a ha
    exact ⟨keep a g1 g2.2.1, g2⟩
theorem Kept.upd {H H' : Hp} {b x : Addr} {o : HO} (k : Kept b H H') (hx : H x = Option.none) : Kept b H (L2.upd H' x o) := fun u z q nu => by
  rw [upd_ne (ne_of_none q hx)]
  exact k _ _ q nu
end
end KV

set_option Elab.async false
set_option linter.all false
set_option maxRecDepth 100000
set_option maxHeartbeats 4000000
/-! # cls(..) where a name of the def holds the class -/
namespace VX
open PySem PySem.Spec PyProof.Rows L2
section
variable {X : Cx} {CX : CXT} {k : Nat} {f C : Addr} {sp : Sp} {x : Str} {e : Expr} {es : List Expr} {t : TA} {tf : TE} {p pos : Pos}
def tMakeL (C : Addr) (sp : Sp) (E : L2.St → XK) (tf : TE) (t : TA) : TE := fun σ H Q => tf σ H fun y H1 => y = V.ref C ∧ t σ H1 fun vs H2 => ∀ x dx, H2 x = none → H2 dx = none → dx ≠ x →
  sp (V.ref x :: vs) (upd (upd H2 dx (.own x)) x (.ins C dx [])) (fun v H3 => v = .non ∧ Q (.ref x) H3) (E σ)
theorem pe_makeL {E : L2.St → XK} (M : Mk X.K C f) (F : FnR X.prog X.w X.K X.mg X.base CX k f sp) (hr : Room (k + 1) X.A) (hv : PE X (.Name x p) tf) (hx : ∀ σ, PassesAt CX X σ (E σ)) (ha : PA X (e :: es) t)
    (he : starEach (e :: es) X.env = (false, eval e X.env) :: starEach es X.env := by rfl) (hpl : (backTo pos (starEach es X.env)).any (·.1) = false := by rfl) : PE X (.Call (.Name x p) (e :: es) [] pos) (tMakeL C sp E tf t) := by
  refine ⟨fun pins s σ H Q I h => wpAny_Call_Name_kw (thn (hv.run pins s σ H _ I h) fun u s1 ⟨y, H1, I1, ry, ey, q⟩ => ?_)⟩
  subst ey
  obtain rfl : u = Value.ref C := ry
  refine PySem.W.callWith_K (h₀ := X.base) I.ok.mod.kin M.kp (thn (ha.run pos pins s1 σ H1 _ I1 q) fun us s2 ⟨vs, H2, I2, r, q2⟩ => ⟨I2.kIn, ?_⟩) he hpl
  exact run_makeT M F hr (hx σ) I2 r q2
end
end VX

set_option Elab.async false
set_option linter.all false
set_option maxRecDepth 100000
set_option maxHeartbeats 4000000
/-! # unit_rows, nothing, whole -/
namespace KV
open PySem PySem.Spec PyProof.Rows L2 VX RX
section
variable {P : Program} {w : World} {K : PySem.W.Frag} {mg : Str → Option Value} {base : Heap} {f : Addr} {fd : FuncData}
/-- the unit vectors -/
def unitR (n i : Nat) : List Int := (List.range n).map fun j => if j = i then 1 else 0
def unitL (n : Nat) : List (List Int) := (List.range n).map (unitR n)
theorem unitL_len {n : Nat} : Len n (unitL n) := fun r hr => by
  obtain ⟨i, _, rfl⟩ := List.mem_map.mp hr
  simp [unitR]
end
end KV

set_option Elab.async false
set_option linter.all false
set_option maxRecDepth 100000
set_option maxHeartbeats 4000000
/-! # value -/
namespace KV
open PySem PySem.Spec PyProof.Rows L2 VX RX
section
variable {P : Program} {w : World} {K : PySem.W.Frag} {mg : Str → Option Value} {base : Heap} {f : Addr} {fd : FuncData}
theorem wtxt (T : TX K mg) : KX.Txt K mg := ⟨T.toTxt⟩
/-- the whole's basis -/
noncomputable abbrev wholeB (p : Int) (n : Nat) : List (List Int) := reduced (invF p) p ((unitL n).map (modR p))
/-- the basis of a word's value -/
noncomputable def valB (p : Int) (n : Nat) (A B C : List (List Int)) : KW.Tr → List (List Int)
  | .lf c => if c = 97 then A else if c = 98 then B else if c = 99 then C else if c = 48 then reduced (invF p) p [] else wholeB p n
  | .nd c l r => if c = 43 then sumL (invF p) p (valB p n A B C l) (valB p n A B C r) else commonL (invF p) p n (valB p n A B C l) (valB p n A B C r)
end
end KV

set_option Elab.async false
set_option linter.all false
set_option maxRecDepth 100000
set_option maxHeartbeats 4000000
/-! # _law_value -/
namespace KV
open PySem PySem.Spec PyProof.Rows L2 VX RX
section
variable {P : Program} {w : World} {K : PySem.W.Frag} {mg : Str → Option Value} {base : Heap} {f : Addr} {fd : FuncData}
theorem leaf5 {c : Nat} (hc : KW.leafC c = true) : c = 97 ∨ c = 98 ∨ c = 99 ∨ c = 48 ∨ c = 49 := by
  simp only [KW.leafC, Bool.or_eq_true, beq_iff_eq] at hc
  omega
theorem valB_rref {p : Int} {m : Nat} {A B C : List (List Int)} (hp : isP p = true) (RA : Rref p m A) (RB : Rref p m B) (RC : Rref p m C) : ∀ t : KW.Tr, Rref p m (valB p m A B C t)
  | .lf c => by
    unfold valB
    split
    · exact RA
    · split
      · exact RB
      · split
        · exact RC
        · split
          · exact reduced_ok (invF_ok hp) (fun _ h => nomatch h)
          · exact reduced_ok (invF_ok hp) (modR_rows (invF_ok hp).pos unitL_len)
  | .nd c l r => by
    unfold valB
    split
    · exact sum_rref (invF_ok hp) (valB_rref hp RA RB RC l) (valB_rref hp RA RB RC r)
    · exact common_rref (invF_ok hp) (valB_rref hp RA RB RC l) (valB_rref hp RA RB RC r)
end
end KV

set_option Elab.async false
set_option linter.all false
set_option maxRecDepth 100000
set_option maxHeartbeats 4000000
/-! # words -/
namespace KV
open PySem PySem.Spec PyProof.Rows L2 VX RX
section
variable {P : Program} {w : World} {K : PySem.W.Frag} {mg : Str → Option Value} {base : Heap} {f : Addr} {fd : FuncData}
theorem g_wif (T : TX K mg) : ∃ fdI dv fd1, KX.Wif K fdI dv fd1 := by
  obtain ⟨⟨fdI, FI⟩, hI⟩ := T.dd.Word_init
  obtain ⟨fd1, F1⟩ := T.def "fits" iFits
  exact ⟨fdI, _, fd1, FI, F1, _, rfl, hI⟩
end
end KV

set_option Elab.async false
set_option linter.all false
set_option maxRecDepth 100000
set_option maxHeartbeats 4000000
/-! # sets -/
namespace KV
open PySem PySem.Spec PyProof.Rows L2 VX RX
section
variable {P : Program} {w : World} {K : PySem.W.Frag} {mg : Str → Option Value} {base : Heap} {f : Addr} {fd : FuncData}
noncomputable abbrev Bs (p : Int) (R : List (List Int)) : List (List Int) := reduced (invF p) p (R.map (modR p))
theorem wd_kept {H H' : Hp} {b : Addr} (k : Kept b H H') (hb : ∃ xs, H b = some (.lst xs)) {x : Addr} {c : Nat} {xs : List V} (h : KX.IsWd K H x c xs) : KX.IsWd K H' x c xs := by
  obtain ⟨ys, hy⟩ := hb
  obtain ⟨dx, a, h1, h2⟩ := h
  refine ⟨dx, a, k _ _ h1 (fun e => by rw [e, hy] at h1; cases h1), ?_⟩
  rcases h2 with (h2 | ⟨u, h2⟩) | h2
  · exact .inl (.inl (k _ _ h2 fun e => by rw [e, hy] at h2; cases h2))
  · exact .inl (.inr ⟨u, k _ _ h2 fun e => by rw [e, hy] at h2; cases h2⟩)
  · exact .inr h2
theorem tr_kept {H H' : Hp} {b : Addr} (k : Kept b H H') (hb : ∃ xs, H b = some (.lst xs)) : ∀ {t : KW.Tr} {x : Addr}, KX.IsTr K H x t → KX.IsTr K H' x t
  | .lf _, _, h => ⟨h.1, wd_kept k hb h.2⟩
  | .nd _ _ _, _, h => by
    obtain ⟨j, y, z, h1, h2, h3⟩ := h
    exact ⟨j, y, z, wd_kept k hb h1, tr_kept k hb h2, tr_kept k hb h3⟩
end
end KV

set_option Elab.async false
set_option linter.all false
set_option maxRecDepth 100000
set_option maxHeartbeats 4000000
/-! # a list == [] -/
namespace VX
open PySem PySem.Spec PyProof.Rows L2
def rEqLN (K : PySem.W.Frag) : R2 := fun x y H Q => ∃ p q xs, x = .ref p ∧ y = .ref q ∧ SqL K H p xs ∧ SqL K H q [] ∧ Q (.bl xs.isEmpty) H
theorem op_eqLN {X : Cx} (K : PySem.W.Frag) (hu : X.A.units < cLine) (hK : X.K = K := by rfl) : OpR X (compareOp .Eq) (rEqLN K) := by
  subst hK
  intro pins s σ H x y v u Q I rx ry h
  obtain ⟨p, q, xs, rfl, rfl, hp, hq, hQ⟩ := h
  cases (show v = Value.ref p from rx)
  cases (show u = Value.ref q from ry)
  obtain ⟨us, r1, p1, _⟩ := I.list hp
  obtain ⟨ws, r2, p2, _⟩ := I.list hq
  cases r2
  by_cases e : xs.length = 0
  · have e' : xs = [] := List.length_eq_zero_iff.mp e
    subst e'
    cases r1
    refine SeqAt.RcAt.lists (e := fun _ => true) p1.isList p2.isList rfl hu (fun j h1 h2 => absurd h2 (Nat.not_lt_zero j)) _ _ _ _ ?_
    exact ⟨.bl _, H, I, rfl, hQ⟩
  · refine SeqAt.RcAt.lists_lengths p1.isList p2.isList (by rw [List.size_toArray, List.size_toArray, ← r1.length]; simpa using e) hu _ _ _ _ ?_
    refine ⟨.bl _, H, I, ?_, hQ⟩
    cases xs with
    | nil => exact absurd rfl e
    | cons x xs => rfl
end VX

set_option linter.all false
/-! # three spaces taken apart: what holds on the nine kinds holds everywhere (plain mathematics, no Python) -/
namespace DX
/-- vectors over the integers modulo a prime: v + f u, finitely many -/
structure VS (M : Type) where
  p : Int
  inv : Int → Int
  I : RX.Inv p inv
  z : M
  c : M → Int → M → M
  comm : ∀ v f u g w, c (c v f u) g w = c (c v g w) f u
  assoc : ∀ v f u g w, c v f (c u g w) = c (c v f u) (f * g) w
  two : ∀ v f u g, c (c v f u) g u = c v (f + g) u
  one : ∀ v, c z 1 v = v
  nul : ∀ v u, c v 0 u = v
  zer : ∀ v f, c v f z = v
  md : ∀ v f u, c v (f % p) u = c v f u
  all : List M
  mem : ∀ v, v ∈ all
theorem mm {a f p : Int} : (a * (f % p)) % p = (a * f) % p := by
  rw [Int.mul_emod, Int.emod_emod_of_dvd _ (Int.dvd_refl p), ← Int.mul_emod]
theorem nm {x p : Int} : (-(x % p)) % p = (-x) % p := by
  have h := Int.emod_add_mul_ediv x p
  have e : -(x % p) = -x + p * (x / p) := by omega
  rw [e, Int.add_mul_emod_self_left]
variable {M : Type} (S : VS M)
structure Sub (A : M → Prop) : Prop where
  z : A S.z
  c : ∀ {v f u}, A v → A u → A (S.c v f u)
variable {S}
theorem VS.md0 (S : VS M) {v u : M} {f : Int} (h : f % S.p = 0) : S.c v f u = v := by rw [← S.md, h, S.nul]
theorem VS.back (S : VS M) {v u : M} {f : Int} : S.c (S.c v f u) (-f) u = v := by rw [S.two, Int.add_right_neg, S.nul]
theorem VS.back' (S : VS M) {v u : M} {f : Int} : S.c (S.c v (-f) u) f u = v := by rw [S.two, Int.add_left_neg, S.nul]
theorem Sub.sc {A : M → Prop} (h : Sub S A) {f : Int} {u : M} (a : A u) : A (S.c S.z f u) := h.c h.z a
/-- a multiple by what has an inverse -/
theorem Sub.unsc {A : M → Prop} (h : Sub S A) {v x : M} {f : Int} (hf : f % S.p ≠ 0) (a : A (S.c v f x)) (b : A v) : A x := by
  have a1 : A (S.c S.z f x) := by
    have := h.c (f := -1) a b
    have e : S.c (S.c v f x) (-1) v = S.c S.z f x := by
      rw [S.comm]
      have : S.c v (-1) v = S.z := by
        have e1 : S.c (S.c S.z 1 v) (-1) v = S.z := by rw [S.two]; exact S.nul _ _
        rwa [S.one] at e1
      rw [this]
    rwa [e] at this
  have m := S.I.mul (f % S.p) (by have := Int.emod_nonneg f (show S.p ≠ 0 by have := S.I.two; omega); omega) (Int.emod_lt_of_pos f (by have := S.I.two; omega))
  have a2 := h.sc (f := S.inv (f % S.p)) a1
  rw [S.assoc, S.zer] at a2
  have e : (S.inv (f % S.p) * f) % S.p = 1 := by
    rw [← mm]
    exact m
  rw [← S.md, e, S.one] at a2
  exact a2
open Classical in
noncomputable def cnt (S : VS M) (A : M → Prop) : Nat := (S.all.filter fun v => decide (A v)).length
theorem filter_lt {α : Type} (l : List α) (P Q : α → Bool) (h : ∀ x, P x = true → Q x = true) : (l.filter P).length ≤ (l.filter Q).length ∧ ∀ x ∈ l, Q x = true → P x = false → (l.filter P).length < (l.filter Q).length := by
  induction l with
  | nil => exact ⟨Nat.le_refl _, fun _ h => nomatch h⟩
  | cons y l ih =>
    obtain ⟨i1, i2⟩ := ih
    cases hp : P y with
    | true =>
      have hq := h y hp
      rw [List.filter_cons_of_pos hp, List.filter_cons_of_pos hq]
      refine ⟨Nat.succ_le_succ i1, fun x hx qx px => ?_⟩
      rcases List.mem_cons.mp hx with rfl | hx
      · rw [hp] at px; cases px
      · exact Nat.succ_lt_succ (i2 x hx qx px)
    | false =>
      rw [List.filter_cons_of_neg (by simp [hp])]
      cases hq : Q y with
      | true =>
        rw [List.filter_cons_of_pos hq]
        exact ⟨Nat.le_succ_of_le i1, fun x hx qx px => Nat.lt_succ_of_le i1⟩
      | false =>
        rw [List.filter_cons_of_neg (by simp [hq])]
        refine ⟨i1, fun x hx qx px => ?_⟩
        rcases List.mem_cons.mp hx with rfl | hx
        · rw [hq] at qx; cases qx
        · exact i2 x hx qx px
theorem cnt_lt {A B : M → Prop} (h : ∀ v, A v → B v) {x : M} (hx : B x) (nx : ¬A x) : cnt S A < cnt S B :=
  (filter_lt S.all _ _ (fun v hv => by simpa using h v (by simpa using hv))).2 x (S.mem x) (by simpa using hx) (by simpa using nx)
theorem cnt_le (A : M → Prop) : cnt S A ≤ S.all.length := List.length_filter_le _ _
/-- U and one vector more -/
def plus (S : VS M) (U : M → Prop) (v : M) : M → Prop := fun w => ∃ f, U (S.c w f v)
theorem plus_sub {U : M → Prop} (h : Sub S U) (v : M) : Sub S (plus S U v) :=
  ⟨⟨0, by rw [S.nul]; exact h.z⟩, fun {a f b} ⟨g, ha⟩ ⟨k, hb⟩ => ⟨g + f * k, by
    have := h.c (f := f) ha hb
    rw [S.assoc, S.comm a g v f b, S.two] at this
    exact this⟩⟩
/-- a hyperplane beside x -/
theorem hyper {x : M} : ∀ (N : Nat) (U : M → Prop), Sub S U → ¬U x → S.all.length - cnt S U ≤ N → ∃ H, Sub S H ∧ (∀ v, U v → H v) ∧ ¬H x ∧ ∀ v, ∃ f, H (S.c v f x) := by
  intro N
  induction N with
  | zero =>
    intro U hU nx hN
    have := cnt_lt (S := S) (A := U) (B := fun _ => True) (fun _ _ => trivial) trivial nx
    have := cnt_le (S := S) fun _ => True
    omega
  | succ N ih =>
    intro U hU nx hN
    by_cases hv : ∀ v, ∃ f, U (S.c v f x)
    · exact ⟨U, hU, fun _ h => h, nx, hv⟩
    · obtain ⟨v, hv⟩ := Classical.not_forall.mp hv
      have hv' : ∀ f, ¬U (S.c v f x) := fun f h => hv ⟨f, h⟩
      have le : ∀ w, U w → plus S U v w := fun w h => ⟨0, by rw [S.nul]; exact h⟩
      have hvv : plus S U v v := ⟨-1, by
        have e1 : S.c (S.c S.z 1 v) (-1) v = S.z := by rw [S.two]; exact S.nul _ _
        rw [S.one] at e1
        rw [e1]; exact hU.z⟩
      have nv : ¬U v := fun h => hv' 0 (by rw [S.nul]; exact h)
      have nx2 : ¬plus S U v x := fun ⟨f, h⟩ => by
        by_cases hf : f % S.p = 0
        · exact nx (by rwa [S.md0 hf] at h)
        · have m := S.I.mul (f % S.p) (by have := Int.emod_nonneg f (show S.p ≠ 0 by have := S.I.two; omega); omega) (Int.emod_lt_of_pos f (by have := S.I.two; omega))
          have a2 := hU.sc (f := S.inv (f % S.p)) h
          rw [S.assoc, S.comm] at a2
          have e : (S.inv (f % S.p) * f) % S.p = 1 := by
            rw [← mm]
            exact m
          rw [← S.md _ (S.inv (f % S.p) * f), e, S.one] at a2
          exact hv' _ a2
      have lt := cnt_lt (S := S) le hvv nv
      obtain ⟨H, h1, h2, h3, h4⟩ := ih _ (plus_sub hU v) nx2 (by omega)
      exact ⟨H, h1, fun w h => h2 w (le w h), h3, h4⟩
/-- a linear form -/
structure Lin (S : VS M) (f : M → Int) : Prop where
  c : ∀ v g u, f (S.c v g u) = (f v + g * f u) % S.p
  lo : ∀ v, 0 ≤ f v
  hi : ∀ v, f v < S.p
theorem VS.pos (S : VS M) : 0 < S.p := by have := S.I.two; omega
theorem form {U : M → Prop} (hU : Sub S U) {x : M} (nx : ¬U x) : ∃ f, Lin S f ∧ (∀ v, U v → f v = 0) ∧ f x = 1 := by
  obtain ⟨H, hH, hUH, nH, hv⟩ := hyper _ U hU nx (Nat.le_refl _)
  have h0 := S.pos
  have h2 := S.I.two
  have ex : ∀ v, ∃ f : Int, 0 ≤ f ∧ f < S.p ∧ H (S.c v (-f) x) := fun v => by
    obtain ⟨f, hf⟩ := hv v
    refine ⟨(-f) % S.p, Int.emod_nonneg _ (by omega), Int.emod_lt_of_pos _ h0, ?_⟩
    rw [← S.md]
    have e : (-(-f % S.p)) % S.p = f % S.p := by
      rw [nm, Int.neg_neg]
    rw [e, S.md]
    exact hf
  have uq : ∀ (w : M) (a b : Int), 0 ≤ a → a < S.p → 0 ≤ b → b < S.p → H (S.c w (-a) x) → H (S.c w (-b) x) → a = b := fun w a b a0 a1 b0 b1 ha hb => by
    by_cases e : a = b
    · exact e
    · exfalso
      have hb' : H (S.c (S.c w (-a) x) (a - b) x) := by rw [S.two]; rw [show -a + (a - b) = -b by omega]; exact hb
      refine nH (hH.unsc (f := a - b) ?_ hb' ha)
      intro hz
      have : (a - b) = S.p * ((a - b) / S.p) := by have := Int.emod_add_mul_ediv (a - b) S.p; omega
      rcases Int.lt_trichotomy ((a - b) / S.p) 0 with q | q | q
      · have : S.p * ((a - b) / S.p) ≤ S.p * (-1) := Int.mul_le_mul_of_nonneg_left (by omega) (by omega)
        omega
      · rw [q] at this; omega
      · have : S.p * 1 ≤ S.p * ((a - b) / S.p) := Int.mul_le_mul_of_nonneg_left (by omega) (by omega)
        omega
  refine ⟨fun v => Classical.choose (ex v), ⟨fun v g u => ?_, fun v => (Classical.choose_spec (ex v)).1, fun v => (Classical.choose_spec (ex v)).2.1⟩, fun v hv => ?_, ?_⟩
  · have s1 := Classical.choose_spec (ex v)
    have s2 := Classical.choose_spec (ex u)
    have s3 := Classical.choose_spec (ex (S.c v g u))
    refine uq _ _ _ s3.1 s3.2.1 (Int.emod_nonneg _ (by omega)) (Int.emod_lt_of_pos _ h0) s3.2.2 ?_
    generalize Classical.choose (ex v) = a at *
    generalize Classical.choose (ex u) = b at *
    have := hH.c (f := g) s1.2.2 s2.2.2
    rw [S.assoc, S.comm v, S.two] at this
    rw [← S.md]
    have e : (-((a + g * b) % S.p)) % S.p = (-a + g * -b) % S.p := by
      have : -a + g * -b = -(a + g * b) := by rw [Int.mul_neg]; omega
      rw [this, nm]
    rw [e, S.md]
    exact this
  · have s1 := Classical.choose_spec (ex v)
    refine uq v _ 0 s1.1 s1.2.1 (Int.le_refl _) h0 s1.2.2 ?_
    rw [show (-0 : Int) = 0 from rfl, S.nul]
    exact hUH v hv
  · have s1 := Classical.choose_spec (ex x)
    refine uq x _ 1 s1.1 s1.2.1 (by decide) (by omega) s1.2.2 ?_
    have e1 : S.c (S.c S.z 1 x) (-1) x = S.z := by rw [S.two]; exact S.nul _ _
    rw [S.one] at e1
    rw [e1]
    exact hH.z
/-! ## words -/
open KW
def valP (S : VS M) (V A B C : M → Prop) : Tr → M → Prop
  | .lf c => if c = 97 then A else if c = 98 then B else if c = 99 then C else if c = 48 then (fun v => v = S.z) else V
  | .nd c l r => if c = 43 then (fun v => ∃ a b, valP S V A B C l a ∧ valP S V A B C r b ∧ v = S.c a 1 b) else (fun v => valP S V A B C l v ∧ valP S V A B C r v)
theorem leaf_cases {c : Nat} (h : leafC c = true) : c = 97 ∨ c = 98 ∨ c = 99 ∨ c = 48 ∨ c = 49 := by
  simp only [leafC, Bool.or_eq_true, beq_iff_eq] at h
  omega
theorem zero_sub : Sub S fun v => v = S.z := ⟨rfl, fun {v f u} e1 e2 => by rw [e1, e2, S.zer]⟩
theorem both_sub {A B : M → Prop} (hA : Sub S A) (hB : Sub S B) : Sub S fun v => A v ∧ B v := ⟨⟨hA.z, hB.z⟩, fun ⟨a1, a2⟩ ⟨b1, b2⟩ => ⟨hA.c a1 b1, hB.c a2 b2⟩⟩
theorem sum_sub {A B : M → Prop} (hA : Sub S A) (hB : Sub S B) : Sub S fun v => ∃ a b, A a ∧ B b ∧ v = S.c a 1 b := by
  refine ⟨⟨S.z, S.z, hA.z, hB.z, by rw [S.zer]⟩, fun {v f u} ⟨a, b, ha, hb, e1⟩ ⟨a', b', ha', hb', e2⟩ => ⟨S.c a f a', S.c b f b', hA.c ha ha', hB.c hb hb', ?_⟩⟩
  subst e1
  subst e2
  rw [S.assoc, S.assoc, S.comm a 1 b f a']
  congr 1
  omega
structure Trip (S : VS M) (V A B C : M → Prop) : Prop where
  v : Sub S V
  a : Sub S A
  b : Sub S B
  c : Sub S C
  av : ∀ {v}, A v → V v
  bv : ∀ {v}, B v → V v
  cv : ∀ {v}, C v → V v
variable {V A B C : M → Prop}
theorem val_sub (T : Trip S V A B C) : ∀ t, Sub S (valP S V A B C t)
  | .lf c => by
    unfold valP
    split
    · exact T.a
    · split
      · exact T.b
      · split
        · exact T.c
        · split
          · exact zero_sub
          · exact T.v
  | .nd c l r => by
    unfold valP
    split
    · exact sum_sub (val_sub T l) (val_sub T r)
    · exact both_sub (val_sub T l) (val_sub T r)
theorem val_in (T : Trip S V A B C) : ∀ t {v}, valP S V A B C t v → V v
  | .lf c, v => by
    unfold valP
    split
    · exact T.av
    · split
      · exact T.bv
      · split
        · exact T.cv
        · split
          · intro e
            rw [e]; exact T.v.z
          · exact id
  | .nd c l r, v => by
    unfold valP
    split
    · rintro ⟨a, b, ha, hb, rfl⟩
      exact T.v.c (val_in T l ha) (val_in T r hb)
    · exact fun h => val_in T l h.1
/-- a way to take the space apart -/
structure Cut (S : VS M) (V A B C : M → Prop) (r : M → M) : Prop where
  lin : ∀ v g u, r (S.c v g u) = S.c (r v) g (r u)
  id : ∀ v, r (r v) = r v
  v : ∀ {v}, V v → V (r v)
  a : ∀ {v}, A v → A (r v)
  b : ∀ {v}, B v → B (r v)
  c : ∀ {v}, C v → C (r v)
theorem VS.self (S : VS M) (v : M) : S.c v (-1) v = S.z := by
  have e1 : S.c (S.c S.z 1 v) (-1) v = S.z := by rw [S.two]; exact S.nul _ _
  rwa [S.one] at e1
variable {r : M → M}
theorem Cut.z (K : Cut S V A B C r) : r S.z = S.z := by
  have := K.lin S.z (-1) S.z
  rw [S.self, S.self] at this
  exact this
abbrev fixd (r : M → M) (A : M → Prop) : M → Prop := fun v => A v ∧ r v = v
abbrev kill (S : VS M) (r : M → M) (A : M → Prop) : M → Prop := fun v => A v ∧ r v = S.z
theorem fix_sub (K : Cut S V A B C r) {D : M → Prop} (h : Sub S D) : Sub S (fixd r D) := ⟨⟨h.z, K.z⟩, fun ⟨a1, a2⟩ ⟨b1, b2⟩ => ⟨h.c a1 b1, by rw [K.lin, a2, b2]⟩⟩
theorem kill_sub (K : Cut S V A B C r) {D : M → Prop} (h : Sub S D) : Sub S (kill S r D) := ⟨⟨h.z, K.z⟩, fun ⟨a1, a2⟩ ⟨b1, b2⟩ => ⟨h.c a1 b1, by rw [K.lin, a2, b2, S.zer]⟩⟩
theorem Cut.fix (K : Cut S V A B C r) (T : Trip S V A B C) : Trip S (fixd r V) (fixd r A) (fixd r B) (fixd r C) :=
  ⟨fix_sub K T.v, fix_sub K T.a, fix_sub K T.b, fix_sub K T.c, fun h => ⟨T.av h.1, h.2⟩, fun h => ⟨T.bv h.1, h.2⟩, fun h => ⟨T.cv h.1, h.2⟩⟩
theorem Cut.kill (K : Cut S V A B C r) (T : Trip S V A B C) : Trip S (kill S r V) (kill S r A) (kill S r B) (kill S r C) :=
  ⟨kill_sub K T.v, kill_sub K T.a, kill_sub K T.b, kill_sub K T.c, fun h => ⟨T.av h.1, h.2⟩, fun h => ⟨T.bv h.1, h.2⟩, fun h => ⟨T.cv h.1, h.2⟩⟩
/-- what the cut leaves out -/
def lft (S : VS M) (r : M → M) (v : M) : M := S.c v (-1) (r v)
theorem lft_kill (K : Cut S V A B C r) (v : M) : r (lft S r v) = S.z := by
  unfold lft
  rw [K.lin, K.id, S.self]
theorem lft_back (v : M) : S.c (lft S r v) 1 (r v) = v := by
  unfold lft
  rw [S.two, Int.add_left_neg, S.nul]
theorem VS.add_comm (S : VS M) (a b : M) : S.c a 1 b = S.c b 1 a := by
  have h : S.c (S.c S.z 1 a) 1 b = S.c (S.c S.z 1 b) 1 a := S.comm ..
  rwa [S.one, S.one] at h
theorem lft_in {D : M → Prop} (h : Sub S D) (k : ∀ {v}, D v → D (r v)) {v : M} (d : D v) : D (lft S r v) := h.c d (k d)
theorem of_parts {D : M → Prop} (h : Sub S D) {v : M} (d1 : D (r v)) (d2 : D (lft S r v)) : D v := by
  have := h.c (f := 1) d2 d1
  rwa [lft_back] at this
theorem lft_lin (K : Cut S V A B C r) (a b : M) : lft S r (S.c a 1 b) = S.c (lft S r a) 1 (lft S r b) := by
  unfold lft
  rw [K.lin, S.assoc, S.assoc, S.comm a 1 b (-1) (r a)]
  congr 1
theorem part_iff (K : Cut S V A B C r) {D : M → Prop} (h : Sub S D) (k : ∀ {v}, D v → D (r v)) (v : M) : D v ↔ fixd r D (r v) ∧ DX.kill S r D (lft S r v) :=
  ⟨fun d => ⟨⟨k d, K.id v⟩, lft_in h k d, lft_kill K v⟩, fun ⟨d1, d2⟩ => of_parts h d1.1 d2.1⟩
/-- a word's value is taken apart with the space -/
theorem split (K : Cut S V A B C r) (T : Trip S V A B C) : ∀ t v, valP S V A B C t v ↔ valP S (fixd r V) (fixd r A) (fixd r B) (fixd r C) t (r v) ∧ valP S (DX.kill S r V) (DX.kill S r A) (DX.kill S r B) (DX.kill S r C) t (lft S r v)
  | .lf c, v => by
    unfold valP
    split
    · exact part_iff K T.a K.a v
    · split
      · exact part_iff K T.b K.b v
      · split
        · exact part_iff K T.c K.c v
        · split
          · constructor
            · intro e
              rw [e, K.z]
              exact ⟨rfl, by unfold lft; rw [K.z, S.self]⟩
            · rintro ⟨e1, e2⟩
              have := lft_back (S := S) (r := r) v
              rw [e1, e2, S.zer] at this
              exact this.symm
          · exact part_iff K T.v K.v v
  | .nd c t u, v => by
    unfold valP
    split
    · constructor
      · rintro ⟨a, b, ha, hb, rfl⟩
        have h1 := (split K T t a).mp ha
        have h2 := (split K T u b).mp hb
        exact ⟨⟨r a, r b, h1.1, h2.1, K.lin ..⟩, ⟨_, _, h1.2, h2.2, lft_lin K a b⟩⟩
      · rintro ⟨⟨a1, b1, ha1, hb1, e1⟩, ⟨a2, b2, ha2, hb2, e2⟩⟩
        have fa := (val_in (K.fix T) t ha1).2
        have fb := (val_in (K.fix T) u hb1).2
        have ka := (val_in (K.kill T) t ha2).2
        have kb := (val_in (K.kill T) u hb2).2
        have ra : r (S.c a2 1 a1) = a1 := by rw [K.lin, ka, fa, S.one]
        have rb : r (S.c b2 1 b1) = b1 := by rw [K.lin, kb, fb, S.one]
        have la : lft S r (S.c a2 1 a1) = a2 := by unfold lft; rw [ra, S.two, Int.add_right_neg, S.nul]
        have lb : lft S r (S.c b2 1 b1) = b2 := by unfold lft; rw [rb, S.two, Int.add_right_neg, S.nul]
        refine ⟨S.c a2 1 a1, S.c b2 1 b1, (split K T t _).mpr ⟨by rw [ra]; exact ha1, by rw [la]; exact ha2⟩, (split K T u _).mpr ⟨by rw [rb]; exact hb1, by rw [lb]; exact hb2⟩, ?_⟩
        have := lft_back (S := S) (r := r) v
        rw [e1, e2] at this
        rw [← this, S.assoc (S.c a2 1 b2) 1 a1 1 b1, S.assoc (S.c a2 1 a1) 1 b2 1 b1, S.comm a2 1 b2 1 a1]
    · have h1 := split K T t v
      have h2 := split K T u v
      constructor
      · rintro ⟨a, b⟩
        exact ⟨⟨(h1.mp a).1, (h2.mp b).1⟩, ⟨(h1.mp a).2, (h2.mp b).2⟩⟩
      · rintro ⟨⟨a, c⟩, ⟨b, d⟩⟩
        exact ⟨h1.mpr ⟨a, b⟩, h2.mpr ⟨c, d⟩⟩
/-! ## lines -/
/-- a line: the multiples of x -/
structure Line (S : VS M) (X A B C : M → Prop) (x : M) (k : List Nat) : Prop where
  mem : X x
  nz : x ≠ S.z
  of : ∀ {v}, X v → ∃ f, v = S.c S.z f x
  np : k ≠ PL
  a : 97 ∈ k ↔ A x
  b : 98 ∈ k ↔ B x
  c : 99 ∈ k ↔ C x
theorem line_hand {X D : M → Prop} {x : M} (hD : Sub S D) (le : ∀ {v}, D v → X v) (of : ∀ {v}, X v → ∃ f, v = S.c S.z f x) {v : M} (hv : X v) : D v ↔ v = S.z ∨ D x := by
  constructor
  · intro d
    by_cases e : v = S.z
    · exact .inl e
    · obtain ⟨f, rfl⟩ := of hv
      refine .inr (hD.unsc (f := f) (fun h => e ?_) d hD.z)
      exact S.md0 h
  · rintro (rfl | d)
    · exact hD.z
    · obtain ⟨f, rfl⟩ := of hv
      exact hD.sc d
theorem mk_bit {k : List Nat} (hk : k ≠ PL) {t : Tr} (h : WF t = true) : mk k t = 48 ∨ mk k t = 49 := (li_mk hk h).1
theorem line_val {X : M → Prop} {x : M} {k : List Nat} (T : Trip S X A B C) (L : Line S X A B C x k) : ∀ t, WF t = true → ∀ v, X v → (valP S X A B C t v ↔ v = S.z ∨ mk k t = 49)
  | .lf c, h, v, hv => by
    have hc : leafC c = true := by simpa [WF] using h
    rcases leaf_cases hc with rfl | rfl | rfl | rfl | rfl
    · show A v ↔ _ ∨ letM 97 k = 49
      rw [line_hand T.a T.av L.of hv, ← L.a, letM, if_neg L.np]
      by_cases m : 97 ∈ k <;> simp [m]
    · show B v ↔ _ ∨ letM 98 k = 49
      rw [line_hand T.b T.bv L.of hv, ← L.b, letM, if_neg L.np]
      by_cases m : 98 ∈ k <;> simp [m]
    · show C v ↔ _ ∨ letM 99 k = 49
      rw [line_hand T.c T.cv L.of hv, ← L.c, letM, if_neg L.np]
      by_cases m : 99 ∈ k <;> simp [m]
    · show v = S.z ↔ v = S.z ∨ (48 : Nat) = 49
      simp
    · show X v ↔ v = S.z ∨ (49 : Nat) = 49
      simp [hv]
  | .nd c t u, h, v, hv => by
    simp only [WF, Bool.and_eq_true] at h
    have b1 := mk_bit L.np h.1.2
    have b2 := mk_bit L.np h.2
    rcases joint_two h.1.1 with rfl | rfl
    · show (∃ a b, valP S X A B C t a ∧ valP S X A B C u b ∧ v = S.c a 1 b) ↔ v = S.z ∨ sumM (mk k t) (mk k u) = 49
      have e : sumM (mk k t) (mk k u) = 49 ↔ mk k t = 49 ∨ mk k u = 49 := by rcases b1 with h1 | h1 <;> rcases b2 with h2 | h2 <;> rw [h1, h2] <;> decide
      rw [e]
      constructor
      · rintro ⟨a, b, ha, hb, rfl⟩
        rcases (line_val T L t h.1.2 a (val_in T t ha)).mp ha with rfl | q
        · rcases (line_val T L u h.2 b (val_in T u hb)).mp hb with rfl | q
          · exact .inl (S.zer _ _)
          · exact .inr (.inr q)
        · exact .inr (.inl q)
      · rintro (rfl | q | q)
        · exact ⟨S.z, S.z, (val_sub T t).z, (val_sub T u).z, (S.zer _ _).symm⟩
        · exact ⟨v, S.z, (line_val T L t h.1.2 v hv).mpr (.inr q), (val_sub T u).z, (S.zer _ _).symm⟩
        · exact ⟨S.z, v, (val_sub T t).z, (line_val T L u h.2 v hv).mpr (.inr q), (S.one _).symm⟩
    · show (valP S X A B C t v ∧ valP S X A B C u v) ↔ v = S.z ∨ comM (mk k t) (mk k u) = 49
      have e : comM (mk k t) (mk k u) = 49 ↔ mk k t = 49 ∧ mk k u = 49 := by rcases b1 with h1 | h1 <;> rcases b2 with h2 | h2 <;> rw [h1, h2] <;> decide
      rw [e, line_val T L t h.1.2 v hv, line_val T L u h.2 v hv]
      constructor
      · rintro ⟨q | q, s | s⟩
        · exact .inl q
        · exact .inl q
        · exact .inl s
        · exact .inr ⟨q, s⟩
      · rintro (q | ⟨q, s⟩)
        · exact ⟨.inl q, .inl q⟩
        · exact ⟨.inr q, .inr s⟩
/-! ## planes -/
/-- planes: any two hands have nothing in common, and all together -/
structure Plane (S : VS M) (X A B C : M → Prop) : Prop where
  ab : ∀ {v}, A v → B v → v = S.z
  ac : ∀ {v}, A v → C v → v = S.z
  bc : ∀ {v}, B v → C v → v = S.z
  sab : ∀ {v}, X v → ∃ a b, A a ∧ B b ∧ v = S.c a 1 b
  sac : ∀ {v}, X v → ∃ a b, A a ∧ C b ∧ v = S.c a 1 b
  sbc : ∀ {v}, X v → ∃ a b, B a ∧ C b ∧ v = S.c a 1 b
def lineOf (S : VS M) (X A B C : M → Prop) (m : Nat) : M → Prop := if m = 97 then A else if m = 98 then B else if m = 99 then C else if m = 48 then (fun v => v = S.z) else X
theorem sum_self {D : M → Prop} (h : Sub S D) {v : M} : (∃ a b, D a ∧ D b ∧ v = S.c a 1 b) ↔ D v :=
  ⟨fun ⟨a, b, ha, hb, e⟩ => e ▸ h.c ha hb, fun d => ⟨v, S.z, d, h.z, (S.zer _ _).symm⟩⟩
theorem sum_zero {D : M → Prop} (h : Sub S D) {v : M} : (∃ a b, D a ∧ (b = S.z) ∧ v = S.c a 1 b) ↔ D v :=
  ⟨fun ⟨a, b, ha, hb, e⟩ => by rw [e, hb, S.zer]; exact ha, fun d => ⟨v, S.z, d, rfl, (S.zer _ _).symm⟩⟩
theorem zero_sum {D : M → Prop} (h : Sub S D) {v : M} : (∃ a b, (a = S.z) ∧ D b ∧ v = S.c a 1 b) ↔ D v :=
  ⟨fun ⟨a, b, ha, hb, e⟩ => by rw [e, ha, S.one]; exact hb, fun d => ⟨S.z, v, rfl, d, (S.one _).symm⟩⟩
theorem sum_all {X D E : M → Prop} (hX : Sub S X) (hD : ∀ {v}, D v → X v) (hE : ∀ {v}, E v → X v) (k : ∀ {v}, X v → ∃ a b, D a ∧ E b ∧ v = S.c a 1 b) {v : M} : (∃ a b, D a ∧ E b ∧ v = S.c a 1 b) ↔ X v :=
  ⟨fun ⟨a, b, ha, hb, e⟩ => e ▸ hX.c (hD ha) (hE hb), k⟩
theorem swap_sum {D E : M → Prop} {v : M} : (∃ a b, D a ∧ E b ∧ v = S.c a 1 b) ↔ ∃ a b, E a ∧ D b ∧ v = S.c a 1 b :=
  ⟨fun ⟨a, b, ha, hb, e⟩ => ⟨b, a, hb, ha, by rw [e, S.add_comm]⟩, fun ⟨a, b, ha, hb, e⟩ => ⟨b, a, hb, ha, by rw [e, S.add_comm]⟩⟩
theorem line_sub {X : M → Prop} (T : Trip S X A B C) (m : Nat) : Sub S (lineOf S X A B C m) := by
  unfold lineOf
  split
  · exact T.a
  · split
    · exact T.b
    · split
      · exact T.c
      · split
        · exact zero_sub
        · exact T.v
theorem line_in {X : M → Prop} (T : Trip S X A B C) (m : Nat) {v : M} (h : lineOf S X A B C m v) : X v := by
  unfold lineOf at h
  split at h
  · exact T.av h
  · split at h
    · exact T.bv h
    · split at h
      · exact T.cv h
      · split at h
        · rw [h]; exact T.v.z
        · exact h
theorem line_mono {X : M → Prop} (T : Trip S X A B C) {x y : Nat} (hy : five y = true) (w : isW x y = true) {v : M} (h : lineOf S X A B C x v) : lineOf S X A B C y v := by
  simp only [isW, Bool.or_eq_true, beq_iff_eq] at w
  rcases w with e | e | e
  · rw [← e]; exact h
  · subst e
    rw [show v = S.z from h]
    exact (line_sub T y).z
  · subst e
    exact line_in T x h
theorem sum_le {D E : M → Prop} (hE : Sub S E) (le : ∀ {v}, D v → E v) (z : D S.z) {v : M} : (∃ a b, D a ∧ E b ∧ v = S.c a 1 b) ↔ E v :=
  ⟨fun ⟨a, b, ha, hb, e⟩ => e ▸ hE.c (le ha) hb, fun d => ⟨S.z, v, z, d, (S.one _).symm⟩⟩
theorem plane_val {X : M → Prop} (T : Trip S X A B C) (P : Plane S X A B C) : ∀ t, WF t = true → ∀ v, valP S X A B C t v ↔ lineOf S X A B C (mk PL t) v
  | .lf c, h, v => by
    have hc : leafC c = true := by simpa [WF] using h
    rcases leaf_cases hc with rfl | rfl | rfl | rfl | rfl <;> exact Iff.rfl
  | .nd c t u, h, v => by
    simp only [WF, Bool.and_eq_true] at h
    have f1 := mk_five (k := PL) h.1.2
    have f2 := mk_five (k := PL) h.2
    have i1 := plane_val T P t h.1.2
    have i2 := plane_val T P u h.2
    have three : ∀ {x y : Nat}, five x = true → five y = true → ¬isW x y = true → ¬isW y x = true → (x = 97 ∨ x = 98 ∨ x = 99) ∧ (y = 97 ∨ y = 98 ∨ y = 99) ∧ x ≠ y := fun {x y} hx hy n1 n2 => by
      rcases five_cases hx with rfl | rfl | rfl | rfl | rfl <;> rcases five_cases hy with rfl | rfl | rfl | rfl | rfl <;> first | exact absurd (by decide) n1 | exact absurd (by decide) n2 | simp
    rcases joint_two h.1.1 with rfl | rfl
    · show (∃ a b, valP S X A B C t a ∧ valP S X A B C u b ∧ v = S.c a 1 b) ↔ lineOf S X A B C (sumM (mk PL t) (mk PL u)) v
      have e : (∃ a b, valP S X A B C t a ∧ valP S X A B C u b ∧ v = S.c a 1 b) ↔ ∃ a b, lineOf S X A B C (mk PL t) a ∧ lineOf S X A B C (mk PL u) b ∧ v = S.c a 1 b :=
        ⟨fun ⟨a, b, ha, hb, e⟩ => ⟨a, b, (i1 a).mp ha, (i2 b).mp hb, e⟩, fun ⟨a, b, ha, hb, e⟩ => ⟨a, b, (i1 a).mpr ha, (i2 b).mpr hb, e⟩⟩
      rw [e]
      generalize mk PL t = x at *
      generalize mk PL u = y at *
      unfold sumM
      by_cases w1 : isW x y = true
      · rw [if_pos w1]
        exact sum_le (line_sub T y) (line_mono T f2 w1) (line_sub T x).z
      · rw [if_neg w1]
        by_cases w2 : isW y x = true
        · rw [if_pos w2, swap_sum]
          exact sum_le (line_sub T x) (line_mono T f1 w2) (line_sub T y).z
        · rw [if_neg w2]
          obtain ⟨h1, h2, ne⟩ := three f1 f2 w1 w2
          rcases h1 with rfl | rfl | rfl <;> rcases h2 with rfl | rfl | rfl <;> first | exact absurd rfl ne | skip
          · exact sum_all T.v T.av T.bv P.sab
          · exact sum_all T.v T.av T.cv P.sac
          · rw [swap_sum]; exact sum_all T.v T.av T.bv P.sab
          · exact sum_all T.v T.bv T.cv P.sbc
          · rw [swap_sum]; exact sum_all T.v T.av T.cv P.sac
          · rw [swap_sum]; exact sum_all T.v T.bv T.cv P.sbc
    · show (valP S X A B C t v ∧ valP S X A B C u v) ↔ lineOf S X A B C (comM (mk PL t) (mk PL u)) v
      rw [i1 v, i2 v]
      generalize mk PL t = x at *
      generalize mk PL u = y at *
      unfold comM
      by_cases w1 : isW x y = true
      · rw [if_pos w1]
        exact ⟨fun h => h.1, fun h => ⟨h, line_mono T f2 w1 h⟩⟩
      · rw [if_neg w1]
        by_cases w2 : isW y x = true
        · rw [if_pos w2]
          exact ⟨fun h => h.2, fun h => ⟨line_mono T f1 w2 h, h⟩⟩
        · rw [if_neg w2]
          obtain ⟨h1, h2, ne⟩ := three f1 f2 w1 w2
          refine ⟨fun h => ?_, fun (h : v = S.z) => by rw [h]; exact ⟨(line_sub T x).z, (line_sub T y).z⟩⟩
          show v = S.z
          rcases h1 with rfl | rfl | rfl <;> rcases h2 with rfl | rfl | rfl <;> first | exact absurd rfl ne | skip
          · exact P.ab h.1 h.2
          · exact P.ac h.1 h.2
          · exact P.ab h.2 h.1
          · exact P.bc h.1 h.2
          · exact P.ac h.2 h.1
          · exact P.bc h.2 h.1
/-! ## a line is cut off -/
theorem Lin.z {f : M → Int} (L : Lin S f) : f S.z = 0 := by
  have := L.c S.z (-1) S.z
  rw [S.zer] at this
  rw [this, show f S.z + -1 * f S.z = 0 by omega]
  exact Int.zero_emod _
theorem Lin.le {f : M → Int} (L : Lin S f) {v : M} {g : Int} {u : M} : f (S.c v g u) = (f v + g * f u) % S.p := L.c v g u
def off (S : VS M) (f : M → Int) (x : M) (v : M) : M := S.c v (-(f v)) x
theorem off_cut {f : M → Int} {x : M} (T : Trip S V A B C) (L : Lin S f) (hx : V x) (f1 : f x = 1) (ha : A x ∨ ∀ v, A v → f v = 0) (hb : B x ∨ ∀ v, B v → f v = 0) (hc : C x ∨ ∀ v, C v → f v = 0) : Cut S V A B C (off S f x) := by
  have hand : ∀ {D : M → Prop}, Sub S D → (D x ∨ ∀ v, D v → f v = 0) → ∀ {v}, D v → D (off S f x v) := fun {D} hD h {v} d => by
    unfold off
    rcases h with h | h
    · exact hD.c d h
    · rw [h v d, show (-0 : Int) = 0 from rfl, S.nul]; exact d
  have f0 : ∀ v, f (off S f x v) = 0 := fun v => by
    unfold off
    rw [L.c, f1, Int.mul_one, Int.add_right_neg]
    exact Int.zero_emod _
  refine ⟨fun v g u => ?_, fun v => ?_, fun h => T.v.c h hx, hand T.a ha, hand T.b hb, hand T.c hc⟩
  · unfold off
    rw [L.c, S.assoc, S.comm v _ x g u, S.two, ← S.md, nm, S.md]
    congr 1
    rw [Int.mul_neg]
    omega
  · show S.c (off S f x v) (-(f (off S f x v))) x = _
    rw [f0, show (-0 : Int) = 0 from rfl, S.nul]
def K8 : List (List Nat) := [[], [97], [98], [99], [97, 98], [97, 99], [98, 99], [97, 98, 99]]
theorem K8_np : ∀ k ∈ K8, k ≠ PL := by decide
theorem pick8 (a b c : Prop) : ∃ k ∈ K8, (97 ∈ k ↔ a) ∧ (98 ∈ k ↔ b) ∧ (99 ∈ k ↔ c) := by
  by_cases ha : a <;> by_cases hb : b <;> by_cases hc : c
  · exact ⟨[97, 98, 99], by decide, by simp [ha], by simp [hb], by simp [hc]⟩
  · exact ⟨[97, 98], by decide, by simp [ha], by simp [hb], by simp [hc]⟩
  · exact ⟨[97, 99], by decide, by simp [ha], by simp [hb], by simp [hc]⟩
  · exact ⟨[97], by decide, by simp [ha], by simp [hb], by simp [hc]⟩
  · exact ⟨[98, 99], by decide, by simp [ha], by simp [hb], by simp [hc]⟩
  · exact ⟨[98], by decide, by simp [ha], by simp [hb], by simp [hc]⟩
  · exact ⟨[99], by decide, by simp [ha], by simp [hb], by simp [hc]⟩
  · exact ⟨[], by decide, by simp [ha], by simp [hb], by simp [hc]⟩
/-- one word is within the other on all kinds -/
structure Le9 (t u : Tr) : Prop where
  ht : WF t = true
  hu : WF u = true
  l : ∀ k ∈ K8, isW (mk k t) (mk k u) = true
  p : isW (mk PL t) (mk PL u) = true
theorem le49 {x y : Nat} (w : isW x y = true) (h : x = 49) : y = 49 := by
  subst h
  simp only [isW, Bool.or_eq_true, beq_iff_eq] at w
  omega
theorem step {f : M → Int} {x : M} (T : Trip S V A B C) (L : Lin S f) (hx : V x) (f1 : f x = 1) (ha : A x ∨ ∀ v, A v → f v = 0) (hb : B x ∨ ∀ v, B v → f v = 0) (hc : C x ∨ ∀ v, C v → f v = 0)
    {t u : Tr} (h9 : Le9 t u) (ih : ∀ {V' A' B' C' : M → Prop}, Trip S V' A' B' C' → cnt S V' < cnt S V → ∀ v, valP S V' A' B' C' t v → valP S V' A' B' C' u v) (v : M) (hv : valP S V A B C t v) : valP S V A B C u v := by
  have K := off_cut T L hx f1 ha hb hc
  have rx : off S f x x = S.z := by unfold off; rw [f1]; exact S.self x
  have nz : x ≠ S.z := fun e => by rw [e, L.z] at f1; cases f1
  obtain ⟨k, hk, ka, kb, kc⟩ := pick8 (kill S (off S f x) A x) (kill S (off S f x) B x) (kill S (off S f x) C x)
  have LN : Line S (kill S (off S f x) V) (kill S (off S f x) A) (kill S (off S f x) B) (kill S (off S f x) C) x k :=
    ⟨⟨hx, rx⟩, nz, fun {v} h => ⟨f v, by
      have e : S.c (off S f x v) (f v) x = v := S.back'
      rw [h.2] at e
      exact e.symm⟩, K8_np k hk, ka, kb, kc⟩
  have s := (split K T t v).mp hv
  refine (split K T u v).mpr ⟨ih (K.fix T) ?_ _ s.1, ?_⟩
  · exact cnt_lt (fun v h => h.1) hx fun h => nz (h.2.symm.trans rx)
  · have hX := val_in (K.kill T) t s.2
    refine (line_val (K.kill T) LN u h9.hu _ hX).mpr ?_
    exact ((line_val (K.kill T) LN t h9.ht _ hX).mp s.2).imp id (le49 (h9.l k hk))
abbrev sumP (S : VS M) (A B : M → Prop) : M → Prop := fun v => ∃ a b, A a ∧ B b ∧ v = S.c a 1 b
theorem in_l {A B : M → Prop} (hB : Sub S B) {v : M} (h : A v) : sumP S A B v := ⟨v, S.z, h, hB.z, (S.zer _ _).symm⟩
theorem in_r {A B : M → Prop} (hA : Sub S A) {v : M} (h : B v) : sumP S A B v := ⟨S.z, v, hA.z, h, (S.one _).symm⟩
/-- what holds on the nine kinds holds everywhere -/
theorem main {t u : Tr} (h9 : Le9 t u) : ∀ (N : Nat) {V A B C : M → Prop}, Trip S V A B C → cnt S V ≤ N → ∀ v, valP S V A B C t v → valP S V A B C u v := by
  intro N
  induction N with
  | zero =>
    intro V A B C T hN v hv
    have := cnt_lt (S := S) (A := fun _ => False) (B := V) (fun _ h => h.elim) T.v.z id
    omega
  | succ N ih =>
    intro V A B C T hN v hv
    have ih' : ∀ {V' A' B' C' : M → Prop}, Trip S V' A' B' C' → cnt S V' < cnt S V → ∀ v, valP S V' A' B' C' t v → valP S V' A' B' C' u v := fun T' lt => ih T' (by omega)
    have go : ∀ {U : M → Prop} {x : M}, Sub S U → V x → ¬U x → (A x ∨ ∀ v, A v → U v) → (B x ∨ ∀ v, B v → U v) → (C x ∨ ∀ v, C v → U v) → valP S V A B C u v := fun {U x} hU hx nx a b c => by
      obtain ⟨f, L, f0, f1⟩ := form hU nx
      exact step T L hx f1 (a.imp id fun h v d => f0 v (h v d)) (b.imp id fun h v d => f0 v (h v d)) (c.imp id fun h v d => f0 v (h v d)) h9 ih' v hv
    have sAB := sum_sub T.a T.b
    have sAC := sum_sub T.a T.c
    have sBC := sum_sub T.b T.c
    by_cases c1 : ∃ x, V x ∧ ¬sumP S (sumP S A B) C x
    · obtain ⟨x, hx, nx⟩ := c1
      exact go (sum_sub sAB T.c) hx nx (.inr fun v d => in_l T.c (in_l T.b d)) (.inr fun v d => in_l T.c (in_r T.a d)) (.inr fun v d => in_r sAB d)
    by_cases c2 : ∃ x, A x ∧ ¬sumP S B C x
    · obtain ⟨x, hx, nx⟩ := c2
      exact go sBC (T.av hx) nx (.inl hx) (.inr fun v d => in_l T.c d) (.inr fun v d => in_r T.b d)
    by_cases c3 : ∃ x, B x ∧ ¬sumP S A C x
    · obtain ⟨x, hx, nx⟩ := c3
      exact go sAC (T.bv hx) nx (.inr fun v d => in_l T.c d) (.inl hx) (.inr fun v d => in_r T.a d)
    by_cases c4 : ∃ x, C x ∧ ¬sumP S A B x
    · obtain ⟨x, hx, nx⟩ := c4
      exact go sAB (T.cv hx) nx (.inr fun v d => in_l T.b d) (.inr fun v d => in_r T.a d) (.inl hx)
    by_cases c5 : ∃ x, (A x ∧ B x) ∧ ¬C x
    · obtain ⟨x, ⟨hx, hy⟩, nx⟩ := c5
      exact go T.c (T.av hx) nx (.inl hx) (.inl hy) (.inr fun v d => d)
    by_cases c6 : ∃ x, (A x ∧ C x) ∧ ¬B x
    · obtain ⟨x, ⟨hx, hy⟩, nx⟩ := c6
      exact go T.b (T.av hx) nx (.inl hx) (.inr fun v d => d) (.inl hy)
    by_cases c7 : ∃ x, (B x ∧ C x) ∧ ¬A x
    · obtain ⟨x, ⟨hx, hy⟩, nx⟩ := c7
      exact go T.a (T.bv hx) nx (.inr fun v d => d) (.inl hx) (.inl hy)
    by_cases c8 : ∃ x, (A x ∧ B x ∧ C x) ∧ ¬x = S.z
    · obtain ⟨x, ⟨hx, hy, hz⟩, nx⟩ := c8
      exact go zero_sub (T.av hx) nx (.inl hx) (.inl hy) (.inl hz)
    have d1 : ∀ x, V x → sumP S (sumP S A B) C x := fun x h => Classical.byContradiction fun n => c1 ⟨x, h, n⟩
    have d2 : ∀ x, A x → sumP S B C x := fun x h => Classical.byContradiction fun n => c2 ⟨x, h, n⟩
    have d3 : ∀ x, B x → sumP S A C x := fun x h => Classical.byContradiction fun n => c3 ⟨x, h, n⟩
    have d4 : ∀ x, C x → sumP S A B x := fun x h => Classical.byContradiction fun n => c4 ⟨x, h, n⟩
    have d5 : ∀ x, A x → B x → C x := fun x h h' => Classical.byContradiction fun n => c5 ⟨x, ⟨h, h'⟩, n⟩
    have d6 : ∀ x, A x → C x → B x := fun x h h' => Classical.byContradiction fun n => c6 ⟨x, ⟨h, h'⟩, n⟩
    have d7 : ∀ x, B x → C x → A x := fun x h h' => Classical.byContradiction fun n => c7 ⟨x, ⟨h, h'⟩, n⟩
    have d8 : ∀ x, A x → B x → C x → x = S.z := fun x h h' h'' => Classical.byContradiction fun n => c8 ⟨x, ⟨h, h', h''⟩, n⟩
    have P : Plane S V A B C := by
      refine ⟨fun a b => d8 _ a b (d5 _ a b), fun a c => d8 _ a (d6 _ a c) c, fun b c => d8 _ (d7 _ b c) b c, fun {v} h => ?_, fun {v} h => ?_, fun {v} h => ?_⟩
      · obtain ⟨s, c, ⟨a, b, ha, hb, rfl⟩, hc, rfl⟩ := d1 v h
        exact sAB.c ⟨a, b, ha, hb, rfl⟩ (d4 c hc)
      · obtain ⟨s, c, ⟨a, b, ha, hb, rfl⟩, hc, rfl⟩ := d1 v h
        exact sAC.c (sAC.c (in_l T.c ha) (d3 b hb)) (in_r T.a hc)
      · obtain ⟨s, c, ⟨a, b, ha, hb, rfl⟩, hc, rfl⟩ := d1 v h
        exact sBC.c (sBC.c (d2 a ha) (in_l T.c hb)) (in_r T.b hc)
    refine (plane_val T P u h9.hu v).mpr ?_
    exact line_mono T (mk_five h9.hu) h9.p ((plane_val T P t h9.ht v).mp hv)
end DX

set_option linter.all false
/-! # rows over F_p as vectors; the value of a word in a triple of spans; the nine kinds (plain mathematics, no Python) -/
namespace RX
open KW
def allRows (p : Int) : Nat → List (List Int)
  | 0 => [[]]
  | n + 1 => (List.range p.toNat).flatMap fun x : Nat => (allRows p n).map fun r => (x : Int) :: r
theorem mem_allRows {p : Int} : ∀ {n : Nat} {r : List Int}, Row p n r → r ∈ allRows p n
  | 0, r, h => by
    have : r = [] := List.length_eq_zero_iff.mp h.1
    subst this
    simp [allRows]
  | n + 1, [], h => by simp [Row] at h
  | n + 1, x :: r, h => by
    have h1 := h.2 x (List.mem_cons_self ..)
    have h2 : Row p n r := ⟨by simpa using h.1, fun y hy => h.2 y (List.mem_cons_of_mem _ hy)⟩
    simp only [allRows, List.mem_flatMap, List.mem_map, List.mem_range]
    exact ⟨x.toNat, by omega, r, mem_allRows h2, by rw [Int.toNat_of_nonneg h1.1]⟩
abbrev Rw (p : Int) (n : Nat) : Type := {v : List Int // Row p n v}
open Classical in
noncomputable def listed {p : Int} {n : Nat} (l : List (List Int)) : List (Rw p n) := l.filterMap fun v => if h : Row p n v then some ⟨v, h⟩ else none
theorem mem_listed {p : Int} {n : Nat} {l : List (List Int)} (v : Rw p n) (h : v.1 ∈ l) : v ∈ listed l := by
  simp only [listed, List.mem_filterMap]
  exact ⟨v.1, h, by rw [dif_pos v.2]⟩
theorem addR_md {p f : Int} {v u : List Int} : addR p v (f % p) u = addR p v f u := by
  unfold addR
  congr 1
  funext a b
  rw [Int.add_emod, Int.mul_emod, Int.emod_emod_of_dvd _ (Int.dvd_refl p), ← Int.mul_emod, ← Int.add_emod]
noncomputable def rowVS {p : Int} {inv : Int → Int} (I : Inv p inv) (n : Nat) : DX.VS (Rw p n) where
  p := p
  inv := inv
  I := I
  z := ⟨List.replicate n 0, zero_row I.pos⟩
  c v f u := ⟨addR p v.1 f u.1, addR_row I.pos v.2.1 u.2.1⟩
  comm v f u g w := Subtype.ext (addR_comm v.2.1 u.2.1 w.2.1)
  assoc v f u g w := Subtype.ext (addR_assoc v.2.1 u.2.1 w.2.1)
  two v f u g := Subtype.ext ((addR_two v.2.1 u.2.1).trans addR_md)
  one v := Subtype.ext ((zero_add v.2.1).trans (scale_one I.pos v.2 (by have := I.two; exact Int.emod_eq_of_lt (by omega) (by omega))))
  nul v u := Subtype.ext (addR_zero I.pos v.2 u.2.1)
  zer v f := Subtype.ext (addR_rep I.pos v.2)
  md v f u := Subtype.ext addR_md
  all := listed (allRows p n)
  mem v := mem_listed v (mem_allRows v.2)
/-- being in a span, of a row -/
def inP {p : Int} {n : Nat} (B : List (List Int)) : Rw p n → Prop := fun v => InS p n B v.1
section
variable {p : Int} {inv : Int → Int} {n : Nat}
theorem inP_sub (I : Inv p inv) {B : List (List Int)} (hB : Len n B) : DX.Sub (rowVS I n) (inP B) := ⟨InS.zero, fun a b => a.comb I.pos hB b⟩
theorem app_split (h : 0 < p) {b c : List (List Int)} (hb : Len n b) (hc : Len n c) {v : List Int} : InS p n (b ++ c) v ↔ ∃ x y, InS p n b x ∧ InS p n c y ∧ v = addR p x 1 y := by
  constructor
  · intro i
    induction i with
    | zero => exact ⟨_, _, .zero, .zero, by rw [addR_rep h (zero_row h)]⟩
    | @add v r f i hr ih =>
      obtain ⟨x, y, hx, hy, e⟩ := ih
      have lx := (hx.row h hb).1
      have ly := (hy.row h hc).1
      subst e
      rcases List.mem_append.mp hr with m | m
      · exact ⟨addR p x f r, y, .add f hx m, hy, addR_comm lx ly (hb _ m)⟩
      · refine ⟨x, addR p y f r, hx, .add f hy m, ?_⟩
        rw [addR_assoc lx ly (hc _ m), Int.one_mul]
  · rintro ⟨x, y, hx, hy, rfl⟩
    have hbc : Len n (b ++ c) := fun r m => (List.mem_append.mp m).elim (hb r) (hc r)
    exact (hx.mono fun r m => List.mem_append_left _ m).comb h hbc (hy.mono fun r m => List.mem_append_right _ m)
/-- the basis of a word's value -/
def valI (inv : Int → Int) (p : Int) (n : Nat) (W A B C : List (List Int)) : Tr → List (List Int)
  | .lf c => if c = 97 then A else if c = 98 then B else if c = 99 then C else if c = 48 then reduced inv p [] else W
  | .nd c l r => if c = 43 then sumL inv p (valI inv p n W A B C l) (valI inv p n W A B C r) else commonL inv p n (valI inv p n W A B C l) (valI inv p n W A B C r)
theorem in_nil {v : List Int} : InS p n [] v ↔ v = List.replicate n 0 := by
  constructor
  · intro i
    cases i with
    | zero => rfl
    | add f i h => exact nomatch h
  · intro e
    rw [e]
    exact .zero
variable {W A B C : List (List Int)}
theorem valI_rref (I : Inv p inv) (RW : Rref p n W) (RA : Rref p n A) (RB : Rref p n B) (RC : Rref p n C) : ∀ t, Rref p n (valI inv p n W A B C t)
  | .lf c => by
    unfold valI
    split
    · exact RA
    split
    · exact RB
    split
    · exact RC
    split
    · exact .nil
    exact RW
  | .nd c l r => by
    unfold valI
    split
    · exact sum_rref I (valI_rref I RW RA RB RC l) (valI_rref I RW RA RB RC r)
    exact common_rref I (valI_rref I RW RA RB RC l) (valI_rref I RW RA RB RC r)
theorem valI_iff (I : Inv p inv) (RW : Rref p n W) (RA : Rref p n A) (RB : Rref p n B) (RC : Rref p n C) : ∀ t (v : Rw p n), inP (valI inv p n W A B C t) v ↔ DX.valP (rowVS I n) (inP W) (inP A) (inP B) (inP C) t v
  | .lf c, v => by
    unfold valI DX.valP
    by_cases h1 : c = 97
    · simp only [h1, if_true]
    by_cases h2 : c = 98
    · simp [h2]
    by_cases h3 : c = 99
    · simp [h3]
    by_cases h4 : c = 48
    · simp only [h4]
      simp only [show ¬((48 : Nat) = 97) by decide, show ¬((48 : Nat) = 98) by decide, show ¬((48 : Nat) = 99) by decide, if_false, if_true]
      exact in_nil.trans ⟨fun e => Subtype.ext e, fun e => congrArg Subtype.val e⟩
    · simp only [h1, h2, h3, h4, if_false]
  | .nd c l r, v => by
    have R1 := valI_rref I RW RA RB RC l
    have R2 := valI_rref I RW RA RB RC r
    unfold valI DX.valP
    split
    · refine ((sum_span I R1 R2 v.1).trans (app_split I.pos R1.len R2.len)).trans ⟨?_, ?_⟩
      · rintro ⟨x, y, hx, hy, e⟩
        exact ⟨⟨x, hx.row I.pos R1.len⟩, ⟨y, hy.row I.pos R2.len⟩, (valI_iff I RW RA RB RC l _).mp hx, (valI_iff I RW RA RB RC r _).mp hy, Subtype.ext e⟩
      · rintro ⟨x, y, hx, hy, e⟩
        exact ⟨x.1, y.1, (valI_iff I RW RA RB RC l _).mpr hx, (valI_iff I RW RA RB RC r _).mpr hy, congrArg Subtype.val e⟩
    · exact (common_span I R1 R2 v.1).trans ⟨fun h => ⟨(valI_iff I RW RA RB RC l _).mp h.1, (valI_iff I RW RA RB RC r _).mp h.2⟩, fun h => ⟨(valI_iff I RW RA RB RC l _).mpr h.1, (valI_iff I RW RA RB RC r _).mpr h.2⟩⟩
theorem trip_of (I : Inv p inv) (hW : ∀ v, Row p n v → InS p n W v) (RW : Rref p n W) (RA : Rref p n A) (RB : Rref p n B) (RC : Rref p n C) : DX.Trip (rowVS I n) (inP W) (inP A) (inP B) (inP C) :=
  ⟨inP_sub I RW.len, inP_sub I RA.len, inP_sub I RB.len, inP_sub I RC.len, fun {v} _ => hW _ v.2, fun {v} _ => hW _ v.2, fun {v} _ => hW _ v.2⟩
theorem le9_of {t u : Tr} (ht : WF t = true) (hu : WF u = true) (h : ∀ k ∈ kinds, isW (mk k t) (mk k u) = true) : DX.Le9 t u :=
  ⟨ht, hu, fun k m => h k ((by decide : ∀ k ∈ DX.K8, k ∈ kinds) k m), h PL (by decide)⟩
/-- what is within on the nine kinds is within everywhere -/
theorem words_le (I : Inv p inv) (hW : ∀ v, Row p n v → InS p n W v) (RW : Rref p n W) (RA : Rref p n A) (RB : Rref p n B) (RC : Rref p n C) {t u : Tr} (ht : WF t = true) (hu : WF u = true) (h : ∀ k ∈ kinds, isW (mk k t) (mk k u) = true) :
    ∀ v, InS p n (valI inv p n W A B C t) v → InS p n (valI inv p n W A B C u) v := fun v i => by
  have r := i.row I.pos (valI_rref I RW RA RB RC t).len
  have T := trip_of I hW RW RA RB RC
  exact (valI_iff I RW RA RB RC u ⟨v, r⟩).mpr (DX.main (le9_of ht hu h) _ T (Nat.le_refl _) ⟨v, r⟩ ((valI_iff I RW RA RB RC t ⟨v, r⟩).mp i))
end
end RX

set_option linter.all false
/-! # the nine kinds, made of rows: on each of them within is within of marks (plain mathematics, no Python) -/
namespace RX
open KW
def kLen (k : List Nat) : Nat := if k = PL then 2 else 1
def kRows (k : List Nat) (h : Nat) : List (List Int) := if k = PL then (if h = 97 then [[1, 0]] else if h = 98 then [[0, 1]] else [[1, 1]]) else if h ∈ k then [[1]] else []
section
variable {p : Int} {inv : Int → Int} {n : Nat} {W A B C : List (List Int)}
theorem in_single (h : 0 < p) {r v : List Int} (hr : r.length = n) : InS p n [r] v ↔ ∃ f, v = addR p (List.replicate n 0) f r := by
  constructor
  · intro i
    induction i with
    | zero => exact ⟨0, by rw [addR_zero h (zero_row h) hr]⟩
    | @add v s f i hs ih =>
      obtain ⟨g, e⟩ := ih
      have : s = r := by simpa using hs
      subst this
      subst e
      exact ⟨(g + f) % p, addR_two (by simp) hr⟩
  · rintro ⟨f, rfl⟩
    exact .add f .zero (List.mem_singleton.mpr rfl)
theorem em {p x : Int} (h : 0 ≤ x ∧ x < p) : x % p = x := Int.emod_eq_of_lt h.1 h.2
/-- where a mark's line lies -/
theorem isW_anti {x y : Nat} (h : isW x y = true) (g : isW y x = true) : x = y := by
  simp only [isW, Bool.or_eq_true, beq_iff_eq] at h g
  omega
theorem line_le (I : Inv p inv) {k : List Nat} (np : k ≠ PL) (hW : ∀ v, Row p 1 v → InS p 1 W v) (RW : Rref p 1 W) (RA : Rref p 1 A) (RB : Rref p 1 B) (RC : Rref p 1 C)
    (eA : ∀ v, InS p 1 A v ↔ InS p 1 (kRows k 97) v) (eB : ∀ v, InS p 1 B v ↔ InS p 1 (kRows k 98) v) (eC : ∀ v, InS p 1 C v ↔ InS p 1 (kRows k 99) v) {t u : Tr} (ht : WF t = true) (hu : WF u = true) :
    (∀ v, InS p 1 (valI inv p 1 W A B C t) v → InS p 1 (valI inv p 1 W A B C u) v) ↔ isW (mk k t) (mk k u) = true := by
  have h2 := I.two
  have hx : Row p 1 [1] := ⟨rfl, fun y hy => by have : y = 1 := by simpa using hy
                                                omega⟩
  have T := trip_of I hW RW RA RB RC
  have nz : (⟨[1], hx⟩ : Rw p 1) ≠ (rowVS I 1).z := fun e => by have := congrArg Subtype.val e; simp [rowVS] at this
  have hand : ∀ {D : List (List Int)} {h : Nat}, (∀ v, InS p 1 D v ↔ InS p 1 (kRows k h) v) → (h ∈ k ↔ inP D (⟨[1], hx⟩ : Rw p 1)) := fun {D h} e => by
    refine Iff.trans ?_ (e [1]).symm
    unfold kRows
    rw [if_neg np]
    by_cases m : h ∈ k
    · rw [if_pos m]
      exact ⟨fun _ => .self h2 hx (by simp), fun _ => m⟩
    · rw [if_neg m, in_nil]
      exact ⟨fun z => (m z).elim, fun z => by simp at z⟩
  have L : DX.Line (rowVS I 1) (inP W) (inP A) (inP B) (inP C) ⟨[1], hx⟩ k := by
    refine ⟨hW _ hx, nz, fun {v} _ => ?_, np, hand eA, hand eB, hand eC⟩
    obtain ⟨v, hv⟩ := v
    match v, hv with
    | [y], hv =>
      refine ⟨y, Subtype.ext ?_⟩
      have := hv.2 y (by simp)
      show [y] = addR p [0] y [1]
      simp [addR, em this]
    | [], hv => exact absurd hv.1 (by simp)
    | _ :: _ :: _, hv => exact absurd hv.1 (by simp)
  have bit : ∀ {m m' : Nat}, (m = 48 ∨ m = 49) → (m' = 48 ∨ m' = 49) → ((m = 49 → m' = 49) ↔ isW m m' = true) := fun a b => by
    simp only [isW, Bool.or_eq_true, beq_iff_eq]
    omega
  refine Iff.trans ?_ (bit (DX.mk_bit np ht) (DX.mk_bit np hu))
  have e : ∀ t, WF t = true → ∀ v : Rw p 1, inP (valI inv p 1 W A B C t) v ↔ v = (rowVS I 1).z ∨ mk k t = 49 := fun t ht v =>
    (valI_iff I RW RA RB RC t v).trans (DX.line_val T L t ht v (hW _ v.2))
  constructor
  · intro h m
    exact ((e u hu ⟨[1], hx⟩).mp (h _ ((e t ht ⟨[1], hx⟩).mpr (Or.inr m)))).resolve_left nz
  · intro h v i
    have r := i.row I.pos (valI_rref I RW RA RB RC t).len
    exact (e u hu ⟨v, r⟩).mpr (((e t ht ⟨v, r⟩).mp i).imp id h)
theorem plane_le (I : Inv p inv) (hW : ∀ v, Row p 2 v → InS p 2 W v) (RW : Rref p 2 W) (RA : Rref p 2 A) (RB : Rref p 2 B) (RC : Rref p 2 C)
    (eA : ∀ v, InS p 2 A v ↔ InS p 2 [[1, 0]] v) (eB : ∀ v, InS p 2 B v ↔ InS p 2 [[0, 1]] v) (eC : ∀ v, InS p 2 C v ↔ InS p 2 [[1, 1]] v) {t u : Tr} (ht : WF t = true) (hu : WF u = true) :
    (∀ v, InS p 2 (valI inv p 2 W A B C t) v → InS p 2 (valI inv p 2 W A B C u) v) ↔ isW (mk PL t) (mk PL u) = true := by
  have h2 := I.two
  have h0 := I.pos
  have T := trip_of I hW RW RA RB RC
  have two : ∀ v : Rw p 2, ∃ y z, v.1 = [y, z] ∧ (0 ≤ y ∧ y < p) ∧ 0 ≤ z ∧ z < p := fun v => by
    obtain ⟨v, hv⟩ := v
    match v, hv with
    | [y, z], hv => exact ⟨y, z, rfl, hv.2 y (by simp), hv.2 z (by simp)⟩
    | [], hv => exact absurd hv.1 (by simp)
    | [_], hv => exact absurd hv.1 (by simp)
    | _ :: _ :: _ :: _, hv => exact absurd hv.1 (by simp)
  have row2 : ∀ {y z : Int}, (0 ≤ y ∧ y < p) → (0 ≤ z ∧ z < p) → Row p 2 [y, z] := fun {y z} a b => ⟨rfl, fun x hx => by
    rcases List.mem_cons.mp hx with e | e
    · subst e; exact a
    · have : x = z := by simpa using e
      subst this; exact b⟩
  have a1 : ∀ {y z : Int}, (0 ≤ y ∧ y < p) → (0 ≤ z ∧ z < p) → (InS p 2 A [y, z] ↔ z = 0) := fun {y z} hy hz => by
    rw [eA, in_single (n := 2) h0 rfl]
    constructor
    · rintro ⟨f, e⟩
      simp [addR, List.replicate] at e
      exact e.2
    · rintro rfl
      exact ⟨y, by simp [addR, List.replicate, em hy]⟩
  have b1 : ∀ {y z : Int}, (0 ≤ y ∧ y < p) → (0 ≤ z ∧ z < p) → (InS p 2 B [y, z] ↔ y = 0) := fun {y z} hy hz => by
    rw [eB, in_single (n := 2) h0 rfl]
    constructor
    · rintro ⟨f, e⟩
      simp [addR, List.replicate] at e
      exact e.1
    · rintro rfl
      exact ⟨z, by simp [addR, List.replicate, em hz]⟩
  have c1 : ∀ {y z : Int}, (0 ≤ y ∧ y < p) → (0 ≤ z ∧ z < p) → (InS p 2 C [y, z] ↔ y = z) := fun {y z} hy hz => by
    rw [eC, in_single (n := 2) h0 rfl]
    constructor
    · rintro ⟨f, e⟩
      simp [addR, List.replicate] at e
      exact e.1.trans e.2.symm
    · rintro rfl
      exact ⟨y, by simp [addR, List.replicate, em hy]⟩
  have z0 : (0 : Int) ≤ 0 ∧ (0 : Int) < p := ⟨Int.le_refl _, h0⟩
  have o1 : (0 : Int) ≤ 1 ∧ (1 : Int) < p := ⟨by omega, by omega⟩
  have neg : ∀ x : Int, 0 ≤ x % p ∧ x % p < p := fun x => ⟨Int.emod_nonneg _ (by omega), Int.emod_lt_of_pos _ h0⟩
  have zz : ∀ {v : Rw p 2} {y z : Int}, v.1 = [y, z] → y = 0 → z = 0 → v = (rowVS I 2).z := fun e1 e2 e3 => Subtype.ext (by rw [e1, e2, e3]; rfl)
  have P : DX.Plane (rowVS I 2) (inP W) (inP A) (inP B) (inP C) := by
    refine ⟨fun {v} a b => ?_, fun {v} a b => ?_, fun {v} a b => ?_, fun {v} _ => ?_, fun {v} _ => ?_, fun {v} _ => ?_⟩
    · obtain ⟨y, z, e, hy, hz⟩ := two v
      have a : InS p 2 A v.1 := a
      have b : InS p 2 B v.1 := b
      rw [e] at a b
      exact zz e ((b1 hy hz).mp b) ((a1 hy hz).mp a)
    · obtain ⟨y, z, e, hy, hz⟩ := two v
      have a : InS p 2 A v.1 := a
      have b : InS p 2 C v.1 := b
      rw [e] at a b
      have := (a1 hy hz).mp a
      exact zz e (((c1 hy hz).mp b).trans this) this
    · obtain ⟨y, z, e, hy, hz⟩ := two v
      have a : InS p 2 B v.1 := a
      have b : InS p 2 C v.1 := b
      rw [e] at a b
      have := (b1 hy hz).mp a
      exact zz e this (((c1 hy hz).mp b).symm.trans this)
    · obtain ⟨y, z, e, hy, hz⟩ := two v
      refine ⟨⟨[y, 0], row2 hy z0⟩, ⟨[0, z], row2 z0 hz⟩, (a1 hy z0).mpr rfl, (b1 z0 hz).mpr rfl, Subtype.ext (e.trans ?_)⟩
      show _ = addR p [y, 0] 1 [0, z]
      simp [addR, em hy, em hz]
    · obtain ⟨y, z, e, hy, hz⟩ := two v
      refine ⟨⟨[(y - z) % p, 0], row2 (neg _) z0⟩, ⟨[z, z], row2 hz hz⟩, (a1 (neg _) z0).mpr rfl, (c1 hz hz).mpr rfl, Subtype.ext (e.trans ?_)⟩
      show _ = addR p [(y - z) % p, 0] 1 [z, z]
      simp only [addR, List.zipWith_cons_cons, List.zipWith_nil_left, Int.one_mul, Int.zero_add, em hz]
      rw [emod_l, show y - z + z = y by omega, em hy]
    · obtain ⟨y, z, e, hy, hz⟩ := two v
      refine ⟨⟨[0, (z - y) % p], row2 z0 (neg _)⟩, ⟨[y, y], row2 hy hy⟩, (b1 z0 (neg _)).mpr rfl, (c1 hy hy).mpr rfl, Subtype.ext (e.trans ?_)⟩
      show _ = addR p [0, (z - y) % p] 1 [y, y]
      simp only [addR, List.zipWith_cons_cons, List.zipWith_nil_left, Int.one_mul, Int.zero_add, em hy]
      rw [emod_l, show z - y + y = z by omega, em hz]
  have e : ∀ t, WF t = true → ∀ v : Rw p 2, inP (valI inv p 2 W A B C t) v ↔ DX.lineOf (rowVS I 2) (inP W) (inP A) (inP B) (inP C) (mk PL t) v := fun t ht v =>
    (valI_iff I RW RA RB RC t v).trans (DX.plane_val T P t ht v)
  constructor
  · intro h
    have h' : ∀ v : Rw p 2, DX.lineOf (rowVS I 2) (inP W) (inP A) (inP B) (inP C) (mk PL t) v → DX.lineOf (rowVS I 2) (inP W) (inP A) (inP B) (inP C) (mk PL u) v := fun v hv => (e u hu v).mp (h _ ((e t ht v).mpr hv))
    have k10 := row2 o1 z0
    have k01 := row2 z0 o1
    have k11 := row2 o1 o1
    have n10 : (⟨[1, 0], k10⟩ : Rw p 2) ≠ (rowVS I 2).z := fun e => by have := congrArg Subtype.val e; simp [rowVS] at this
    have n01 : (⟨[0, 1], k01⟩ : Rw p 2) ≠ (rowVS I 2).z := fun e => by have := congrArg Subtype.val e; simp [rowVS] at this
    have n11 : (⟨[1, 1], k11⟩ : Rw p 2) ≠ (rowVS I 2).z := fun e => by have := congrArg Subtype.val e; simp [rowVS] at this
    have ya : inP A (⟨[1, 0], k10⟩ : Rw p 2) := (a1 o1 z0).mpr rfl
    have yb : inP B (⟨[0, 1], k01⟩ : Rw p 2) := (b1 z0 o1).mpr rfl
    have yc : inP C (⟨[1, 1], k11⟩ : Rw p 2) := (c1 o1 o1).mpr rfl
    have na1 : ¬inP A (⟨[0, 1], k01⟩ : Rw p 2) := fun z => absurd ((a1 z0 o1).mp z) (by decide)
    have na2 : ¬inP A (⟨[1, 1], k11⟩ : Rw p 2) := fun z => absurd ((a1 o1 o1).mp z) (by decide)
    have nb1 : ¬inP B (⟨[1, 0], k10⟩ : Rw p 2) := fun z => absurd ((b1 o1 z0).mp z) (by decide)
    have nb2 : ¬inP B (⟨[1, 1], k11⟩ : Rw p 2) := fun z => absurd ((b1 o1 o1).mp z) (by decide)
    have nc1 : ¬inP C (⟨[1, 0], k10⟩ : Rw p 2) := fun z => absurd ((c1 o1 z0).mp z) (by decide)
    have nc2 : ¬inP C (⟨[0, 1], k01⟩ : Rw p 2) := fun z => absurd ((c1 z0 o1).mp z) (by decide)
    have w1 := hW _ k10
    have w2 := hW _ k01
    have w3 := hW _ k11
    have q1 := h' ⟨[1, 0], k10⟩
    have q2 := h' ⟨[0, 1], k01⟩
    have q3 := h' ⟨[1, 1], k11⟩
    have w1' : inP W (⟨[1, 0], k10⟩ : Rw p 2) := w1
    have w2' : inP W (⟨[0, 1], k01⟩ : Rw p 2) := w2
    have w3' : inP W (⟨[1, 1], k11⟩ : Rw p 2) := w3
    rcases five_cases (mk_five (k := PL) ht) with et | et | et | et | et <;> rcases five_cases (mk_five (k := PL) hu) with eu | eu | eu | eu | eu <;>
      rw [et, eu] at q1 q2 q3 <;> rw [et, eu] <;> first
      | decide
      | (exfalso; simp only [DX.lineOf] at q1 q2 q3; simp_all)
  · intro h v i
    have r := i.row I.pos (valI_rref I RW RA RB RC t).len
    exact (e u hu ⟨v, r⟩).mpr (DX.line_mono T (mk_five hu) h ((e t ht ⟨v, r⟩).mp i))
/-- on the triple of a kind, within is within of its marks -/
theorem kind_le (I : Inv p inv) {k : List Nat} (hk : k ∈ kinds) (hW : ∀ v, Row p (kLen k) v → InS p (kLen k) W v) (RW : Rref p (kLen k) W) (RA : Rref p (kLen k) A) (RB : Rref p (kLen k) B) (RC : Rref p (kLen k) C)
    (eA : ∀ v, InS p (kLen k) A v ↔ InS p (kLen k) (kRows k 97) v) (eB : ∀ v, InS p (kLen k) B v ↔ InS p (kLen k) (kRows k 98) v) (eC : ∀ v, InS p (kLen k) C v ↔ InS p (kLen k) (kRows k 99) v) {t u : Tr} (ht : WF t = true) (hu : WF u = true) :
    (∀ v, InS p (kLen k) (valI inv p (kLen k) W A B C t) v → InS p (kLen k) (valI inv p (kLen k) W A B C u) v) ↔ isW (mk k t) (mk k u) = true := by
  by_cases np : k = PL
  · subst np
    exact plane_le I hW RW RA RB RC eA eB eC ht hu
  · have e1 : kLen k = 1 := if_neg np
    rw [e1] at hW RW RA RB RC eA eB eC ⊢
    exact line_le I np hW RW RA RB RC eA eB eC ht hu
end
end RX

set_option Elab.async false
set_option linter.all false
set_option maxRecDepth 100000
set_option maxHeartbeats 4000000
/-! # built, exactly -/
namespace KV
open PySem PySem.Spec PyProof.Rows L2 VX RX
section
variable {P : Program} {w : World} {K : PySem.W.Frag} {mg : Str → Option Value} {base : Heap} {f : Addr} {fd : FuncData}
open RX
/-- rows as lists, none of them in B -/
inductive RowsN (H : Hp) (B : List Addr) : List Addr → List (List Int) → Prop
  | nil : RowsN H B [] []
  | cons {a : Addr} {r : List Int} {as : List Addr} {rs : List (List Int)} : H a = some (.lst (r.map V.int)) → a ∉ B → RowsN H B as rs → RowsN H B (a :: as) (r :: rs)
theorem RowsN.same {H H' : Hp} {B : List Addr} (s : Same H H') : ∀ {as : List Addr} {rs : List (List Int)}, RowsN H B as rs → RowsN H' B as rs
  | _, _, .nil => .nil
  | _, _, .cons h1 h2 t => .cons (s _ _ h1) h2 (RowsN.same s t)
theorem RowsN.upd {H : Hp} {B : List Addr} {x : Addr} {o : HO} (hx : x ∈ B) : ∀ {as : List Addr} {rs : List (List Int)}, RowsN H B as rs → RowsN (upd H x o) B as rs
  | _, _, .nil => .nil
  | _, _, .cons (a := a) h1 h2 t => .cons (by rw [upd_ne (show a ≠ x from fun e => h2 (e ▸ hx))]; exact h1) h2 (RowsN.upd hx t)
theorem RowsN.snoc {H : Hp} {B : List Addr} {y : Addr} {r : List Int} (hy : H y = some (.lst (r.map V.int))) (ny : y ∉ B) : ∀ {as : List Addr} {rs : List (List Int)}, RowsN H B as rs → RowsN H B (as ++ [y]) (rs ++ [r])
  | _, _, .nil => .cons hy ny .nil
  | _, _, .cons h1 h2 t => .cons h1 h2 (RowsN.snoc hy ny t)
theorem RowsN.ints {H : Hp} {B : List Addr} : ∀ {as : List Addr} {rs : List (List Int)}, RowsN H B as rs → AreInts H as rs
  | _, _, .nil => .nil
  | _, _, .cons h1 _ t => .cons (.inl h1) (RowsN.ints t)
theorem RowsN.length {H : Hp} {B : List Addr} : ∀ {as : List Addr} {rs : List (List Int)}, RowsN H B as rs → as.length = rs.length
  | _, _, .nil => rfl
  | _, _, .cons _ _ t => congrArg (· + 1) t.length
structure Hx (H : Hp) (l : Addr) (hs : List Addr) (R : Nat → List (List Int)) : Prop where
  ls : H l = some (.lst (hs.map V.ref))
  three : hs.length = 3
  nd : hs.Nodup
  lh : l ∉ hs
  rows : ∀ t x, hs[t]? = some x → ∃ as : List Addr, H x = some (.lst (as.map V.ref)) ∧ RowsN H (l :: hs) as (R t)
theorem Hx.same {H H' : Hp} {l : Addr} {hs : List Addr} {R : Nat → List (List Int)} (h : Hx H l hs R) (s : Same H H') : Hx H' l hs R :=
  ⟨s _ _ h.ls, h.three, h.nd, h.lh, fun t x e => let ⟨as, h1, h2⟩ := h.rows t x e; ⟨as, s _ _ h1, h2.same s⟩⟩
theorem nodup_idx {α : Type} {l : List α} (h : l.Nodup) {i j : Nat} {x : α} (hi : l[i]? = some x) (hj : l[j]? = some x) : i = j := by
  obtain ⟨h1, e1⟩ := List.getElem?_eq_some_iff.mp hi
  obtain ⟨h2, e2⟩ := List.getElem?_eq_some_iff.mp hj
  have k := List.pairwise_iff_getElem.mp h
  rcases Nat.lt_trichotomy i j with g | g | g
  · exact absurd (e1.trans e2.symm) (k i j h1 h2 g)
  · exact g
  · exact absurd (e2.trans e1.symm) (k j i h2 h1 g)
theorem Hx.app {H : Hp} {l : Addr} {hs : List Addr} {R : Nat → List (List Int)} (h : Hx H l hs R) {t : Nat} {x y : Addr} {as : List Addr} {r : List Int} (hx : hs[t]? = some x) (e : H x = some (.lst (as.map V.ref))) (ha : RowsN H (l :: hs) as (R t)) (hy : H y = some (.lst (r.map V.int))) (ny : y ∉ l :: hs) :
    Hx (upd H x (.lst (as.map V.ref ++ [V.ref y]))) l hs (fun s => if s = t then R t ++ [r] else R s) := by
  have mx : x ∈ hs := List.mem_of_getElem? hx
  refine ⟨by rw [upd_ne (show l ≠ x from fun z => h.lh (by rw [z]; exact mx))]; exact h.ls, h.three, h.nd, h.lh, fun s z hz => ?_⟩
  by_cases es : s = t
  · subst es
    rw [hx] at hz
    obtain rfl := Option.some.inj hz
    refine ⟨as ++ [y], by rw [upd_same, List.map_append]; rfl, ?_⟩
    rw [if_pos rfl]
    refine RowsN.snoc ?_ ny (ha.upd (.tail _ mx))
    rw [upd_ne (show y ≠ x from fun z => ny (by rw [z]; exact .tail _ mx))]
    exact hy
  · obtain ⟨as', h1, h2⟩ := h.rows s z hz
    have nz : z ≠ x := fun q => es (nodup_idx h.nd hz (by rw [q]; exact hx))
    refine ⟨as', by rw [upd_ne nz]; exact h1, ?_⟩
    rw [if_neg es]
    exact h2.upd (.tail _ mx)
/-- the rows of the a-th kind -/
def kR (a t : Nat) : List (List Int) := kRows (KW.kinds.getD a []) (97 + t)
def kSz (a : Nat) : Nat := if a = 8 then 2 else 1
def kz : List Str := ["", "a", "b", "c", "ab", "ac", "bc", "abc"]
end
end KV

set_option Elab.async false
set_option linter.all false
set_option maxRecDepth 100000
set_option maxHeartbeats 4000000
/-! # given, kind_length -/
namespace KV
open PySem PySem.Spec PyProof.Rows L2 VX RX
section
variable {P : Program} {w : World} {K : PySem.W.Frag} {mg : Str → Option Value} {base : Heap} {f : Addr} {fd : FuncData}
def spKLen : Sp := fun vs H Q _ => ∃ k : List Nat, vs = [.str (KX.kS k)] ∧ Q (.int (kLen k : Nat)) H
abbrev nKl : List Str := ["kind"]
theorem sc_kl : FnScope nKl ["kind"] (defScope (top iKLen)) := ⟨rfl, rfl, rfl, by decide +kernel, rfl, by decide +kernel, by decide +kernel⟩
theorem g_klen (T : TX K mg) : ∃ fd, FnP K "kind_length" iKLen (He.ga K "kind_length") fd ∧ FnOk P w K mg base CX0 1 (He.ga K "kind_length") fd ["kind"] spKLen ∧ Binds K fd ["kind"] [] := by
  obtain ⟨fd, F⟩ := T.def "kind_length" iKLen
  obtain ⟨tm, hm⟩ := T.s_PLANE
  refine ⟨fd, F, F.ok sc_kl (fun vs H Q E h => ?_) (fun cdv A outer s H vs Q E hr h => ?_), F.bindsN fun _ _ _ _ _ _ us hl => match us, hl with | [_], _ => rfl⟩
  · obtain ⟨k, rfl, _⟩ := h
    rfl
  · obtain ⟨k, rfl, q⟩ := h
    have nd := sc_kl.nd
    refine ⟨_, PSs.nox (pss_one (ps_ret (pe_ifExp (pt_cmpR op_eq (pv 0) (pe_glob (v := .str "plane") (by rfl) hm ⟨tm, rfl⟩) (nomark _)) pe_int pe_int))), ?_⟩
    refine ⟨_, rfl, rfl, _, rfl, ?_⟩
    rw [KX.kS_pl]
    unfold kLen at q
    refine ite2 (fun h => ?_) (fun h => ?_)
    · rw [if_pos (of_decide_eq_true h)] at q
      exact q
    · rw [if_neg (fun e => h (decide_eq_true e))] at q
      exact q
end
end KV

set_option Elab.async false
set_option linter.all false
set_option maxRecDepth 100000
set_option maxHeartbeats 4000000
/-! # kind_triple -/
namespace KV
open PySem PySem.Spec PyProof.Rows L2 VX RX
section
variable {P : Program} {w : World} {K : PySem.W.Frag} {mg : Str → Option Value} {base : Heap} {f : Addr} {fd : FuncData}
noncomputable abbrev Bk (p : Int) (a t : Nat) : List (List Int) := reduced (invF p) p ((kR a t).map (modR p))
end
end KV

set_option Elab.async false
set_option linter.all false
set_option maxRecDepth 100000
set_option maxHeartbeats 4000000
/-! # values on kinds, values everywhere -/
namespace KV
open PySem PySem.Spec PyProof.Rows L2 VX RX
section
variable {P : Program} {w : World} {K : PySem.W.Frag} {mg : Str → Option Value} {base : Heap} {f : Addr} {fd : FuncData}
theorem at0_unit {n i j : Nat} (hj : j < n) : at0 (unitR n i) j = if j = i then 1 else 0 := by
  rw [at0_of (by simp [unitR]; omega)]
  simp [unitR]
theorem units_all {p : Int} (hp : isP p = true) {n : Nat} {v : List Int} (hv : Row p n v) : InS p n (wholeB p n) v := by
  have I := invF_ok hp
  have h0 := I.pos
  have rows : ∀ r ∈ (unitL n).map (modR p), Row p n r := modR_rows h0 unitL_len
  refine (reduced_span I rows v).mpr ?_
  have step : ∀ j, j ≤ n → InS p n ((unitL n).map (modR p)) ((v.take j) ++ List.replicate (n - j) 0) := by
    intro j
    induction j with
    | zero => intro _; simpa using InS.zero
    | succ j ih =>
      intro hj
      have hl := hv.1
      have m : modR p (unitR n j) ∈ (unitL n).map (modR p) := List.mem_map_of_mem (List.mem_map_of_mem (List.mem_range.mpr (by omega)))
      have lm : (modR p (unitR n j)).length = n := by rw [modR_len]; simp [unitR]
      have lj : (v.take j ++ List.replicate (n - j) (0 : Int)).length = n := by simp [hl]; omega
      have e : v.take (j + 1) ++ List.replicate (n - (j + 1)) (0 : Int) = addR p (v.take j ++ List.replicate (n - j) 0) (at0 v j) (modR p (unitR n j)) := by
        refine ext0 (by rw [addR_len lj lm]; simp [hl]; omega) fun i hi => ?_
        have hi' : i < n := by simp [hl] at hi; omega
        have em : at0 (modR p (unitR n j)) i = if i = j then 1 else 0 := by
          have hu : i < (unitR n j).length := by simp [unitR]; omega
          rw [at0_of (by rw [lm]; exact hi')]
          have : (modR p (unitR n j))[i]'(by rw [lm]; exact hi') = (unitR n j)[i] % p := by simp [modR]
          rw [this, ← at0_of hu, at0_unit hi']
          have h2 := I.two
          split
          · exact Int.emod_eq_of_lt (by omega) (by omega)
          · simp
        have bv := hv.emod h0 i
        rw [at0_addR (by rw [lj, lm]), em]
        rcases Nat.lt_trichotomy i j with g | g | g
        · rw [if_neg (by omega), at0_app_l (by simp [hl]; omega), at0_app_l (by simp [hl]; omega), Int.mul_zero, Int.add_zero]
          rw [show at0 (v.take (j + 1)) i = at0 v i by simp [at0, List.getD, List.getElem?_take, g, show i < j + 1 by omega], show at0 (v.take j) i = at0 v i by simp [at0, List.getD, List.getElem?_take, g], bv]
        · subst g
          rw [if_pos rfl, at0_app_l (by simp [hl]; omega)]
          have h1 := at0_app_r (r := v.take i) (s := List.replicate (n - i) (0 : Int)) 0
          rw [show (v.take i).length + 0 = i by simp [hl]; omega] at h1
          rw [h1, at0_rep, Int.zero_add, Int.mul_one, bv]
          simp [at0, List.getD, List.getElem?_take]
        · rw [if_neg (by omega), Int.mul_zero, Int.add_zero]
          have h1 := at0_app_r (r := v.take (j + 1)) (s := List.replicate (n - (j + 1)) (0 : Int)) (i - (j + 1))
          rw [show (v.take (j + 1)).length + (i - (j + 1)) = i by simp [hl]; omega] at h1
          have h2 := at0_app_r (r := v.take j) (s := List.replicate (n - j) (0 : Int)) (i - j)
          rw [show (v.take j).length + (i - j) = i by simp [hl]; omega] at h2
          rw [h1, h2, at0_rep, at0_rep]
          simp
      rw [e]
      exact .add _ (ih (by omega)) m
  have := step n (Nat.le_refl _)
  rw [Nat.sub_self, List.replicate_zero, List.append_nil, List.take_of_length_le (Nat.le_of_eq hv.1)] at this
  exact this
theorem wholeB_rref {p : Int} (hp : isP p = true) {n : Nat} : Rref p n (wholeB p n) := reduced_ok (invF_ok hp) (modR_rows (invF_ok hp).pos unitL_len)
theorem valB_I {p : Int} {n : Nat} {A B C : List (List Int)} : ∀ t : KW.Tr, valB p n A B C t = valI (invF p) p n (wholeB p n) A B C t
  | .lf c => rfl
  | .nd c l r => by
    unfold valB valI
    rw [valB_I l, valB_I r]
end
end KV

set_option Elab.async false
set_option linter.all false
set_option maxRecDepth 100000
set_option maxHeartbeats 4000000
/-! # _law_told -/
namespace KV
open PySem PySem.Spec PyProof.Rows L2 VX RX
section
variable {P : Program} {w : World} {K : PySem.W.Frag} {mg : Str → Option Value} {base : Heap} {f : Addr} {fd : FuncData}
theorem g_mkf (T : TX K mg) : ∃ a b c d e f, KX.Mkf K a b c d e f := by
  obtain ⟨_, ha⟩ := T.def "is_within" iWithin
  obtain ⟨_, hb⟩ := T.def "sum_mark" iSumM
  obtain ⟨_, hc⟩ := T.def "common_mark" iComM
  obtain ⟨_, hd⟩ := T.def "letter_mark" iLetM
  obtain ⟨_, he⟩ := T.dd.Word_sign
  obtain ⟨_, hg⟩ := T.dd.Word_parts
  exact ⟨_, _, _, _, _, _, ha, hb, hc, hd, he, hg⟩
end
end KV

set_option Elab.async false
set_option linter.all false
set_option maxRecDepth 100000
/-! # what a written dict holds, for a plain lookup -/
namespace VY
open PySem PySem.Spec PyProof.Rows L2 VX
theorem WDict.get {K : PySem.W.Frag} {w : World} {a : Addr} {kvs : List (Str × V)} (D : WDict K w a kvs) {z : Str} {v0 : V} (hm : (z, v0) ∈ kvs) : KDct K w a z v0 := by
  obtain ⟨es, n, hl, hp⟩ := D.ex
  have lit : ∀ {es : List DictEntry} {kvs : List (Str × V)}, Paired (fun (e : DictEntry) (q : Str × V) => (∃ t, e.key = .str q.1 t) ∧ e.hash = PyData.keyHash w.params q.1 ∧ RelV q.2 e.val) es kvs → PySem.W.KeysLit w.params es := by
    intro es kvs h
    induction h with
    | nil => trivial
    | cons h _ ih =>
      obtain ⟨⟨t, h1⟩, h2, _⟩ := h
      exact ⟨⟨_, t, h1, h2⟩, ih⟩
  have fnd : ∀ {es : List DictEntry} {kvs : List (Str × V)}, Paired (fun (e : DictEntry) (q : Str × V) => (∃ t, e.key = .str q.1 t) ∧ e.hash = PyData.keyHash w.params q.1 ∧ RelV q.2 e.val) es kvs → (kvs.map (·.1)).Nodup → (z, v0) ∈ kvs →
      ∃ e, es.find? (fun d => d.key.isStr z) = some e ∧ RelV v0 e.val := by
    intro es kvs h
    induction h with
    | nil => intro _ h; cases h
    | @cons e q es kvs h hr ih =>
      intro nd hm
      obtain ⟨⟨t, h1⟩, h2, h3⟩ := h
      have eis : e.key.isStr z = decide (z = q.1) := by
        rw [h1]
        show (q.1 == z) = decide (z = q.1)
        rw [Bool.eq_iff_iff, beq_iff_eq, decide_eq_true_eq]
        exact eq_comm
      rw [List.find?_cons, eis]
      rw [List.map_cons, List.nodup_cons] at nd
      rcases List.mem_cons.mp hm with hm | hm
      · cases hm
        rw [decide_eq_true rfl]
        exact ⟨e, rfl, h3⟩
      · have ne : z ≠ q.1 := fun e => nd.1 (by rw [← e]; exact List.mem_map.mpr ⟨_, hm, rfl⟩)
        rw [decide_eq_false ne]
        exact ih nd.2 hm
  obtain ⟨e, he, hv⟩ := fnd hp D.nd hm
  refine ⟨es, n, e.val, hl, lit hp, ?_, hv⟩
  unfold PySem.W.nsIn
  rw [hl]
  simp only [he]
end VY

set_option linter.all false
/-! # the dimension of a sum and of an intersection (plain mathematics, no Python) -/
namespace RX
open Classical in
/-- two lists without repetition, one the image of the other -/
theorem len_bij {α β : Type} {l : List α} {m : List β} (g : α → β) (nl : l.Nodup) (nm : m.Nodup) (inj : ∀ x ∈ l, ∀ y ∈ l, g x = g y → x = y) (to : ∀ x ∈ l, g x ∈ m) (on : ∀ y ∈ m, ∃ x ∈ l, g x = y) : l.length = m.length := by
  have n2 : (l.map g).Nodup := by
    refine List.pairwise_map.mpr (List.Pairwise.imp_of_mem ?_ nl)
    intro a b ha hb ne e
    exact ne (inj a ha b hb e)
  have : (l.map g).length = m.length := nodup_len n2 nm fun y => ⟨fun h => by
    obtain ⟨x, hx, rfl⟩ := List.mem_map.mp h
    exact to x hx, fun h => by
    obtain ⟨x, hx, rfl⟩ := on y h
    exact List.mem_map_of_mem hx⟩
  rwa [List.length_map] at this
def prod {α β : Type} (l : List α) (m : List β) : List (α × β) := l.flatMap fun a => m.map fun b => (a, b)
theorem mem_prod {α β : Type} {l : List α} {m : List β} {x : α × β} : x ∈ prod l m ↔ x.1 ∈ l ∧ x.2 ∈ m := by
  obtain ⟨a, b⟩ := x
  simp [prod]
theorem prod_len {α β : Type} (l : List α) (m : List β) : (prod l m).length = l.length * m.length := by
  induction l with
  | nil => simp [prod]
  | cons a l ih =>
    have : prod (a :: l) m = m.map (fun b => (a, b)) ++ prod l m := by simp [prod]
    rw [this, List.length_append, List.length_map, ih, List.length_cons, Nat.succ_mul, Nat.add_comm]
theorem prod_nodup {α β : Type} {l : List α} {m : List β} (hl : l.Nodup) (hm : m.Nodup) : (prod l m).Nodup := by
  induction l with
  | nil => exact List.nodup_nil
  | cons a l ih =>
    have : prod (a :: l) m = m.map (fun b => (a, b)) ++ prod l m := by simp [prod]
    rw [this]
    obtain ⟨h1, h2⟩ := List.nodup_cons.mp hl
    refine List.nodup_append.mpr ⟨?_, ih h2, ?_⟩
    · refine List.pairwise_map.mpr (hm.imp fun ne e => ne ?_)
      exact (Prod.mk.inj e).2
    · intro x hx y hy e
      subst e
      obtain ⟨b, _, rfl⟩ := List.mem_map.mp hx
      exact h1 (mem_prod.mp hy).1
section
variable {p : Int} {inv : Int → Int} {n : Nat} {b c : List (List Int)}
theorem addR_move {f g : Int} {n : Nat} {x m y : List Int} (I : Inv p inv) (hx : Row p n x) (hm : Row p n m) (hy : Row p n y) : addR p (addR p x 1 m) 1 (addR p y (-1) m) = addR p x 1 y := by
  have h0 := I.pos
  refine ext0 (by rw [addR_len (addR_len hx.1 hm.1) (addR_len hy.1 hm.1), addR_len hx.1 hy.1]) fun i _ => ?_
  rw [at0_addR (by rw [addR_len hx.1 hm.1, addR_len hy.1 hm.1]), at0_addR (by rw [hx.1, hm.1]), at0_addR (by rw [hy.1, hm.1]), at0_addR (by rw [hx.1, hy.1])]
  rw [Int.one_mul, Int.one_mul, Int.one_mul, ← Int.add_emod]
  congr 1
  omega
theorem addR_off {n : Nat} {x y : List Int} (I : Inv p inv) (hx : Row p n x) (hy : Row p n y) : addR p x 1 (addR p y (-1) x) = y := by
  refine ext0 (by rw [addR_len hx.1 (addR_len hy.1 hx.1), hy.1]) fun i _ => ?_
  rw [at0_addR (by rw [hx.1, addR_len hy.1 hx.1]), at0_addR (by rw [hy.1, hx.1]), Int.one_mul, Int.add_comm, emod_l]
  rw [show at0 y i + -1 * at0 x i + at0 x i = at0 y i by omega, hy.emod I.pos]
theorem addR_canc {n : Nat} {x y z : List Int} (I : Inv p inv) (hx : Row p n x) (hy : Row p n y) (hz : Row p n z) (e : addR p x 1 y = addR p x 1 z) : y = z := by
  refine ext0 (by rw [hy.1, hz.1]) fun i _ => ?_
  have h := congrArg (fun r => at0 r i) e
  simp only [at0_addR (show x.length = y.length by rw [hx.1, hy.1]), at0_addR (show x.length = z.length by rw [hx.1, hz.1]), Int.one_mul] at h
  have h1 := hy.emod I.pos i
  have h2 := hz.emod I.pos i
  have h3 : at0 y i % p = at0 z i % p := by
    have := congrArg (fun k => (k - at0 x i) % p) h
    simp only [Int.emod_sub_emod] at this
    rwa [show at0 x i + at0 y i - at0 x i = at0 y i by omega, show at0 x i + at0 z i - at0 x i = at0 z i by omega] at this
  rw [← h1, ← h2, h3]
theorem addR_swap {n : Nat} {x y v w : List Int} (I : Inv p inv) (hx : Row p n x) (hy : Row p n y) (hv : Row p n v) (hw : Row p n w) (e : addR p x 1 y = addR p v 1 w) : addR p x (-1) v = addR p w (-1) y := by
  refine ext0 (by rw [addR_len hx.1 hv.1, addR_len hw.1 hy.1]) fun i _ => ?_
  have h := congrArg (fun r => at0 r i) e
  simp only [at0_addR (show x.length = y.length by rw [hx.1, hy.1]), at0_addR (show v.length = w.length by rw [hv.1, hw.1]), Int.one_mul] at h
  rw [at0_addR (by rw [hx.1, hv.1]), at0_addR (by rw [hw.1, hy.1])]
  have := congrArg (fun k => (k - (at0 y i + at0 v i)) % p) h
  simp only [Int.emod_sub_emod] at this
  rwa [show at0 x i + at0 y i - (at0 y i + at0 v i) = at0 x i + -1 * at0 v i by omega, show at0 v i + at0 w i - (at0 y i + at0 v i) = at0 w i + -1 * at0 y i by omega] at this
open Classical in
/-- dim (b + c) + dim (b & c) = dim b + dim c -/
theorem sum_dim (I : Inv p inv) (R1 : Rref p n b) (R2 : Rref p n c) : (sumL inv p b c).length + (commonL inv p n b c).length = b.length + c.length := by
  have h0 := I.pos
  have R3 := sum_rref I R1 R2
  have R4 := common_rref I R1 R2
  have nd := fun (B : List (List Int)) (R : Rref p n B) => combos_nodup h0 B R
  have mem := fun (B : List (List Int)) (R : Rref p n B) (v : List Int) => combos_iff (p := p) (n := n) (b := B) h0 R.len v
  have ex : ∀ v, InS p n (sumL inv p b c) v → ∃ x y, InS p n b x ∧ InS p n c y ∧ v = addR p x 1 y := fun v i => (app_split h0 R1.len R2.len).mp ((sum_span I R1 R2 v).mp i)
  let X : List Int → List Int := fun v => if h : InS p n (sumL inv p b c) v then (ex v h).choose else []
  let Y : List Int → List Int := fun v => if h : InS p n (sumL inv p b c) v then (ex v h).choose_spec.choose else []
  have hX : ∀ v, InS p n (sumL inv p b c) v → InS p n b (X v) ∧ InS p n c (Y v) ∧ v = addR p (X v) 1 (Y v) := fun v h => by
    simp only [X, Y, dif_pos h]
    exact (ex v h).choose_spec.choose_spec
  have key : (prod (combos p n (sumL inv p b c)) (combos p n (commonL inv p n b c))).length = (prod (combos p n b) (combos p n c)).length := by
    refine len_bij (fun vm => (addR p (X vm.1) 1 vm.2, addR p (Y vm.1) (-1) vm.2)) (prod_nodup (nd _ R3) (nd _ R4)) (prod_nodup (nd _ R1) (nd _ R2)) ?_ ?_ ?_
    · rintro ⟨v, m⟩ hx ⟨v', m'⟩ hy e
      obtain ⟨h1, h2⟩ := mem_prod.mp hx
      obtain ⟨h3, h4⟩ := mem_prod.mp hy
      rw [mem _ R3] at h1 h3
      rw [mem _ R4] at h2 h4
      obtain ⟨e1, e2⟩ := Prod.mk.inj e
      obtain ⟨x1, y1, z1⟩ := hX v h1
      obtain ⟨x2, y2, z2⟩ := hX v' h3
      have rm := h2.row h0 R4.len
      have rm' := h4.row h0 R4.len
      have rx := x1.row h0 R1.len
      have ry := y1.row h0 R2.len
      have rx' := x2.row h0 R1.len
      have ry' := y2.row h0 R2.len
      have ev : v = v' := by
        rw [z1, z2, ← addR_move (f := 0) (g := 0) I rx rm ry, ← addR_move (f := 0) (g := 0) I rx' rm' ry']
        have e1' : addR p (X v) 1 m = addR p (X v') 1 m' := e1
        have e2' : addR p (Y v) (-1) m = addR p (Y v') (-1) m' := e2
        rw [e1', e2']
      subst ev
      exact congrArg (Prod.mk v) (addR_canc I rx rm rm' e1)
    · rintro ⟨v, m⟩ hx
      obtain ⟨h1, h2⟩ := mem_prod.mp hx
      rw [mem _ R3] at h1
      rw [mem _ R4, common_span I R1 R2] at h2
      obtain ⟨x1, y1, z1⟩ := hX v h1
      exact mem_prod.mpr ⟨(mem _ R1 _).mpr (x1.comb h0 R1.len h2.1), (mem _ R2 _).mpr (y1.comb h0 R2.len h2.2)⟩
    · rintro ⟨x, y⟩ hxy
      obtain ⟨h1, h2⟩ := mem_prod.mp hxy
      rw [mem _ R1] at h1
      rw [mem _ R2] at h2
      have hv : InS p n (sumL inv p b c) (addR p x 1 y) := (sum_span I R1 R2 _).mpr ((app_split h0 R1.len R2.len).mpr ⟨x, y, h1, h2, rfl⟩)
      obtain ⟨x1, y1, z1⟩ := hX _ hv
      have rx := h1.row h0 R1.len
      have ry := h2.row h0 R2.len
      have rx' := x1.row h0 R1.len
      have ry' := y1.row h0 R2.len
      have em := addR_swap I rx ry rx' ry' z1
      have m1 : InS p n b (addR p x (-1) (X (addR p x 1 y))) := h1.comb h0 R1.len x1
      have m2 : InS p n c (addR p x (-1) (X (addR p x 1 y))) := by rw [em]; exact y1.comb h0 R2.len h2
      refine ⟨(addR p x 1 y, addR p x (-1) (X (addR p x 1 y))), mem_prod.mpr ⟨(mem _ R3 _).mpr hv, (mem _ R4 _).mpr ((common_span I R1 R2 _).mpr ⟨m1, m2⟩)⟩, ?_⟩
      refine Prod.ext (addR_off I rx' rx) ?_
      show addR p (Y (addR p x 1 y)) (-1) (addR p x (-1) (X (addR p x 1 y))) = y
      rw [em]
      refine ext0 (by rw [addR_len ry'.1 (addR_len ry'.1 ry.1), ry.1]) fun i _ => ?_
      rw [at0_addR (by rw [ry'.1, addR_len ry'.1 ry.1]), at0_addR (by rw [ry'.1, ry.1]), emod_m]
      rw [show at0 (Y (addR p x 1 y)) i + -1 * (at0 (Y (addR p x 1 y)) i + -1 * at0 y i) = at0 y i by omega, ry.emod h0]
  rw [prod_len, prod_len, combos_length, combos_length, combos_length, combos_length, ← Nat.pow_add, ← Nat.pow_add] at key
  exact (Nat.pow_right_inj (by have := I.two; omega)).mp key
end
end RX

set_option linter.all false
/-! # a plane's second vector (plain mathematics, no Python) -/
namespace RX
section
variable {p : Int} {inv : Int → Int} {n : Nat} {B C : List (List Int)}
theorem in_double (h0 : 0 < p) (hB : Len n B) {b : List Int} (i : InS p n B b) : InS p (n + n) (B.map fun r => r ++ r) (b ++ b) := by
  induction i with
  | zero => rw [rep_add]; exact .zero
  | @add v r f i hr ih =>
    have lv := (i.row h0 hB).1
    have lr := hB r hr
    rw [← addR_app (by rw [lv, lr])]
    exact .add f ih (List.mem_map_of_mem (f := fun r => r ++ r) hr)
theorem in_single2 (h0 : 0 < p) (hC : Len n C) {c : List Int} (i : InS p n C c) : InS p (n + n) (C.map fun r => r ++ zer n) (c ++ zer n) := by
  induction i with
  | zero => rw [show (List.replicate n (0 : Int)) ++ zer n = List.replicate (n + n) 0 from rep_add]; exact .zero
  | @add v r f i hr ih =>
    have lv := (i.row h0 hC).1
    have lr := hC r hr
    have e : addR p v f r ++ zer n = addR p (v ++ zer n) f (r ++ zer n) := by
      rw [addR_app (by rw [lv, lr])]
      congr 1
      rw [zer, addR_rep h0 (zero_row h0)]
    rw [e]
    exact .add f ih (List.mem_map_of_mem (f := fun r => r ++ zer n) hr)
def twoRows (n : Nat) (B C : List (List Int)) : List (List Int) := (B.map fun r => r ++ r) ++ C.map fun r => r ++ zer n
/-- the second vector of a plane whose first is v -/
def prt (inv : Int → Int) (p : Int) (n : Nat) (B C : List (List Int)) (v : List Int) : List Int := (restOf p (reduced inv p (twoRows n B C)) (v ++ zer n)).drop n
theorem two_rows (I : Inv p inv) (hB : Rref p n B) (hC : Rref p n C) : ∀ r ∈ twoRows n B C, Row p (n + n) r := fun r m => by
  rcases List.mem_append.mp m with m | m
  · obtain ⟨s, hs, rfl⟩ := List.mem_map.mp m
    exact (hB.rows s hs).app (hB.rows s hs)
  · obtain ⟨s, hs, rfl⟩ := List.mem_map.mp m
    exact (hC.rows s hs).app (zero_row I.pos)
theorem take_addR {f : Int} {v r : List Int} : (addR p v f r).take n = addR p (v.take n) f (r.take n) := by
  unfold addR
  rw [List.take_zipWith]
theorem rest_low : ∀ (l : List (List Int)) (r : List Int), (∀ o ∈ l, o.length = n + n) → r.length = n + n → (∀ i, i < n → at0 r i = 0) → ∀ i, i < n → at0 (restOf p l r) i = 0
  | [], _, _, _, h => h
  | o :: l, r, hl, hr, h => by
    have lo := hl o (.head _)
    show ∀ i, i < n → at0 (restOf p l (if at0 r (lead o) = 0 then r else addR p r (-at0 r (lead o)) o)) i = 0
    split
    · exact rest_low l r (fun o m => hl o (.tail _ m)) hr h
    · rename_i e
      refine rest_low l _ (fun o m => hl o (.tail _ m)) (addR_len hr lo) fun i hi => ?_
      have : n ≤ lead o := Nat.le_of_not_lt fun q => e (h _ q)
      rw [at0_addR (by rw [hr, lo]), h i hi, lead_zero (r := o) (by omega)]
      simp
/-- what the reducing keeps: the second half in B, the first less v and less the second in C -/
def Kp (p : Int) (n : Nat) (B C : List (List Int)) (v r : List Int) : Prop := Row p (n + n) r ∧ ∃ b c, InS p n B b ∧ InS p n C c ∧ r = addR p (addR p v 1 b) 1 c ++ b
theorem kp_rest (I : Inv p inv) (hB : Rref p n B) (hC : Rref p n C) {v : List Int} (hv : Row p n v) : ∀ (l : List (List Int)) (r : List Int), (∀ o ∈ l, InS p (n + n) (twoRows n B C) o) → Kp p n B C v r → Kp p n B C v (restOf p l r)
  | [], _, _, h => h
  | o :: l, r, hl, h => by
    show Kp p n B C v (restOf p l (if at0 r (lead o) = 0 then r else addR p r (-at0 r (lead o)) o))
    split
    · exact kp_rest I hB hC hv l r (fun o m => hl o (.tail _ m)) h
    · refine kp_rest I hB hC hv l _ (fun o m => hl o (.tail _ m)) ?_
      generalize -at0 r (lead o) = f
      obtain ⟨hr, b, c, ib, ic, e⟩ := h
      obtain ⟨b', c', ib', ic', e'⟩ := pairs_of I.pos hB.len hC.len (hl o (.head _))
      have lb := (ib.row I.pos hB.len).1
      have lc := (ic.row I.pos hC.len).1
      have lb' := (ib'.row I.pos hB.len).1
      have lc' := (ic'.row I.pos hC.len).1
      have lo : o.length = n + n := by rw [e', List.length_append, addR_len lb' lc', lb']
      refine ⟨addR_row I.pos hr.1 lo, addR p b f b', addR p c f c', ib.comb I.pos hB.len ib', ic.comb I.pos hC.len ic', ?_⟩
      have l1 : (addR p v 1 b).length = n := addR_len hv.1 lb
      have l2 : (addR p (addR p v 1 b) 1 c).length = n := addR_len l1 lc
      rw [e, e', addR_app (by rw [l2, addR_len lb' lc'])]
      congr 1
      rw [addR_assoc l2 lb' lc', Int.mul_one, addR_assoc hv.1 lb lb', Int.one_mul, addR_assoc (addR_len (addR_len hv.1 lb) lb') lc lc', Int.one_mul, addR_comm (addR_len hv.1 lb) lc lb']
theorem kp_start (I : Inv p inv) {v : List Int} (hv : Row p n v) : Kp p n B C v (v ++ zer n) :=
  ⟨hv.app (zero_row I.pos), zer n, zer n, .zero, .zero, by rw [show zer n = List.replicate n 0 from rfl, addR_rep I.pos hv, addR_rep I.pos hv]⟩
/-- v within B + C: its partner lies in B, and with v in C -/
theorem prt_ok (I : Inv p inv) (hB : Rref p n B) (hC : Rref p n C) {v : List Int} (hv : InS p n (B ++ C) v) : InS p n B (prt inv p n B C v) ∧ InS p n C (addR p v 1 (prt inv p n B C v)) := by
  have rv : Row p n v := hv.row I.pos fun r m => (app_rows hB hC r m).1
  have TR := two_rows I hB hC
  have D := reduced_ok I TR
  have inD := fun o (ho : o ∈ reduced inv p (twoRows n B C)) => (reduced_span I TR o).mp (InS.self I.two (D.rows o ho) ho)
  obtain ⟨hr, b, c, ib, ic, e⟩ := kp_rest I hB hC rv (reduced inv p (twoRows n B C)) (v ++ zer n) inD (kp_start I rv)
  have zl := (D.rest I.pos (rv.app (zero_row I.pos) : Row p (n + n) (v ++ zer n))).2
  unfold prt
  generalize restOf p (reduced inv p (twoRows n B C)) (v ++ zer n) = r at hr e zl ⊢
  have lb := (ib.row I.pos hB.len).1
  have lc := (ic.row I.pos hC.len).1
  have lt : (addR p (addR p v 1 b) 1 c).length = n := addR_len (addR_len rv.1 lb) lc
  have er : r.drop n = b := by rw [e, List.drop_append_of_le_length (by omega), List.drop_of_length_le (by omega), List.nil_append]
  rw [er]
  refine ⟨ib, ?_⟩
  -- the first half lies in B + C
  have h1 : InS p n (B ++ C) (addR p (addR p v 1 b) 1 c) := by
    have lBC : Len n (B ++ C) := fun r m => (app_rows hB hC r m).1
    exact (hv.comb I.pos lBC (ib.mono fun r m => List.mem_append_left _ m)).comb I.pos lBC (ic.mono fun r m => List.mem_append_right _ m)
  -- and is zero
  have hz : addR p (addR p v 1 b) 1 c = List.replicate n 0 := by
    refine Classical.byContradiction fun ne => ?_
    obtain ⟨x, y, ix, iy, exy⟩ := (app_split I.pos hB.len hC.len).mp h1
    have lx := (ix.row I.pos hB.len).1
    have ly := (iy.row I.pos hC.len).1
    have iw : InS p (n + n) (twoRows n B C) (addR p x 1 y ++ x) := by
      have q := ((in_double I.pos hB.len ix).mono fun r m => List.mem_append_left (C.map fun r => r ++ zer n) m).comb (f := 1) I.pos (fun r m => (TR r m).1) ((in_single2 I.pos hC.len iy).mono fun r m => List.mem_append_right (B.map fun r => r ++ r) m)
      rw [addR_app (by rw [lx, ly]), show zer n = List.replicate n 0 from rfl, addR_rep I.pos (ix.row I.pos hB.len)] at q
      exact q
    have iw := (reduced_span I TR _).mpr iw
    rw [← exy] at iw
    generalize addR p (addR p v 1 b) 1 c = u at *
    have hu : lead u < u.length := by
      refine Nat.lt_of_le_of_ne lead_le fun q => ne ?_
      refine ext0 (by rw [lt]; simp) fun i _ => ?_
      rw [lead_out q, at0_rep]
    have nz : u ++ x ≠ List.replicate (n + n) 0 := fun q => by
      have := lead_ne hu
      rw [← at0_app_l (s := x) hu, q, at0_rep] at this
      exact this rfl
    obtain ⟨o, ho, el⟩ := lead_in I.pos _ D _ iw nz
    have z := zl o ho
    rw [← el, lead_app_l hu, e, at0_app_l hu] at z
    exact lead_ne hu z
  -- so v + b = -c
  have e2 : addR p v 1 b = scale p (-1) c := by
    have lvb : (addR p v 1 b).length = n := addR_len rv.1 lb
    have rvb : Row p n (addR p v 1 b) := addR_row I.pos rv.1 lb
    have k : addR p (addR p (addR p v 1 b) 1 c) (-1) c = addR p v 1 b := by
      have := addR_back (p := p) (f := -1) I.pos rvb lc
      rw [Int.neg_neg] at this
      exact this
    rw [hz, zero_add lc] at k
    exact k.symm
  rw [e2]
  exact ic.scale I.pos hC.len
end
end RX

set_option linter.all false
/-! # what holds on the kinds on which some facts hold, holds in every triple where these facts hold (plain mathematics, no Python) -/
namespace DX
open KW
variable {M : Type} {S : VS M} {V A B C : M → Prop}
/-- some facts hold -/
def Near (S : VS M) (F : List (Tr × Tr)) (V A B C : M → Prop) : Prop := ∀ q ∈ F, ∀ v, valP S V A B C q.1 v → valP S V A B C q.2 v
/-- within on all kinds where the facts hold -/
structure LeF (F : List (Tr × Tr)) (t u : Tr) : Prop where
  ht : WF t = true
  hu : WF u = true
  hF : ∀ q ∈ F, WF q.1 = true ∧ WF q.2 = true
  l : ∀ k ∈ K8, (∀ q ∈ F, isW (mk k q.1) (mk k q.2) = true) → isW (mk k t) (mk k u) = true
  p : (∀ q ∈ F, isW (mk PL q.1) (mk PL q.2) = true) → isW (mk PL t) (mk PL u) = true
variable {F : List (Tr × Tr)} {r : M → M}
theorem near_fix (K : Cut S V A B C r) (T : Trip S V A B C) (N : Near S F V A B C) : Near S F (fixd r V) (fixd r A) (fixd r B) (fixd r C) := fun q hq v hv => by
  have e : r v = v := (val_in (K.fix T) q.1 hv).2
  have z : lft S r v = S.z := by unfold lft; rw [e]; exact S.self v
  have h := N q hq v ((split K T q.1 v).mpr ⟨by rw [e]; exact hv, by rw [z]; exact (val_sub (K.kill T) q.1).z⟩)
  have := ((split K T q.2 v).mp h).1
  rwa [e] at this
theorem near_kill (K : Cut S V A B C r) (T : Trip S V A B C) (N : Near S F V A B C) : Near S F (kill S r V) (kill S r A) (kill S r B) (kill S r C) := fun q hq v hv => by
  have e : r v = S.z := (val_in (K.kill T) q.1 hv).2
  have z : lft S r v = v := by unfold lft; rw [e]; exact S.zer v _
  have h := N q hq v ((split K T q.1 v).mpr ⟨by rw [e]; exact (val_sub (K.fix T) q.1).z, by rw [z]; exact hv⟩)
  have := ((split K T q.2 v).mp h).2
  rwa [z] at this
theorem near_line {X : M → Prop} {x : M} {k : List Nat} (T : Trip S X A B C) (L : Line S X A B C x k) {s t : Tr} (hs : WF s = true) (ht : WF t = true) (h : ∀ v, valP S X A B C s v → valP S X A B C t v) : isW (mk k s) (mk k t) = true := by
  have a := mk_bit L.np hs
  have b := mk_bit L.np ht
  have c : mk k s = 49 → mk k t = 49 := fun e => ((line_val T L t ht x L.mem).mp (h x ((line_val T L s hs x L.mem).mpr (.inr e)))).resolve_left L.nz
  simp only [isW, Bool.or_eq_true, beq_iff_eq]
  omega
theorem near_plane {X : M → Prop} (T : Trip S X A B C) (P : Plane S X A B C) {w : M} (hw : X w) (nw : w ≠ S.z) {s t : Tr} (hs : WF s = true) (ht : WF t = true) (h : ∀ v, valP S X A B C s v → valP S X A B C t v) : isW (mk PL s) (mk PL t) = true := by
  have h' : ∀ v, lineOf S X A B C (mk PL s) v → lineOf S X A B C (mk PL t) v := fun v i => (plane_val T P t ht v).mp (h v ((plane_val T P s hs v).mpr i))
  have za : ¬∀ v, A v → v = S.z := fun z => nw (by
    obtain ⟨a1, b1, x1, y1, e1⟩ := P.sab hw
    obtain ⟨a2, c2, x2, y2, e2⟩ := P.sac hw
    rw [z a1 x1, S.one] at e1
    rw [z a2 x2, S.one] at e2
    exact P.bc (e1 ▸ y1) (e2 ▸ y2))
  have zb : ¬∀ v, B v → v = S.z := fun z => nw (by
    obtain ⟨a1, b1, x1, y1, e1⟩ := P.sab hw
    obtain ⟨a2, c2, x2, y2, e2⟩ := P.sbc hw
    rw [z b1 y1, S.zer] at e1
    rw [z a2 x2, S.one] at e2
    exact P.ac (e1 ▸ x1) (e2 ▸ y2))
  have zc : ¬∀ v, C v → v = S.z := fun z => nw (by
    obtain ⟨a1, b1, x1, y1, e1⟩ := P.sac hw
    obtain ⟨a2, c2, x2, y2, e2⟩ := P.sbc hw
    rw [z b1 y1, S.zer] at e1
    rw [z c2 y2, S.zer] at e2
    exact P.ab (e1 ▸ x1) (e2 ▸ x2))
  have zX : ¬∀ v, X v → v = S.z := fun z => nw (z w hw)
  have ab : ¬∀ v, A v → B v := fun z => za fun v i => P.ab i (z v i)
  have ac : ¬∀ v, A v → C v := fun z => za fun v i => P.ac i (z v i)
  have ba : ¬∀ v, B v → A v := fun z => zb fun v i => P.ab (z v i) i
  have bc : ¬∀ v, B v → C v := fun z => zb fun v i => P.bc i (z v i)
  have ca : ¬∀ v, C v → A v := fun z => zc fun v i => P.ac (z v i) i
  have cb : ¬∀ v, C v → B v := fun z => zc fun v i => P.bc (z v i) i
  have Xa : ¬∀ v, X v → A v := fun z => ba fun v i => z v (T.bv i)
  have Xb : ¬∀ v, X v → B v := fun z => ab fun v i => z v (T.av i)
  have Xc : ¬∀ v, X v → C v := fun z => ac fun v i => z v (T.av i)
  rcases five_cases (mk_five (k := PL) hs) with es | es | es | es | es <;> rcases five_cases (mk_five (k := PL) ht) with et | et | et | et | et <;>
    rw [es, et] at h' <;> rw [es, et] <;> first
    | decide
    | (exfalso; first | exact za h' | exact zb h' | exact zc h' | exact zX h' | exact ab h' | exact ac h' | exact ba h' | exact bc h' | exact ca h' | exact cb h' | exact Xa h' | exact Xb h' | exact Xc h')
theorem stepF {f : M → Int} {x : M} (T : Trip S V A B C) (L : Lin S f) (hx : V x) (f1 : f x = 1) (ha : A x ∨ ∀ v, A v → f v = 0) (hb : B x ∨ ∀ v, B v → f v = 0) (hc : C x ∨ ∀ v, C v → f v = 0)
    {t u : Tr} (h9 : LeF F t u) (N : Near S F V A B C) (ih : ∀ {V' A' B' C' : M → Prop}, Trip S V' A' B' C' → Near S F V' A' B' C' → cnt S V' < cnt S V → ∀ v, valP S V' A' B' C' t v → valP S V' A' B' C' u v) (v : M) (hv : valP S V A B C t v) : valP S V A B C u v := by
  have K := off_cut T L hx f1 ha hb hc
  have rx : off S f x x = S.z := by unfold off; rw [f1]; exact S.self x
  have nz : x ≠ S.z := fun e => by rw [e, L.z] at f1; cases f1
  obtain ⟨k, hk, ka, kb, kc⟩ := pick8 (kill S (off S f x) A x) (kill S (off S f x) B x) (kill S (off S f x) C x)
  have LN : Line S (kill S (off S f x) V) (kill S (off S f x) A) (kill S (off S f x) B) (kill S (off S f x) C) x k :=
    ⟨⟨hx, rx⟩, nz, fun {v} h => ⟨f v, by
      have e : S.c (off S f x v) (f v) x = v := S.back'
      rw [h.2] at e
      exact e.symm⟩, K8_np k hk, ka, kb, kc⟩
  have s := (split K T t v).mp hv
  refine (split K T u v).mpr ⟨ih (K.fix T) (near_fix K T N) ?_ _ s.1, ?_⟩
  · exact cnt_lt (fun v h => h.1) hx fun h => nz (h.2.symm.trans rx)
  · have hX := val_in (K.kill T) t s.2
    refine (line_val (K.kill T) LN u h9.hu _ hX).mpr ?_
    exact ((line_val (K.kill T) LN t h9.ht _ hX).mp s.2).imp id (le49 (h9.l k hk fun q hq => near_line (K.kill T) LN (h9.hF q hq).1 (h9.hF q hq).2 (near_kill K T N q hq)))
/-- what holds on the kinds of the facts holds where the facts hold -/
theorem mainF {t u : Tr} (h9 : LeF F t u) : ∀ (N : Nat) {V A B C : M → Prop}, Trip S V A B C → Near S F V A B C → cnt S V ≤ N → ∀ v, valP S V A B C t v → valP S V A B C u v := by
  intro N
  induction N with
  | zero =>
    intro V A B C T NF hN v hv
    have := cnt_lt (S := S) (A := fun _ => False) (B := V) (fun _ h => h.elim) T.v.z id
    omega
  | succ N ih =>
    intro V A B C T NF hN v hv
    have ih' : ∀ {V' A' B' C' : M → Prop}, Trip S V' A' B' C' → Near S F V' A' B' C' → cnt S V' < cnt S V → ∀ v, valP S V' A' B' C' t v → valP S V' A' B' C' u v := fun T' NF' lt => ih T' NF' (by omega)
    have go : ∀ {U : M → Prop} {x : M}, Sub S U → V x → ¬U x → (A x ∨ ∀ v, A v → U v) → (B x ∨ ∀ v, B v → U v) → (C x ∨ ∀ v, C v → U v) → valP S V A B C u v := fun {U x} hU hx nx a b c => by
      obtain ⟨f, L, f0, f1⟩ := form hU nx
      exact stepF T L hx f1 (a.imp id fun h v d => f0 v (h v d)) (b.imp id fun h v d => f0 v (h v d)) (c.imp id fun h v d => f0 v (h v d)) h9 NF ih' v hv
    have sAB := sum_sub T.a T.b
    have sAC := sum_sub T.a T.c
    have sBC := sum_sub T.b T.c
    by_cases c1 : ∃ x, V x ∧ ¬sumP S (sumP S A B) C x
    · obtain ⟨x, hx, nx⟩ := c1
      exact go (sum_sub sAB T.c) hx nx (.inr fun v d => in_l T.c (in_l T.b d)) (.inr fun v d => in_l T.c (in_r T.a d)) (.inr fun v d => in_r sAB d)
    by_cases c2 : ∃ x, A x ∧ ¬sumP S B C x
    · obtain ⟨x, hx, nx⟩ := c2
      exact go sBC (T.av hx) nx (.inl hx) (.inr fun v d => in_l T.c d) (.inr fun v d => in_r T.b d)
    by_cases c3 : ∃ x, B x ∧ ¬sumP S A C x
    · obtain ⟨x, hx, nx⟩ := c3
      exact go sAC (T.bv hx) nx (.inr fun v d => in_l T.c d) (.inl hx) (.inr fun v d => in_r T.a d)
    by_cases c4 : ∃ x, C x ∧ ¬sumP S A B x
    · obtain ⟨x, hx, nx⟩ := c4
      exact go sAB (T.cv hx) nx (.inr fun v d => in_l T.b d) (.inr fun v d => in_r T.a d) (.inl hx)
    by_cases c5 : ∃ x, (A x ∧ B x) ∧ ¬C x
    · obtain ⟨x, ⟨hx, hy⟩, nx⟩ := c5
      exact go T.c (T.av hx) nx (.inl hx) (.inl hy) (.inr fun v d => d)
    by_cases c6 : ∃ x, (A x ∧ C x) ∧ ¬B x
    · obtain ⟨x, ⟨hx, hy⟩, nx⟩ := c6
      exact go T.b (T.av hx) nx (.inl hx) (.inr fun v d => d) (.inl hy)
    by_cases c7 : ∃ x, (B x ∧ C x) ∧ ¬A x
    · obtain ⟨x, ⟨hx, hy⟩, nx⟩ := c7
      exact go T.a (T.bv hx) nx (.inr fun v d => d) (.inl hx) (.inl hy)
    by_cases c8 : ∃ x, (A x ∧ B x ∧ C x) ∧ ¬x = S.z
    · obtain ⟨x, ⟨hx, hy, hz⟩, nx⟩ := c8
      exact go zero_sub (T.av hx) nx (.inl hx) (.inl hy) (.inl hz)
    have d1 : ∀ x, V x → sumP S (sumP S A B) C x := fun x h => Classical.byContradiction fun n => c1 ⟨x, h, n⟩
    have d2 : ∀ x, A x → sumP S B C x := fun x h => Classical.byContradiction fun n => c2 ⟨x, h, n⟩
    have d3 : ∀ x, B x → sumP S A C x := fun x h => Classical.byContradiction fun n => c3 ⟨x, h, n⟩
    have d4 : ∀ x, C x → sumP S A B x := fun x h => Classical.byContradiction fun n => c4 ⟨x, h, n⟩
    have d5 : ∀ x, A x → B x → C x := fun x h h' => Classical.byContradiction fun n => c5 ⟨x, ⟨h, h'⟩, n⟩
    have d6 : ∀ x, A x → C x → B x := fun x h h' => Classical.byContradiction fun n => c6 ⟨x, ⟨h, h'⟩, n⟩
    have d7 : ∀ x, B x → C x → A x := fun x h h' => Classical.byContradiction fun n => c7 ⟨x, ⟨h, h'⟩, n⟩
    have d8 : ∀ x, A x → B x → C x → x = S.z := fun x h h' h'' => Classical.byContradiction fun n => c8 ⟨x, ⟨h, h', h''⟩, n⟩
    have P : Plane S V A B C := by
      refine ⟨fun a b => d8 _ a b (d5 _ a b), fun a c => d8 _ a (d6 _ a c) c, fun b c => d8 _ (d7 _ b c) b c, fun {v} h => ?_, fun {v} h => ?_, fun {v} h => ?_⟩
      · obtain ⟨s, c, ⟨a, b, ha, hb, rfl⟩, hc, rfl⟩ := d1 v h
        exact sAB.c ⟨a, b, ha, hb, rfl⟩ (d4 c hc)
      · obtain ⟨s, c, ⟨a, b, ha, hb, rfl⟩, hc, rfl⟩ := d1 v h
        exact sAC.c (sAC.c (in_l T.c ha) (d3 b hb)) (in_r T.a hc)
      · obtain ⟨s, c, ⟨a, b, ha, hb, rfl⟩, hc, rfl⟩ := d1 v h
        exact sBC.c (sBC.c (d2 a ha) (in_l T.c hb)) (in_r T.b hc)
    by_cases zv : v = S.z
    · rw [zv]
      exact (val_sub T u).z
    · have hV := val_in T t hv
      refine (plane_val T P u h9.hu v).mpr ?_
      exact line_mono T (mk_five h9.hu) (h9.p fun q hq => near_plane T P hV zv (h9.hF q hq).1 (h9.hF q hq).2 (NF q hq)) ((plane_val T P t h9.ht v).mp hv)
/-- within on a triple cut in two: within on both -/
theorem cut_iff (K : Cut S V A B C r) (T : Trip S V A B C) {s t : Tr} : (∀ v, valP S V A B C s v → valP S V A B C t v) ↔
    (∀ v, valP S (fixd r V) (fixd r A) (fixd r B) (fixd r C) s v → valP S (fixd r V) (fixd r A) (fixd r B) (fixd r C) t v) ∧ ∀ v, valP S (kill S r V) (kill S r A) (kill S r B) (kill S r C) s v → valP S (kill S r V) (kill S r A) (kill S r B) (kill S r C) t v := by
  constructor
  · intro h
    have N : Near S [(s, t)] V A B C := fun q hq => by
      obtain rfl := List.mem_singleton.mp hq
      exact h
    exact ⟨near_fix K T N (s, t) (List.mem_singleton.mpr rfl), near_kill K T N (s, t) (List.mem_singleton.mpr rfl)⟩
  · intro h v hv
    have k := (split K T s v).mp hv
    exact (split K T t v).mpr ⟨h.1 _ k.1, h.2 _ k.2⟩
theorem line_iff {X : M → Prop} {x : M} {k : List Nat} (T : Trip S X A B C) (L : Line S X A B C x k) {s t : Tr} (hs : WF s = true) (ht : WF t = true) : (∀ v, valP S X A B C s v → valP S X A B C t v) ↔ isW (mk k s) (mk k t) = true :=
  ⟨near_line T L hs ht, fun h v hv => by
    have hX := val_in T s hv
    exact (line_val T L t ht v hX).mpr (((line_val T L s hs v hX).mp hv).imp id (le49 h))⟩
theorem plane_iff {X : M → Prop} (T : Trip S X A B C) (P : Plane S X A B C) {w : M} (hw : X w) (nw : w ≠ S.z) {s t : Tr} (hs : WF s = true) (ht : WF t = true) : (∀ v, valP S X A B C s v → valP S X A B C t v) ↔ isW (mk PL s) (mk PL t) = true :=
  ⟨near_plane T P hw nw hs ht, fun h v hv => (plane_val T P t ht v).mpr (line_mono T (mk_five ht) h ((plane_val T P s hs v).mp hv))⟩
end DX
namespace RX
open KW
theorem words_leF {p : Int} {inv : Int → Int} {n : Nat} {W A B C : List (List Int)} {F : List (Tr × Tr)} (I : Inv p inv) (hW : ∀ v, Row p n v → InS p n W v) (RW : Rref p n W) (RA : Rref p n A) (RB : Rref p n B) (RC : Rref p n C) {t u : Tr} (h : DX.LeF F t u)
    (near : ∀ q ∈ F, ∀ v, InS p n (valI inv p n W A B C q.1) v → InS p n (valI inv p n W A B C q.2) v) : ∀ v, InS p n (valI inv p n W A B C t) v → InS p n (valI inv p n W A B C u) v := fun v i => by
  have r := i.row I.pos (valI_rref I RW RA RB RC t).len
  have T := trip_of I hW RW RA RB RC
  have N : DX.Near (rowVS I n) F (inP W) (inP A) (inP B) (inP C) := fun q hq w hw => (valI_iff I RW RA RB RC q.2 w).mp (near q hq w.1 ((valI_iff I RW RA RB RC q.1 w).mpr hw))
  exact (valI_iff I RW RA RB RC u ⟨v, r⟩).mpr (DX.mainF h _ T N (Nat.le_refl _) ⟨v, r⟩ ((valI_iff I RW RA RB RC t ⟨v, r⟩).mp i))
end RX

set_option linter.all false
/-! # a triple made of kinds, one after the other: within there is within on each of them (plain mathematics, no Python) -/
namespace RX
open KW
variable {p : Int} {inv : Int → Int} {n : Nat}
/-- all before place a is zero -/
def From (a : Nat) (v : List Int) : Prop := ∀ i, i < a → at0 v i = 0
/-- all before place a made zero -/
def zeroTo (a : Nat) (v : List Int) : List Int := List.replicate (min a v.length) 0 ++ v.drop a
theorem zeroTo_len {a : Nat} {v : List Int} : (zeroTo a v).length = v.length := by
  simp only [zeroTo, List.length_append, List.length_replicate, List.length_drop]
  omega
theorem at0_zeroTo {a : Nat} {v : List Int} (i : Nat) : at0 (zeroTo a v) i = if i < a then 0 else at0 v i := by
  unfold zeroTo
  by_cases h : i < min a v.length
  · rw [at0_app_l (by simp; omega), at0_rep, if_pos (by omega)]
  · by_cases g : v.length ≤ i
    · rw [at0_out (by simp; omega), at0_out g]
      simp
    · have e := at0_app_r (r := List.replicate (min a v.length) (0 : Int)) (s := v.drop a) (i - min a v.length)
      rw [List.length_replicate, show min a v.length + (i - min a v.length) = i by omega] at e
      rw [e, at0_drop, if_neg (by omega)]
      congr 1
      omega
theorem zeroTo_row {a : Nat} {v : List Int} (h0 : 0 < p) (h : Row p n v) : Row p n (zeroTo a v) := ⟨by rw [zeroTo_len, h.1], fun x hx => by
  unfold zeroTo at hx
  rcases List.mem_append.mp hx with m | m
  · rw [List.eq_of_mem_replicate m]; omega
  · exact h.2 x (List.mem_of_mem_drop m)⟩
theorem zeroTo_add {a : Nat} {f : Int} {v u : List Int} (h0 : 0 < p) (hv : Row p n v) (hu : Row p n u) : zeroTo a (addR p v f u) = addR p (zeroTo a v) f (zeroTo a u) := by
  refine ext0 (by rw [zeroTo_len, addR_len hv.1 hu.1, addR_len (by rw [zeroTo_len, hv.1]) (by rw [zeroTo_len, hu.1])]) fun i _ => ?_
  rw [at0_zeroTo, at0_addR (by rw [hv.1, hu.1]), at0_addR (by rw [zeroTo_len, zeroTo_len, hv.1, hu.1]), at0_zeroTo, at0_zeroTo]
  split
  · simp
  · rfl
theorem zeroTo_from {a : Nat} {v : List Int} (h : From a v) : zeroTo a v = v := ext0 zeroTo_len fun i _ => by
  rw [at0_zeroTo]
  split
  · rw [h i ‹_›]
  · rfl
theorem from_zeroTo {a : Nat} {v : List Int} : From a (zeroTo a v) := fun i hi => by rw [at0_zeroTo, if_pos hi]
theorem from_sub (I : Inv p inv) (a : Nat) : DX.Sub (rowVS I n) fun v => From a v.1 :=
  ⟨fun i _ => at0_rep, fun {v f u} hv hu i hi => by
    show at0 (addR p v.1 f u.1) i = 0
    rw [at0_addR (by rw [v.2.1, u.2.1]), hv i hi, hu i hi]
    simp⟩
/-- the cut behind a place -/
noncomputable def cutAt (h0 : 0 < p) (a : Nat) (v : Rw p n) : Rw p n := ⟨zeroTo a v.1, zeroTo_row h0 v.2⟩
/-- a span of two parts, the second behind the place, the first before it: cut there -/
theorem cut_hand (I : Inv p inv) {a : Nat} {b c : List (List Int)} (hb : Len n b) (hc : Len n c) (zb : ∀ r ∈ b, zeroTo a r = List.replicate n 0) (fc : ∀ r ∈ c, From a r) {v : List Int} (i : InS p n (b ++ c) v) : InS p n c (zeroTo a v) := by
  have h0 := I.pos
  have hbc : Len n (b ++ c) := fun r m => (List.mem_append.mp m).elim (hb r) (hc r)
  have add : ∀ {v r : List Int} (f : Int), Row p n v → r.length = n → zeroTo a (addR p v f r) = addR p (zeroTo a v) f (zeroTo a r) := fun {v r} f hv hr => by
    refine ext0 (by rw [zeroTo_len, addR_len hv.1 hr, addR_len (by rw [zeroTo_len, hv.1]) (by rw [zeroTo_len, hr])]) fun i _ => ?_
    rw [at0_zeroTo, at0_addR (by rw [hv.1, hr]), at0_addR (by rw [zeroTo_len, zeroTo_len, hv.1, hr]), at0_zeroTo, at0_zeroTo]
    split
    · simp
    · rfl
  induction i with
  | zero =>
    rw [zeroTo_from (fun i _ => at0_rep)]
    exact .zero
  | @add v r f i m ih =>
    have hv := i.row h0 hbc
    rw [add f hv (hbc r m)]
    rcases List.mem_append.mp m with m | m
    · rw [zb r m, addR_rep h0 (zeroTo_row h0 hv)]
      exact ih
    · rw [zeroTo_from (fc r m)]
      exact .add f ih m
theorem in_from (I : Inv p inv) {a : Nat} {c : List (List Int)} (hc : Len n c) (fc : ∀ r ∈ c, From a r) {v : List Int} (i : InS p n c v) : From a v := by
  have := cut_hand I (b := []) (fun _ h => nomatch h) hc (fun _ h => nomatch h) fc (v := v) i
  induction i with
  | zero => exact fun i _ => at0_rep
  | @add v r f i m ih =>
    intro j hj
    have h1 := ih (cut_hand I (b := []) (fun _ h => nomatch h) hc (fun _ h => nomatch h) fc (v := v) i) j hj
    rw [at0_addR (by rw [(i.row I.pos hc).1, hc r m]), h1, fc r m j hj]
    simp
theorem fix_hand (I : Inv p inv) {a : Nat} {b c : List (List Int)} (hb : Len n b) (hc : Len n c) (zb : ∀ r ∈ b, zeroTo a r = List.replicate n 0) (fc : ∀ r ∈ c, From a r) :
    DX.fixd (cutAt I.pos a) (inP (n := n) (b ++ c)) = inP (p := p) c := funext fun v => propext ⟨fun ⟨h1, h2⟩ => by
      have := cut_hand I hb hc zb fc h1
      rwa [show zeroTo a v.1 = v.1 from congrArg Subtype.val h2] at this, fun h => ⟨h.mono fun r m => List.mem_append_right _ m, Subtype.ext (zeroTo_from (in_from I hc fc h))⟩⟩
theorem kill_hand (I : Inv p inv) {a : Nat} {b c : List (List Int)} (hb : Len n b) (hc : Len n c) (zb : ∀ r ∈ b, zeroTo a r = List.replicate n 0) (fc : ∀ r ∈ c, From a r) :
    DX.kill (rowVS I n) (cutAt I.pos a) (inP (n := n) (b ++ c)) = inP (p := p) b := funext fun v => propext ⟨fun ⟨h1, h2⟩ => by
      obtain ⟨x, y, hx, hy, e⟩ := (app_split I.pos hb hc).mp h1
      have rx := hx.row I.pos hb
      have ry := hy.row I.pos hc
      have zx : zeroTo a x = List.replicate n 0 := by
        have := cut_hand I (c := []) hb (fun _ h => nomatch h) zb (fun _ h => nomatch h) (v := x) (by rwa [List.append_nil])
        exact in_nil.mp this
      have zv : zeroTo a v.1 = List.replicate n 0 := congrArg Subtype.val h2
      rw [e, zeroTo_add I.pos rx ry, zx, zeroTo_from (in_from I hc fc hy)] at zv
      have ey : y = List.replicate n 0 := by
        rw [zero_add ry.1, scale_one I.pos ry (Int.emod_eq_of_lt (by omega) (by have := I.two; omega))] at zv
        exact zv
      rw [ey, addR_rep I.pos rx] at e
      show InS p n b v.1
      rw [e]
      exact hx, fun h => ⟨h.mono fun r m => List.mem_append_left _ m, Subtype.ext (by
      have := cut_hand I (c := []) hb (fun _ h => nomatch h) zb (fun _ h => nomatch h) (v := v.1) (by rw [List.append_nil]; exact h)
      exact in_nil.mp this)⟩⟩
end RX

set_option linter.all false
/-! # rows of kinds, one after the other (plain mathematics, no Python) -/
namespace RX
open KW
variable {p : Int} {inv : Int → Int} {n : Nat}
def eR (n j : Nat) : List Int := (List.range n).map fun i => if i = j then 1 else 0
def eRR (n j : Nat) : List Int := (List.range n).map fun i => if i = j ∨ i = j + 1 then 1 else 0
def blk (n a : Nat) (k : List Nat) (h : Nat) : List (List Int) := if k = PL then (if h = 97 then [eR n a] else if h = 98 then [eR n (a + 1)] else [eRR n a]) else if h ∈ k then [eR n a] else []
/-- the rows of a hand, kind after kind from place a -/
def rowsOf (n : Nat) : Nat → List (List Nat) → Nat → List (List Int)
  | _, [], _ => []
  | a, k :: ks, h => blk n a k h ++ rowsOf n (a + kLen k) ks h
theorem at0_eR {i j : Nat} : at0 (eR n j) i = if i < n ∧ i = j then 1 else 0 := by
  by_cases h : i < n
  · rw [at0_of (by simp [eR]; omega)]
    simp [eR, h]
  · rw [at0_out (by simp [eR]; omega), if_neg (by omega)]
theorem at0_eRR {i j : Nat} : at0 (eRR n j) i = if i < n ∧ (i = j ∨ i = j + 1) then 1 else 0 := by
  by_cases h : i < n
  · rw [at0_of (by simp [eRR]; omega)]
    simp [eRR, h]
  · rw [at0_out (by simp [eRR]; omega), if_neg (by omega)]
theorem kLen_two {k : List Nat} : kLen k = 1 ∨ kLen k = 2 := by unfold kLen; split <;> omega
theorem blk_cases {a : Nat} {k : List Nat} {h : Nat} {r : List Int} (m : r ∈ blk n a k h) : r = eR n a ∨ (k = PL ∧ (r = eR n (a + 1) ∨ r = eRR n a)) := by
  unfold blk at m
  split at m
  · rename_i e
    split at m
    · exact .inl (List.mem_singleton.mp m)
    · split at m
      · exact .inr ⟨e, .inl (List.mem_singleton.mp m)⟩
      · exact .inr ⟨e, .inr (List.mem_singleton.mp m)⟩
  · split at m
    · exact .inl (List.mem_singleton.mp m)
    · exact nomatch m
theorem blk_len {a : Nat} {k : List Nat} {h : Nat} : Len n (blk n a k h) := fun r m => by
  rcases blk_cases m with rfl | ⟨_, rfl | rfl⟩ <;> simp [eR, eRR]
theorem rows_len : ∀ {ks : List (List Nat)} {a h : Nat}, Len n (rowsOf n a ks h)
  | [], _, _, _, m => nomatch m
  | _ :: _, _, _, r, m => (List.mem_append.mp m).elim (blk_len r) (rows_len r)
theorem blk_from {a : Nat} {k : List Nat} {h : Nat} : ∀ r ∈ blk n a k h, From a r := fun r m i hi => by
  rcases blk_cases m with rfl | ⟨_, rfl | rfl⟩
  · rw [at0_eR, if_neg (by omega)]
  · rw [at0_eR, if_neg (by omega)]
  · rw [at0_eRR, if_neg (by omega)]
theorem rows_from : ∀ {ks : List (List Nat)} {a h : Nat}, ∀ r ∈ rowsOf n a ks h, From a r
  | [], _, _, _, m => nomatch m
  | k :: ks, a, h, r, m => (List.mem_append.mp m).elim (blk_from r) fun m i hi => rows_from r m i (by omega)
theorem blk_zero {a : Nat} {k : List Nat} {h : Nat} : ∀ r ∈ blk n a k h, zeroTo (a + kLen k) r = List.replicate n 0 := fun r m => by
  refine ext0 (by rw [zeroTo_len, blk_len r m, List.length_replicate]) fun i _ => ?_
  rw [at0_zeroTo, at0_rep]
  split
  · rfl
  · rename_i hi
    rcases blk_cases m with rfl | ⟨e, rfl | rfl⟩
    · rw [at0_eR, if_neg (by rcases kLen_two (k := k) with e | e <;> omega)]
    · have : kLen k = 2 := if_pos e
      rw [at0_eR, if_neg (by omega)]
    · have : kLen k = 2 := if_pos e
      rw [at0_eRR, if_neg (by omega)]
end RX

set_option linter.all false
/-! # a triple made of kinds, one after the other: within there is within on each of them (plain mathematics, no Python) -/
namespace RX
open KW
variable {p : Int} {inv : Int → Int} {n : Nat}
theorem row01 {r : List Int} (I : Inv p inv) (hl : r.length = n) (h : ∀ x ∈ r, x = 0 ∨ x = 1) : Row p n r := ⟨hl, fun x hx => by have := I.two; rcases h x hx with rfl | rfl <;> omega⟩
theorem eR_row (I : Inv p inv) {j : Nat} : Row p n (eR n j) := row01 I (by simp [eR]) fun x hx => by
  simp only [eR, List.mem_map] at hx
  obtain ⟨i, _, rfl⟩ := hx
  split <;> simp
theorem at0_mul {f : Int} {r : List Int} (hl : r.length = n) (i : Nat) : at0 (addR p (List.replicate n 0) f r) i = f * at0 r i % p := by
  rw [at0_addR (by rw [hl, List.length_replicate]), at0_rep, Int.zero_add]
/-- the part between two places -/
def Mid (I : Inv p inv) (n a b : Nat) (v : Rw p n) : Prop := From a v.1 ∧ cutAt I.pos b v = (rowVS I n).z
theorem mid_at {I : Inv p inv} {a b : Nat} {v : Rw p n} (h : Mid I n a b v) (i : Nat) (hi : i < a ∨ b ≤ i) : at0 v.1 i = 0 := by
  rcases hi with hi | hi
  · exact h.1 i hi
  · have e := congrArg (fun w : Rw p n => at0 w.1 i) h.2
    have e' : at0 (zeroTo b v.1) i = at0 (List.replicate n 0) i := e
    rw [at0_zeroTo, if_neg (by omega), at0_rep] at e'
    exact e'
theorem blk_line (I : Inv p inv) {a : Nat} (ha : a < n) {k : List Nat} (np : k ≠ PL) : DX.Line (rowVS I n) (Mid I n a (a + 1)) (inP (blk n a k 97)) (inP (blk n a k 98)) (inP (blk n a k 99)) ⟨eR n a, eR_row I⟩ k := by
  have h2 := I.two
  have one : at0 (eR n a) a = 1 := by rw [at0_eR, if_pos ⟨ha, rfl⟩]
  have nz : eR n a ≠ List.replicate n 0 := fun e => by rw [e, at0_rep] at one; cases one
  have hand : ∀ h, h ∈ k ↔ inP (p := p) (blk n a k h) (⟨eR n a, eR_row I⟩ : Rw p n) := fun h => by
    show h ∈ k ↔ InS p n (blk n a k h) (eR n a)
    unfold blk
    rw [if_neg np]
    by_cases m : h ∈ k
    · rw [if_pos m]
      exact ⟨fun _ => .self h2 (eR_row I) (List.mem_singleton.mpr rfl), fun _ => m⟩
    · rw [if_neg m, in_nil]
      exact ⟨fun z => (m z).elim, fun z => (nz z).elim⟩
  refine ⟨⟨fun i hi => by rw [at0_eR, if_neg (by omega)], Subtype.ext (ext0 (by show (zeroTo _ _).length = _; rw [zeroTo_len]; simp [eR, rowVS]) fun i _ => ?_)⟩, fun e => nz (congrArg Subtype.val e), fun {v} hv => ⟨at0 v.1 a, Subtype.ext (ext0 ?_ fun i _ => ?_)⟩, np, hand 97, hand 98, hand 99⟩
  · show at0 (zeroTo (a + 1) (eR n a)) i = at0 (List.replicate n 0) i
    rw [at0_zeroTo, at0_eR, at0_rep]
    split
    · rfl
    · rw [if_neg (by omega)]
  · show v.1.length = (addR p (List.replicate n 0) _ (eR n a)).length
    rw [addR_len (n := n) (by simp) (by simp [eR]), v.2.1]
  · show at0 v.1 i = at0 (addR p (List.replicate n 0) (at0 v.1 a) (eR n a)) i
    rw [at0_mul (by simp [eR]), at0_eR]
    by_cases e : i = a
    · subst e
      rw [if_pos ⟨ha, rfl⟩, Int.mul_one, v.2.emod I.pos]
    · rw [if_neg (fun z => e z.2), Int.mul_zero, Int.zero_emod, mid_at hv i (by omega)]
end RX

set_option linter.all false
/-! # the plane part; the whole (plain mathematics, no Python) -/
namespace RX
open KW
variable {p : Int} {inv : Int → Int} {n : Nat}
theorem eRR_row (I : Inv p inv) {j : Nat} : Row p n (eRR n j) := row01 I (by simp [eRR]) fun x hx => by
  simp only [eRR, List.mem_map] at hx
  obtain ⟨i, _, rfl⟩ := hx
  split <;> simp
theorem in_e (I : Inv p inv) {r : List Int} (hl : r.length = n) {v : Rw p n} (h : inP [r] v) : ∃ f, ∀ i, at0 v.1 i = f * at0 r i % p := by
  obtain ⟨f, e⟩ := (in_single I.pos hl).mp h
  exact ⟨f, fun i => by rw [e, at0_mul hl]⟩
theorem e_in (I : Inv p inv) {r : List Int} (hl : r.length = n) {v : Rw p n} (f : Int) (h : ∀ i, at0 v.1 i = f * at0 r i % p) : inP [r] v :=
  (in_single I.pos hl).mpr ⟨f, ext0 (by rw [addR_len (n := n) (by simp) hl, v.2.1]) fun i _ => by rw [at0_mul hl, h i]⟩
theorem blk_plane (I : Inv p inv) {a : Nat} (ha : a + 1 < n) : DX.Plane (rowVS I n) (Mid I n a (a + 2)) (inP [eR n a]) (inP [eR n (a + 1)]) (inP [eRR n a]) := by
  have l1 : (eR n a).length = n := by simp [eR]
  have l2 : (eR n (a + 1)).length = n := by simp [eR]
  have l3 : (eRR n a).length = n := by simp [eRR]
  have zero : ∀ {v : Rw p n}, (∀ i, at0 v.1 i = 0) → v = (rowVS I n).z := fun {v} h => Subtype.ext (ext0 (by rw [v.2.1]; simp [rowVS]) fun i _ => by
    rw [h i]
    exact at0_rep.symm)
  have mk : ∀ (f : Int) {r : List Int}, r.length = n → ∃ w : Rw p n, (∀ i, at0 w.1 i = f * at0 r i % p) := fun f {r} hl => ⟨⟨addR p (List.replicate n 0) f r, addR_row I.pos (by simp) hl⟩, fun i => at0_mul hl i⟩
  have sum : ∀ {v x y : Rw p n}, (∀ i, at0 v.1 i = (at0 x.1 i + at0 y.1 i) % p) → v = (rowVS I n).c x 1 y := fun {v x y} h => Subtype.ext (ext0 (by rw [v.2.1]; exact ((rowVS I n).c x 1 y).2.1.symm) fun i _ => by
    rw [h i]
    show _ = at0 (addR p x.1 1 y.1) i
    rw [at0_addR (by rw [x.2.1, y.2.1]), Int.one_mul])
  refine ⟨fun {v} hA hB => zero fun i => ?_, fun {v} hA hC => zero fun i => ?_, fun {v} hB hC => zero fun i => ?_, fun {v} hv => ?_, fun {v} hv => ?_, fun {v} hv => ?_⟩
  · obtain ⟨f, hf⟩ := in_e I l1 hA
    obtain ⟨g, hg⟩ := in_e I l2 hB
    by_cases e : i = a
    · rw [hg i, at0_eR, if_neg (by omega)]; simp
    · rw [hf i, at0_eR, if_neg (by omega)]; simp
  · obtain ⟨f, hf⟩ := in_e I l1 hA
    obtain ⟨g, hg⟩ := in_e I l3 hC
    by_cases e : i = a
    · have h1 := hf (a + 1)
      have h2 := hg (a + 1)
      rw [at0_eR, if_neg (by omega)] at h1
      rw [at0_eRR, if_pos (by omega), h1] at h2
      rw [hg i, at0_eRR, if_pos (by omega), ← h2]
      simp
    · rw [hf i, at0_eR, if_neg (by omega)]; simp
  · obtain ⟨f, hf⟩ := in_e I l2 hB
    obtain ⟨g, hg⟩ := in_e I l3 hC
    by_cases e : i = a + 1
    · have h1 := hf a
      have h2 := hg a
      rw [at0_eR, if_neg (by omega)] at h1
      rw [at0_eRR, if_pos (by omega), h1] at h2
      rw [hg i, at0_eRR, if_pos (by omega), ← h2]
      simp
    · rw [hf i, at0_eR, if_neg (by omega)]; simp
  · obtain ⟨x, hx⟩ := mk (at0 v.1 a) l1
    obtain ⟨y, hy⟩ := mk (at0 v.1 (a + 1)) l2
    refine ⟨x, y, e_in I l1 _ hx, e_in I l2 _ hy, sum fun i => ?_⟩
    rw [hx i, hy i, at0_eR, at0_eR]
    by_cases e1 : i = a
    · subst e1
      rw [if_pos ⟨by omega, rfl⟩, if_neg (by omega)]
      simp [v.2.emod I.pos]
    · by_cases e2 : i = a + 1
      · subst e2
        rw [if_neg (by omega), if_pos ⟨by omega, rfl⟩]
        simp [v.2.emod I.pos]
      · rw [if_neg (by omega), if_neg (by omega), mid_at hv i (by omega)]
        simp
  · obtain ⟨x, hx⟩ := mk (at0 v.1 a - at0 v.1 (a + 1)) l1
    obtain ⟨y, hy⟩ := mk (at0 v.1 (a + 1)) l3
    refine ⟨x, y, e_in I l1 _ hx, e_in I l3 _ hy, sum fun i => ?_⟩
    rw [hx i, hy i, at0_eR, at0_eRR]
    by_cases e1 : i = a
    · subst e1
      rw [if_pos ⟨by omega, rfl⟩, if_pos (by omega), Int.mul_one, Int.mul_one, ← Int.add_emod, show at0 v.1 i - at0 v.1 (i + 1) + at0 v.1 (i + 1) = at0 v.1 i by omega, v.2.emod I.pos]
    · by_cases e2 : i = a + 1
      · subst e2
        rw [if_neg (by omega), if_pos (by omega)]
        simp [v.2.emod I.pos]
      · rw [if_neg (by omega), if_neg (by omega), mid_at hv i (by omega)]
        simp
  · obtain ⟨x, hx⟩ := mk (at0 v.1 (a + 1) - at0 v.1 a) l2
    obtain ⟨y, hy⟩ := mk (at0 v.1 a) l3
    refine ⟨x, y, e_in I l2 _ hx, e_in I l3 _ hy, sum fun i => ?_⟩
    rw [hx i, hy i, at0_eR, at0_eRR]
    by_cases e1 : i = a
    · subst e1
      rw [if_neg (by omega), if_pos (by omega)]
      simp [v.2.emod I.pos]
    · by_cases e2 : i = a + 1
      · subst e2
        rw [if_pos ⟨by omega, rfl⟩, if_pos (by omega), Int.mul_one, Int.mul_one, ← Int.add_emod, show at0 v.1 (a + 1) - at0 v.1 a + at0 v.1 a = at0 v.1 (a + 1) by omega, v.2.emod I.pos]
      · rw [if_neg (by omega), if_neg (by omega), mid_at hv i (by omega)]
        simp
end RX

set_option linter.all false
/-! # a triple made of kinds: within there is within on each of them (plain mathematics, no Python) -/
namespace RX
open KW
variable {p : Int} {inv : Int → Int} {n : Nat}
def total : List (List Nat) → Nat
  | [] => 0
  | k :: ks => kLen k + total ks
/-- all from a place on -/
def Back (p : Int) (n a : Nat) (v : Rw p n) : Prop := From a v.1
theorem rows_cut (I : Inv p inv) (a b : Nat) {A B C A' B' C' : List (List Int)} (hab : a ≤ b) (la : Len n A) (lb : Len n B) (lc : Len n C) (la' : Len n A') (lb' : Len n B') (lc' : Len n C')
    (za : ∀ r ∈ A, zeroTo b r = List.replicate n 0) (zb : ∀ r ∈ B, zeroTo b r = List.replicate n 0) (zc : ∀ r ∈ C, zeroTo b r = List.replicate n 0) (fa : ∀ r ∈ A', From b r) (fb : ∀ r ∈ B', From b r) (fc : ∀ r ∈ C', From b r) :
    DX.Cut (rowVS I n) (Back p n a) (inP (A ++ A')) (inP (B ++ B')) (inP (C ++ C')) (cutAt I.pos b) where
  lin v g u := Subtype.ext (zeroTo_add I.pos v.2 u.2)
  id v := Subtype.ext (zeroTo_from from_zeroTo)
  v {v} h := fun i hi => by
    show at0 (zeroTo b v.1) i = 0
    rw [at0_zeroTo, if_pos (by omega)]
  a {v} h := (cut_hand I la la' za fa h).mono fun r m => List.mem_append_right _ m
  b {v} h := (cut_hand I lb lb' zb fb h).mono fun r m => List.mem_append_right _ m
  c {v} h := (cut_hand I lc lc' zc fc h).mono fun r m => List.mem_append_right _ m
theorem back_trip (I : Inv p inv) {a : Nat} {A B C : List (List Int)} (la : Len n A) (lb : Len n B) (lc : Len n C) (fa : ∀ r ∈ A, From a r) (fb : ∀ r ∈ B, From a r) (fc : ∀ r ∈ C, From a r) : DX.Trip (rowVS I n) (Back p n a) (inP A) (inP B) (inP C) :=
  ⟨from_sub I a, inP_sub I la, inP_sub I lb, inP_sub I lc, fun h => in_from I la fa h, fun h => in_from I lb fb h, fun h => in_from I lc fc h⟩
theorem fix_back (I : Inv p inv) {a b : Nat} (hab : a ≤ b) : DX.fixd (cutAt I.pos b) (Back p n a) = Back p n b := funext fun v => propext ⟨fun ⟨_, h⟩ i hi => by
  have e : zeroTo b v.1 = v.1 := congrArg Subtype.val h
  rw [← e]
  exact from_zeroTo i hi, fun h => ⟨fun i hi => h i (by omega), Subtype.ext (zeroTo_from h)⟩⟩
theorem kill_back (I : Inv p inv) {a b : Nat} : DX.kill (rowVS I n) (cutAt I.pos b) (Back p n a) = Mid I n a b := rfl
/-- within on a triple of kinds, one after the other: within on each -/
theorem kinds_iff (I : Inv p inv) {s t : Tr} (hs : WF s = true) (ht : WF t = true) : ∀ (ks : List (List Nat)) (a : Nat), a + total ks = n →
    ((∀ v, DX.valP (rowVS I n) (Back p n a) (inP (rowsOf n a ks 97)) (inP (rowsOf n a ks 98)) (inP (rowsOf n a ks 99)) s v → DX.valP (rowVS I n) (Back p n a) (inP (rowsOf n a ks 97)) (inP (rowsOf n a ks 98)) (inP (rowsOf n a ks 99)) t v) ↔ ∀ k ∈ ks, isW (mk k s) (mk k t) = true)
  | [], a, h => by
    have T := back_trip I (a := a) (n := n) rows_len rows_len rows_len (rows_from (ks := []) (h := 97)) (rows_from (ks := []) (h := 98)) (rows_from (ks := []) (h := 99))
    refine ⟨(fun _ k h => nomatch h), fun _ v hv => ?_⟩
    have hb : From a v.1 := DX.val_in T s hv
    have e : v = (rowVS I n).z := Subtype.ext (ext0 (by rw [v.2.1]; simp [rowVS]) fun i hi => by
      have ha : a = n := by simpa [total] using h
      rw [hb i (by rw [v.2.1] at hi; omega)]
      exact at0_rep.symm)
    rw [e]
    exact (DX.val_sub T t).z
  | k :: ks, a, h => by
    have hk : a + kLen k + total ks = n := by simp only [total] at h; omega
    have le : a ≤ a + kLen k := by omega
    have T := back_trip I (a := a) (n := n) rows_len rows_len rows_len (rows_from (ks := k :: ks) (h := 97)) (rows_from (ks := k :: ks) (h := 98)) (rows_from (ks := k :: ks) (h := 99))
    have K : DX.Cut (rowVS I n) (Back p n a) (inP (rowsOf n a (k :: ks) 97)) (inP (rowsOf n a (k :: ks) 98)) (inP (rowsOf n a (k :: ks) 99)) (cutAt I.pos (a + kLen k)) :=
      rows_cut I a (a + kLen k) le blk_len blk_len blk_len rows_len rows_len rows_len blk_zero blk_zero blk_zero rows_from rows_from rows_from
    have TK := K.kill T
    have cu := DX.cut_iff K T (s := s) (t := t)
    rw [fix_back I le, kill_back I] at cu
    rw [kill_back I] at TK
    have f := fun h => fix_hand I (b := blk n a k h) (c := rowsOf n (a + kLen k) ks h) (a := a + kLen k) blk_len rows_len blk_zero rows_from
    have g := fun h => kill_hand I (b := blk n a k h) (c := rowsOf n (a + kLen k) ks h) (a := a + kLen k) blk_len rows_len blk_zero rows_from
    have f' : ∀ h, DX.fixd (cutAt I.pos (a + kLen k)) (inP (p := p) (rowsOf n a (k :: ks) h)) = inP (rowsOf n (a + kLen k) ks h) := f
    have g' : ∀ h, DX.kill (rowVS I n) (cutAt I.pos (a + kLen k)) (inP (rowsOf n a (k :: ks) h)) = inP (blk n a k h) := g
    rw [f' 97, f' 98, f' 99, g' 97, g' 98, g' 99] at cu
    rw [g' 97, g' 98, g' 99] at TK
    rw [cu, kinds_iff I hs ht ks (a + kLen k) hk, List.forall_mem_cons, and_comm]
    refine and_congr ?_ Iff.rfl
    by_cases np : k = PL
    · subst np
      have P := blk_plane I (n := n) (a := a) (by have : kLen PL = 2 := rfl; omega)
      have e : Mid I n a (a + kLen PL) = Mid I n a (a + 2) := rfl
      have w : Mid I n a (a + 2) ⟨eR n a, eR_row I⟩ := by
        rw [← e]
        exact TK.av (show InS p n [eR n a] (eR n a) from .self I.two (eR_row I) (List.mem_singleton.mpr rfl))
      refine DX.plane_iff TK P w (fun z => ?_) hs ht
      have z' : at0 (eR n a) a = at0 (List.replicate n 0) a := congrArg (fun v : Rw p n => at0 v.1 a) z
      rw [at0_eR, at0_rep, if_pos ⟨by have : kLen PL = 2 := rfl; omega, rfl⟩] at z'
      cases z'
    · have e1 : kLen k = 1 := if_neg np
      rw [e1] at TK hk ⊢
      exact DX.line_iff TK (blk_line I (by omega) np) hs ht
end RX

set_option linter.all false
/-! # the kinds that counts give, one after the other (plain mathematics, no Python) -/
namespace RX
open KW
variable {p : Int} {inv : Int → Int} {n : Nat}
theorem total_app : ∀ (ks js : List (List Nat)), total (ks ++ js) = total ks + total js
  | [], js => by simp [total]
  | k :: ks, js => by simp only [List.cons_append, total, total_app ks js]; omega
theorem rowsOf_app : ∀ (ks js : List (List Nat)) (a h : Nat), rowsOf n a (ks ++ js) h = rowsOf n a ks h ++ rowsOf n (a + total ks) js h
  | [], js, a, h => by simp [rowsOf, total]
  | k :: ks, js, a, h => by
    simp only [List.cons_append, rowsOf, rowsOf_app ks js, total, List.append_assoc, Nat.add_assoc]
theorem rowsOf_snoc (ks : List (List Nat)) (k : List Nat) (h : Nat) : rowsOf n 0 (ks ++ [k]) h = rowsOf n 0 ks h ++ blk n (total ks) k h := by
  rw [rowsOf_app]
  simp [rowsOf]
theorem total_snoc (ks : List (List Nat)) (k : List Nat) : total (ks ++ [k]) = total ks + kLen k := by
  rw [total_app]
  simp [total]
theorem blk_one {a : Nat} {k : List Nat} {h : Nat} : (blk n a k h).length ≤ 1 := by
  unfold blk
  split
  · split
    · exact Nat.le_refl _
    · split <;> exact Nat.le_refl _
  · split
    · exact Nat.le_refl _
    · exact Nat.zero_le _
theorem rowsOf_le : ∀ (ks : List (List Nat)) (a h : Nat), (rowsOf n a ks h).length ≤ ks.length
  | [], _, _ => Nat.le_refl _
  | k :: ks, a, h => by
    simp only [rowsOf, List.length_append, List.length_cons]
    have := blk_one (n := n) (a := a) (k := k) (h := h)
    have := rowsOf_le ks (a + kLen k) h
    omega
/-- the i-th kind -/
def kA (i : Nat) : List Nat := kinds.getD i []
/-- the kinds that the counts give, the first i of them -/
def kpre (cs : List Int) : Nat → List (List Nat)
  | 0 => []
  | i + 1 => kpre cs i ++ List.replicate (at0 cs i).toNat (kA i)
theorem rep_snoc {α : Type} (j : Nat) (x : α) : List.replicate (j + 1) x = List.replicate j x ++ [x] := List.replicate_succ'
theorem kpre_len {cs : List Int} {m : Nat} (h : ∀ i, (at0 cs i).toNat ≤ m) : ∀ i, (kpre cs i).length ≤ i * m
  | 0 => by simp [kpre]
  | i + 1 => by
    simp only [kpre, List.length_append, List.length_replicate, Nat.succ_mul]
    have := kpre_len h i
    have := h i
    omega
theorem kA_mem : ∀ i < 9, kA i ∈ kinds := by decide
theorem kpre_mem {cs : List Int} {k : List Nat} : ∀ {i : Nat}, k ∈ kpre cs i → ∃ j, j < i ∧ k = kA j ∧ 0 < at0 cs j
  | 0, h => nomatch h
  | i + 1, h => by
    rcases List.mem_append.mp h with h | h
    · obtain ⟨j, a, b, c⟩ := kpre_mem h
      exact ⟨j, by omega, b, c⟩
    · obtain ⟨h1, h2⟩ := List.mem_replicate.mp h
      exact ⟨i, by omega, h2, by omega⟩
theorem mem_kpre {cs : List Int} {j : Nat} (c : 0 < at0 cs j) : ∀ {i : Nat}, j < i → kA j ∈ kpre cs i
  | i + 1, h => by
    by_cases e : j = i
    · subst e
      exact List.mem_append_right _ (List.mem_replicate.mpr ⟨by omega, rfl⟩)
    · exact List.mem_append_left _ (mem_kpre c (by omega))
theorem total_rep (j : Nat) (k : List Nat) : total (List.replicate j k) = j * kLen k := by
  induction j with
  | zero => simp [total]
  | succ j ih => rw [List.replicate_succ, total, ih, Nat.succ_mul]; omega
theorem total_kpre {cs : List Int} : ∀ i, total (kpre cs (i + 1)) = total (kpre cs i) + (at0 cs i).toNat * kLen (kA i) := fun i => by
  rw [kpre, total_app, total_rep]
theorem kLen_kA : ∀ i < 9, kLen (kA i) = if i = 8 then 2 else 1 := by decide
end RX

set_option linter.all false
/-! # a triple taken apart into lines and planes (plain mathematics, no Python) -/
namespace RX
open KW
def cA : Tr := .lf 97
def cB : Tr := .lf 98
def cC : Tr := .lf 99
def tP (s t : Tr) : Tr := .nd 43 s t
def tM (s t : Tr) : Tr := .nd 38 s t
/-- what a kind's pieces stand beside, and what they fill up to -/
def innT : Nat → Tr
  | 0 => tP (tP cA cB) cC
  | 1 => tM cA (tP cB cC)
  | 2 => tM cB (tP cA cC)
  | 3 => tM cC (tP cA cB)
  | 4 => tM (tM cA cB) cC
  | 5 => tM (tM cA cB) cC
  | 6 => tM (tM cA cB) cC
  | 7 => .lf 48
  | _ => tP (tM cA cB) (tM cA cC)
def outT : Nat → Tr
  | 0 => .lf 49
  | 1 => cA
  | 2 => cB
  | 3 => cC
  | 4 => tM cA cB
  | 5 => tM cA cC
  | 6 => tM cB cC
  | 7 => tM (tM cA cB) cC
  | _ => tM cA (tP cB cC)
section
variable {p : Int} {inv : Int → Int} {n : Nat} {W A B C : List (List Int)}
/-- an extension fills up -/
theorem ext_up (I : Inv p inv) {b c L : List (List Int)} (R1 : Rref p n b) (R2 : Rref p n c) (hs : ∀ v, InS p n b v → InS p n c v) (hL : Len n L) (h1 : ∀ v, InS p n b v → InS p n L v) (h2 : ∀ r ∈ extL b c, InS p n L r) : ∀ v, InS p n c v → InS p n L v := fun v i =>
  ((ext_span I R1 R2 hs v).mpr i).imp I.pos hL fun r m => (List.mem_append.mp m).elim (fun m => h1 r (.self I.two (R1.rows r m) m)) (h2 r)
structure Tri (p : Int) (inv : Int → Int) (n : Nat) (W A B C : List (List Int)) : Prop where
  I : Inv p inv
  hW : ∀ v, Row p n v → InS p n W v
  RW : Rref p n W
  RA : Rref p n A
  RB : Rref p n B
  RC : Rref p n C
variable (T : Tri p inv n W A B C)
include T
theorem Tri.val (t : Tr) : Rref p n (valI inv p n W A B C t) := valI_rref T.I T.RW T.RA T.RB T.RC t
theorem Tri.sum (s t : Tr) (v : List Int) : InS p n (valI inv p n W A B C (tP s t)) v ↔ ∃ x y, InS p n (valI inv p n W A B C s) x ∧ InS p n (valI inv p n W A B C t) y ∧ v = addR p x 1 y :=
  (sum_span T.I (T.val s) (T.val t) v).trans (app_split T.I.pos (T.val s).len (T.val t).len)
theorem Tri.com (s t : Tr) (v : List Int) : InS p n (valI inv p n W A B C (tM s t)) v ↔ InS p n (valI inv p n W A B C s) v ∧ InS p n (valI inv p n W A B C t) v := common_span T.I (T.val s) (T.val t) v
theorem Tri.inl (s t : Tr) {v : List Int} (i : InS p n (valI inv p n W A B C s) v) : InS p n (valI inv p n W A B C (tP s t)) v := sum_l T.I (T.val s) (T.val t) i
theorem Tri.inr (s t : Tr) {v : List Int} (i : InS p n (valI inv p n W A B C t) v) : InS p n (valI inv p n W A B C (tP s t)) v := sum_r T.I (T.val s) (T.val t) i
theorem Tri.up (s t : Tr) {L : List (List Int)} (hL : Len n L) (h1 : ∀ v, InS p n (valI inv p n W A B C s) v → InS p n L v) (h2 : ∀ v, InS p n (valI inv p n W A B C t) v → InS p n L v) : ∀ v, InS p n (valI inv p n W A B C (tP s t)) v → InS p n L v := fun v i => sum_le T.I (T.val s) (T.val t) hL h1 h2 i
theorem Tri.row (t : Tr) {v : List Int} (i : InS p n (valI inv p n W A B C t) v) : Row p n v := i.row T.I.pos (T.val t).len
/-- a kind's pieces stand within what they fill up to -/
theorem Tri.le : ∀ i < 9, ∀ v, InS p n (valI inv p n W A B C (innT i)) v → InS p n (valI inv p n W A B C (outT i)) v := fun i hi v h => by
  match i, hi, h with
  | 0, _, h => exact T.hW v (T.row _ h)
  | 1, _, h => exact ((T.com cA (tP cB cC) v).mp h).1
  | 2, _, h => exact ((T.com cB (tP cA cC) v).mp h).1
  | 3, _, h => exact ((T.com cC (tP cA cB) v).mp h).1
  | 4, _, h => exact ((T.com (tM cA cB) cC v).mp h).1
  | 5, _, h =>
    have q := (T.com (tM cA cB) cC v).mp h
    exact (T.com cA cC v).mpr ⟨((T.com cA cB v).mp q.1).1, q.2⟩
  | 6, _, h =>
    have q := (T.com (tM cA cB) cC v).mp h
    exact (T.com cB cC v).mpr ⟨((T.com cA cB v).mp q.1).2, q.2⟩
  | 7, _, h =>
    have : v = List.replicate n 0 := in_nil.mp h
    rw [this]
    exact .zero
  | 8, _, h =>
    refine (T.com cA (tP cB cC) v).mpr ?_
    obtain ⟨x, y, hx, hy, e⟩ := (T.sum (tM cA cB) (tM cA cC) v).mp h
    have hx := (T.com cA cB x).mp hx
    have hy := (T.com cA cC y).mp hy
    exact ⟨by rw [e]; exact hx.1.comb T.I.pos T.RA.len hy.1, (T.sum cB cC v).mpr ⟨x, y, hx.2, hy.2, e⟩⟩
/-- the vectors of the i-th kind -/
def extK (inv : Int → Int) (p : Int) (n : Nat) (W A B C : List (List Int)) (i : Nat) : List (List Int) := extL (valI inv p n W A B C (innT i)) (valI inv p n W A B C (outT i))
omit T in
theorem extK_mem {i : Nat} {r : List Int} (m : r ∈ extK inv p n W A B C i) : r ∈ valI inv p n W A B C (outT i) := (List.mem_filter.mp m).1
theorem Tri.ext_in {i : Nat} {r : List Int} (m : r ∈ extK inv p n W A B C i) : InS p n (valI inv p n W A B C (outT i)) r := .self T.I.two ((T.val _).rows r (extK_mem m)) (extK_mem m)
theorem Tri.ext_row {i : Nat} {r : List Int} (m : r ∈ extK inv p n W A B C i) : Row p n r := (T.val _).rows r (extK_mem m)
theorem Tri.ext_len (i : Nat) (hi : i < 9) : (extK inv p n W A B C i).length + (valI inv p n W A B C (innT i)).length = (valI inv p n W A B C (outT i)).length := RX.ext_len T.I.two (T.val _) (T.val _) (T.le i hi)
theorem Tri.fill {i : Nat} (hi : i < 9) {L : List (List Int)} (hL : Len n L) (h1 : ∀ v, InS p n (valI inv p n W A B C (innT i)) v → InS p n L v) (h2 : ∀ r ∈ extK inv p n W A B C i, InS p n L r) : ∀ v, InS p n (valI inv p n W A B C (outT i)) v → InS p n L v :=
  ext_up T.I (T.val _) (T.val _) (T.le i hi) hL h1 h2
theorem Tri.plane_in {r : List Int} (m : r ∈ extK inv p n W A B C 8) : InS p n A r ∧ InS p n (B ++ C) r := by
  have h := (T.com cA (tP cB cC) r).mp (T.ext_in m)
  exact ⟨h.1, (sum_span T.I T.RB T.RC r).mp h.2⟩
theorem Tri.prt {r : List Int} (m : r ∈ extK inv p n W A B C 8) : InS p n B (prt inv p n B C r) ∧ InS p n C (addR p r 1 (prt inv p n B C r)) := prt_ok T.I T.RB T.RC (T.plane_in m).2
/-- what all three share -/
theorem Tri.abc {L : List (List Int)} (hL : Len n L) (h7 : ∀ r ∈ extK inv p n W A B C 7, InS p n L r) : ∀ v, InS p n (valI inv p n W A B C (tM (tM cA cB) cC)) v → InS p n L v :=
  T.fill (i := 7) (by decide) hL (fun v h => by
    have : v = List.replicate n 0 := in_nil.mp h
    rw [this]
    exact .zero) h7
theorem Tri.ab {L : List (List Int)} (hL : Len n L) (h7 : ∀ r ∈ extK inv p n W A B C 7, InS p n L r) (h4 : ∀ r ∈ extK inv p n W A B C 4, InS p n L r) : ∀ v, InS p n (valI inv p n W A B C (tM cA cB)) v → InS p n L v := T.fill (i := 4) (by decide) hL (T.abc hL h7) h4
theorem Tri.ac {L : List (List Int)} (hL : Len n L) (h7 : ∀ r ∈ extK inv p n W A B C 7, InS p n L r) (h5 : ∀ r ∈ extK inv p n W A B C 5, InS p n L r) : ∀ v, InS p n (valI inv p n W A B C (tM cA cC)) v → InS p n L v := T.fill (i := 5) (by decide) hL (T.abc hL h7) h5
theorem Tri.bc {L : List (List Int)} (hL : Len n L) (h7 : ∀ r ∈ extK inv p n W A B C 7, InS p n L r) (h6 : ∀ r ∈ extK inv p n W A B C 6, InS p n L r) : ∀ v, InS p n (valI inv p n W A B C (tM cB cC)) v → InS p n L v := T.fill (i := 6) (by decide) hL (T.abc hL h7) h6
/-- A filled up -/
theorem Tri.fillA {L : List (List Int)} (hL : Len n L) (h1 : ∀ r ∈ extK inv p n W A B C 1, InS p n L r) (h4 : ∀ r ∈ extK inv p n W A B C 4, InS p n L r) (h5 : ∀ r ∈ extK inv p n W A B C 5, InS p n L r) (h7 : ∀ r ∈ extK inv p n W A B C 7, InS p n L r) (h8 : ∀ r ∈ extK inv p n W A B C 8, InS p n L r) : ∀ v, InS p n A v → InS p n L v :=
  T.fill (i := 1) (by decide) hL (T.fill (i := 8) (by decide) hL (T.up _ _ hL (T.ab hL h7 h4) (T.ac hL h7 h5)) h8) h1
/-- what lies in A and in B + C, brought into C by something of B -/
theorem Tri.lift {X : List (List Int)} {Q : List Int → List Int → Prop} (hx : ∀ r ∈ X, ∃ y, InS p n B y ∧ Q r y) (hr : ∀ r ∈ X, Row p n r) (q0 : Q (zer n) (zer n)) (qa : ∀ a f r y z, Row p n a → Row p n r → InS p n B y → InS p n B z → Q a y → Q r z → Q (addR p a f r) (addR p y f z)) {v : List Int} (i : InS p n X v) : ∃ y, InS p n B y ∧ Q v y := by
  induction i with
  | zero => exact ⟨zer n, .zero, q0⟩
  | @add a r f ia m ih =>
    obtain ⟨y, iy, qy⟩ := ih
    obtain ⟨z, iz, qz⟩ := hx r m
    exact ⟨addR p y f z, iy.comb T.I.pos T.RB.len iz, qa a f r y z (ia.row T.I.pos fun r m => (hr r m).1) (hr r m) iy iz qy qz⟩
omit T in
theorem one_row (I : Inv p inv) {a : List Int} (h : Row p n a) : addR p (zer n) 1 a = a := (zero_add h.1).trans (scale_one I.pos h (by have := I.two; exact Int.emod_eq_of_lt (by omega) (by omega)))
omit T in
theorem back1 (I : Inv p inv) {a c : List Int} (h : Row p n a) (hc : Row p n c) : addR p (addR p a 1 c) (-1) c = a := by
  have := addR_back (p := p) (f := -1) I.pos h hc.1
  rwa [Int.neg_neg] at this
omit T in
theorem back2 (I : Inv p inv) {a b : List Int} (h : Row p n a) (hb : Row p n b) : addR p (addR p a 1 b) (-1) a = b := by
  rw [addR_comm h.1 hb.1 h.1]
  have e : addR p a (-1) a = zer n := by
    have this : addR p (addR p (zer n) 1 a) (-1) a = zer n := back1 I (zero_row I.pos) h
    rwa [one_row I h] at this
  rw [e, one_row I hb]
omit T in
theorem four {f : Int} {a r y z : List Int} (ha : a.length = n) (hr : r.length = n) (hy : y.length = n) (hz : z.length = n) : addR p (addR p a f r) 1 (addR p y f z) = addR p (addR p a 1 y) f (addR p r 1 z) := by
  rw [addR_assoc (addR_len ha hr) hy hz, addR_assoc (addR_len ha hy) hr hz, addR_comm ha hr hy, Int.one_mul, Int.mul_one]
def X8 (inv : Int → Int) (p : Int) (n : Nat) (W A B C : List (List Int)) : List (List Int) := valI inv p n W A B C (innT 8) ++ extK inv p n W A B C 8
theorem Tri.x8_row : ∀ r ∈ X8 inv p n W A B C, Row p n r := fun r m => (List.mem_append.mp m).elim (fun m => (T.val _).rows r m) fun m => T.ext_row m
theorem Tri.x8_in {v : List Int} (hA : InS p n A v) (hBC : InS p n (B ++ C) v) : InS p n (X8 inv p n W A B C) v :=
  (ext_span T.I (T.val (innT 8)) (T.val (outT 8)) (T.le 8 (by decide)) v).mpr ((T.com cA (tP cB cC) v).mpr ⟨hA, (sum_span T.I T.RB T.RC v).mpr hBC⟩)
/-- the plane's inner part: a sum of what A and B share and of what A and C share -/
theorem Tri.inn8 {r : List Int} (m : r ∈ valI inv p n W A B C (innT 8)) : ∃ x y, InS p n (valI inv p n W A B C (tM cA cB)) x ∧ InS p n (valI inv p n W A B C (tM cA cC)) y ∧ r = addR p x 1 y :=
  (T.sum (tM cA cB) (tM cA cC) r).mp (.self T.I.two ((T.val _).rows r m) m)
theorem Tri.neg_in {D : List (List Int)} (hD : Len n D) {x : List Int} (i : InS p n D x) : InS p n D (scale p (-1) x) := i.scale T.I.pos hD
omit T in
theorem neg_add (I : Inv p inv) {x y : List Int} (hx : Row p n x) (hy : Row p n y) : addR p (addR p x 1 y) 1 (scale p (-1) x) = y := by
  rw [← zero_add hx.1, addR_assoc (addR_len hx.1 hy.1) (by simp) hx.1, addR_rep I.pos (addR_row I.pos hx.1 hy.1), show (1 : Int) * -1 = -1 by decide, back2 I hx hy]
theorem Tri.fillB {L : List (List Int)} (hL : Len n L) (h2 : ∀ r ∈ extK inv p n W A B C 2, InS p n L r) (h4 : ∀ r ∈ extK inv p n W A B C 4, InS p n L r) (h6 : ∀ r ∈ extK inv p n W A B C 6, InS p n L r) (h7 : ∀ r ∈ extK inv p n W A B C 7, InS p n L r) (h8 : ∀ r ∈ extK inv p n W A B C 8, InS p n L (RX.prt inv p n B C r)) : ∀ v, InS p n B v → InS p n L v := by
  have I := T.I
  refine T.fill (i := 2) (by decide) hL (fun v h => ?_) h2
  obtain ⟨hB, hAC⟩ := (T.com cB (tP cA cC) v).mp h
  obtain ⟨a, c, ia, ic, e⟩ := (T.sum cA cC v).mp hAC
  have ra : Row p n a := T.row cA ia
  have rc : Row p n c := T.row cC ic
  have rv : Row p n v := T.row cB hB
  have lBC : Len n (B ++ C) := fun r m => (app_rows T.RB T.RC r m).1
  have ea : addR p v (-1) c = a := by rw [e, back1 I ra rc]
  have hBC : InS p n (B ++ C) a := by
    rw [← ea]
    exact (InS.mono (show InS p n B v from hB) fun r m => List.mem_append_left _ m).comb I.pos lBC (InS.mono (show InS p n C c from ic) fun r m => List.mem_append_right _ m)
  obtain ⟨y, iy, qL, qC⟩ := T.lift (X := X8 inv p n W A B C) (Q := fun a y => InS p n L y ∧ InS p n C (addR p a 1 y)) (fun r m => by
    rcases List.mem_append.mp m with m | m
    · obtain ⟨x, y, ix, iy, e⟩ := T.inn8 m
      have hx := (T.com cA cB x).mp ix
      have hy := (T.com cA cC y).mp iy
      refine ⟨scale p (-1) x, T.neg_in T.RB.len hx.2, T.neg_in hL (T.ab hL h7 h4 x ix), ?_⟩
      rw [e, neg_add I (T.row _ ix) (T.row _ iy)]
      exact hy.2
    · exact ⟨_, (T.prt m).1, h8 r m, (T.prt m).2⟩) T.x8_row ⟨.zero, by rw [one_row I (show Row p n (zer n) from zero_row I.pos)]; exact .zero⟩ (fun a f r y z ha hr iy iz qa qr => by
      have ry := T.row cB iy
      have rz := T.row cB iz
      refine ⟨qa.1.comb I.pos hL qr.1, ?_⟩
      rw [four ha.1 hr.1 ry.1 rz.1]
      exact qa.2.comb I.pos T.RC.len qr.2) (T.x8_in ia hBC)
  have ry : Row p n y := T.row cB iy
  have i1 : InS p n B (addR p v 1 y) := InS.comb I.pos T.RB.len hB iy
  have i2 : InS p n C (addR p v 1 y) := by
    rw [e, addR_comm ra.1 rc.1 ry.1]
    exact qC.comb I.pos T.RC.len ic
  have i3 := T.bc hL h7 h6 _ ((T.com cB cC _).mpr ⟨i1, i2⟩)
  have i4 := i3.comb (f := -1) I.pos hL qL
  rwa [back1 I rv ry] at i4
theorem Tri.fillC {L : List (List Int)} (hL : Len n L) (h3 : ∀ r ∈ extK inv p n W A B C 3, InS p n L r) (h5 : ∀ r ∈ extK inv p n W A B C 5, InS p n L r) (h6 : ∀ r ∈ extK inv p n W A B C 6, InS p n L r) (h7 : ∀ r ∈ extK inv p n W A B C 7, InS p n L r) (h8 : ∀ r ∈ extK inv p n W A B C 8, InS p n L (addR p r 1 (RX.prt inv p n B C r))) : ∀ v, InS p n C v → InS p n L v := by
  have I := T.I
  refine T.fill (i := 3) (by decide) hL (fun v h => ?_) h3
  obtain ⟨hC, hAB⟩ := (T.com cC (tP cA cB) v).mp h
  obtain ⟨a, b, ia, ib, e⟩ := (T.sum cA cB v).mp hAB
  have ra : Row p n a := T.row cA ia
  have rb : Row p n b := T.row cB ib
  have rv : Row p n v := T.row cC hC
  have lBC : Len n (B ++ C) := fun r m => (app_rows T.RB T.RC r m).1
  have ea : addR p v (-1) b = a := by rw [e, back1 I ra rb]
  have hBC : InS p n (B ++ C) a := by
    rw [← ea]
    exact (InS.mono (show InS p n C v from hC) fun r m => List.mem_append_right _ m).comb I.pos lBC (InS.mono (show InS p n B b from ib) fun r m => List.mem_append_left _ m)
  obtain ⟨y, iy, qL, qC⟩ := T.lift (X := X8 inv p n W A B C) (Q := fun a y => InS p n L (addR p a 1 y) ∧ InS p n C (addR p a 1 y)) (fun r m => by
    rcases List.mem_append.mp m with m | m
    · obtain ⟨x, y, ix, iy, e⟩ := T.inn8 m
      have hx := (T.com cA cB x).mp ix
      have hy := (T.com cA cC y).mp iy
      refine ⟨scale p (-1) x, T.neg_in T.RB.len hx.2, ?_⟩
      rw [e, neg_add I (T.row _ ix) (T.row _ iy)]
      exact ⟨T.ac hL h7 h5 y iy, hy.2⟩
    · exact ⟨_, (T.prt m).1, h8 r m, (T.prt m).2⟩) T.x8_row ⟨by rw [one_row I (show Row p n (zer n) from zero_row I.pos)]; exact .zero, by rw [one_row I (show Row p n (zer n) from zero_row I.pos)]; exact .zero⟩ (fun a f r y z ha hr iy iz qa qr => by
      have ry := T.row cB iy
      have rz := T.row cB iz
      rw [four ha.1 hr.1 ry.1 rz.1]
      exact ⟨qa.1.comb I.pos hL qr.1, qa.2.comb I.pos T.RC.len qr.2⟩) (T.x8_in ia hBC)
  have ry : Row p n y := T.row cB iy
  have ray : Row p n (addR p a 1 y) := addR_row I.pos ra.1 ry.1
  have ed : addR p v (-1) (addR p a 1 y) = addR p b (-1) y := by
    rw [e, addR_assoc (addR_len ra.1 rb.1) ra.1 ry.1, back2 I ra rb, Int.mul_one]
  have i1 : InS p n B (addR p v (-1) (addR p a 1 y)) := by
    rw [ed]
    exact InS.comb I.pos T.RB.len ib iy
  have i2 : InS p n C (addR p v (-1) (addR p a 1 y)) := InS.comb I.pos T.RC.len hC qC
  have i3 := T.bc hL h7 h6 _ ((T.com cB cC _).mpr ⟨i1, i2⟩)
  have i4 := i3.comb (f := 1) I.pos hL qL
  have k := addR_back (p := p) (f := 1) I.pos rv ray.1
  rwa [k] at i4
theorem Tri.fillW {L : List (List Int)} (hL : Len n L) (h0 : ∀ r ∈ extK inv p n W A B C 0, InS p n L r) (hA : ∀ v, InS p n A v → InS p n L v) (hB : ∀ v, InS p n B v → InS p n L v) (hC : ∀ v, InS p n C v → InS p n L v) : ∀ v, InS p n W v → InS p n L v :=
  T.fill (i := 0) (by decide) hL (T.up _ _ hL (T.up _ _ hL hA hB) hC) h0
/-! ### counted -/
theorem Tri.eq_len {s : Tr} {D : List (List Int)} (hD : Rref p n D) (h : ∀ v, InS p n (valI inv p n W A B C s) v ↔ InS p n D v) : (valI inv p n W A B C s).length = D.length := by
  rw [(T.val s).uniq T.I.two hD h]
theorem Tri.dim (s t : Tr) : (valI inv p n W A B C (tP s t)).length + (valI inv p n W A B C (tM s t)).length = (valI inv p n W A B C s).length + (valI inv p n W A B C t).length := sum_dim T.I (T.val s) (T.val t)
theorem Tri.same {s t : Tr} (h : ∀ v, InS p n (valI inv p n W A B C s) v ↔ InS p n (valI inv p n W A B C t) v) : (valI inv p n W A B C s).length = (valI inv p n W A B C t).length := by
  rw [(T.val s).uniq T.I.two (T.val t) h]
theorem Tri.assoc3 (a b c : Tr) : (valI inv p n W A B C (tP a (tP b c))).length = (valI inv p n W A B C (tP (tP a b) c)).length := by
  refine T.same fun v => ⟨T.up _ _ (T.val _).len (fun v i => T.inl _ _ (T.inl _ _ i)) (T.up _ _ (T.val _).len (fun v i => T.inl _ _ (T.inr _ _ i)) fun v i => T.inr _ _ i) v, T.up _ _ (T.val _).len (T.up _ _ (T.val _).len (fun v i => T.inl _ _ i) fun v i => T.inr _ _ (T.inl _ _ i)) (fun v i => T.inr _ _ (T.inr _ _ i)) v⟩
theorem Tri.assocB : (valI inv p n W A B C (tP cB (tP cA cC))).length = (valI inv p n W A B C (tP (tP cA cB) cC)).length := by
  refine T.same fun v => ⟨T.up _ _ (T.val _).len (fun v i => T.inl _ _ (T.inr _ _ i)) (T.up _ _ (T.val _).len (fun v i => T.inl _ _ (T.inl _ _ i)) fun v i => T.inr _ _ i) v, T.up _ _ (T.val _).len (T.up _ _ (T.val _).len (fun v i => T.inr _ _ (T.inl _ _ i)) fun v i => T.inl _ _ i) (fun v i => T.inr _ _ (T.inr _ _ i)) v⟩
theorem Tri.assocC : (valI inv p n W A B C (tP cC (tP cA cB))).length = (valI inv p n W A B C (tP (tP cA cB) cC)).length := by
  refine T.same fun v => ⟨T.up _ _ (T.val _).len (fun v i => T.inr _ _ i) (fun v i => T.inl _ _ i) v, T.up _ _ (T.val _).len (fun v i => T.inr _ _ i) (fun v i => T.inl _ _ i) v⟩
theorem Tri.mid : (valI inv p n W A B C (tM (tM cA cB) (tM cA cC))).length = (valI inv p n W A B C (tM (tM cA cB) cC)).length := by
  refine T.same fun v => ?_
  rw [T.com, T.com, T.com, T.com (tM cA cB) cC, T.com]
  exact ⟨fun h => ⟨h.1, h.2.2⟩, fun h => ⟨h.1, h.1.1, h.2⟩⟩
/-- all has n dimensions -/
theorem Tri.whole : W.length = n := by
  refine Nat.le_antisymm ?_ ?_
  · have h := (List.pairwise_map.mpr T.RW.inc : (W.map lead).Pairwise (· < ·))
    have hn : (W.map lead).Nodup := h.imp fun q => Nat.ne_of_lt q
    have := hn.length_le_of_subset (l₂ := List.range n) (fun x hx => by
      obtain ⟨r, hr, rfl⟩ := List.mem_map.mp hx
      exact List.mem_range.mpr (T.RW.lt r hr))
    simpa using this
  · have hs : ∀ x ∈ List.range n, x ∈ W.map lead := fun i hi => by
      have hi := List.mem_range.mp hi
      have ri := eR_row (n := n) (j := i) T.I
      have e1 : at0 (eR n i) i = 1 := by rw [at0_eR, if_pos ⟨hi, rfl⟩]
      have ne : eR n i ≠ List.replicate n 0 := fun q => by rw [q, at0_rep] at e1; cases e1
      obtain ⟨r, hr, el⟩ := lead_in T.I.pos W T.RW _ (T.hW _ ri) ne
      have l1 : lead (eR n i) = i := lead_eq (by rw [e1]; decide) fun j hj => by rw [at0_eR, if_neg (by omega)]
      exact List.mem_map.mpr ⟨r, hr, by rw [← el, l1]⟩
    have := (List.nodup_range (n := n)).length_le_of_subset hs
    simpa using this
/-- the pieces count all dimensions -/
theorem Tri.count : (extK inv p n W A B C 0).length + (extK inv p n W A B C 1).length + (extK inv p n W A B C 2).length + (extK inv p n W A B C 3).length + (extK inv p n W A B C 4).length + (extK inv p n W A B C 5).length + (extK inv p n W A B C 6).length + (extK inv p n W A B C 7).length + 2 * (extK inv p n W A B C 8).length = n := by
  have e0 := T.ext_len 0 (by decide)
  have e1 := T.ext_len 1 (by decide)
  have e2 := T.ext_len 2 (by decide)
  have e3 := T.ext_len 3 (by decide)
  have e4 := T.ext_len 4 (by decide)
  have e5 := T.ext_len 5 (by decide)
  have e6 := T.ext_len 6 (by decide)
  have e7 := T.ext_len 7 (by decide)
  have e8 := T.ext_len 8 (by decide)
  have d1 := T.dim cB cC
  have d2 := T.dim cA (tP cB cC)
  have d3 := T.dim cA cC
  have d4 := T.dim cB (tP cA cC)
  have d5 := T.dim cA cB
  have d6 := T.dim cC (tP cA cB)
  have d7 := T.dim (tM cA cB) (tM cA cC)
  have a1 := T.assoc3 cA cB cC
  have a2 := T.assocB
  have a3 := T.assocC
  have m := T.mid
  have w : (valI inv p n W A B C (outT 0)).length = n := T.whole
  have z : (valI inv p n W A B C (innT 7)).length = 0 := rfl
  simp only [innT, outT] at *
  omega
end
end RX

set_option Elab.async false
set_option linter.all false
set_option maxRecDepth 100000
set_option maxHeartbeats 4000000
/-! # extension, pieces of a kind -/
namespace KV
open PySem PySem.Spec PyProof.Rows L2 VX RX
section
variable {P : Program} {w : World} {K : PySem.W.Frag} {mg : Str → Option Value} {base : Heap} {f : Addr} {fd : FuncData}
open RX
/-- a line's or a plane's vectors -/
def vecs (inv : Int → Int) (p : Int) (n : Nat) (B C : List (List Int)) (k : List Nat) (v : List Int) : List (List Int) := if k = KW.PL then [v, prt inv p n B C v] else [v]
/-- a piece: its kind and its vectors -/
abbrev Pc := List Nat × List (List Int)
theorem AreRows.mono {H H' : Hp} (k : ∀ a u, H a = some (.tup u) → H' a = some (.tup u)) : ∀ {as : List Addr} {rs : List (List Int)}, AreRows H as rs → AreRows H' as rs
  | _, _, .nil => .nil
  | _, _, .cons h t => .cons (k _ _ h) (AreRows.mono k t)
/-- the pieces of a kind -/
noncomputable def pcsK (p : Int) (n : Nat) (A B C : List (List Int)) (i : Nat) : List Pc := (extK (invF p) p n (wholeB p n) A B C i).map fun v => (kA i, vecs (invF p) p n B C (kA i) v)
theorem valB_V {p : Int} {n : Nat} {A B C : List (List Int)} (t : KW.Tr) : valB p n A B C t = valI (invF p) p n (wholeB p n) A B C t := valB_I t
end
end KV

set_option Elab.async false
set_option linter.all false
/-! # walks within a comprehension of two loops -/
namespace VX
open PySem PySem.Spec PyProof.Rows L2
/-- a walk from state to state, whatever is done in each turn -/
theorem walk_it {J : It} {n : Nat} {G : Hp → Prop} {Y : Nat → Hp → V → Hp → Prop} (w : Walk J n G Y) {B : (Hp → Prop) → V → Hp → Prop} {Hs : Hp} {Qd : Hp → Prop} (Pv : Nat → Hp → Prop) (h0 : Pv 0 Hs) (hG : ∀ i H, i ≤ n → Pv i H → G H)
    (hs : ∀ i x H H', i < n → Pv i H → Y i H x H' → B (Pv (i + 1)) x H') (he : ∀ H, Pv n H → Qd H) :
    ∃ W : Nat → Nat → Hp → Prop, (∃ m, W 0 m Hs) ∧ ∀ i m H, W i m H → (J.stop i H ∧ Qd H) ∨ (J.go i H ∧ ∃ Nx : Hp → Prop, (∀ H', Nx H' → ∃ m', m' < m ∧ W (i + 1) m' H') ∧ ∀ x H', J.yld i H x H' → B Nx x H') := by
  refine ⟨fun i m H => Pv i H ∧ i ≤ n ∧ m = n - i, ⟨n, h0, Nat.zero_le _, rfl⟩, ?_⟩
  rintro i m H ⟨hp, hi, rfl⟩
  by_cases e : i = n
  · subst e
    exact .inl ⟨w.stops H (hG _ H hi hp), he H hp⟩
  · have hlt : i < n := by omega
    exact .inr ⟨w.goes i H hlt (hG i H hi hp), Pv (i + 1), fun H' h => ⟨n - (i + 1), by omega, h, by omega, rfl⟩, fun x H' y => hs i x H H' hlt hp (w.yields i H x H' hlt (hG i H hi hp) y)⟩
end VX

set_option Elab.async false
set_option linter.all false
set_option maxRecDepth 100000
set_option maxHeartbeats 4000000
/-! # pieces -/
namespace KV
open PySem PySem.Spec PyProof.Rows L2 VX RX
section
variable {P : Program} {w : World} {K : PySem.W.Frag} {mg : Str → Option Value} {base : Heap} {f : Addr} {fd : FuncData}
open RX
/-- all pieces of a triple, kind after kind -/
noncomputable def allPcs (p : Int) (n : Nat) (A B C : List (List Int)) (i : Nat) : List Pc := (List.range i).flatMap (pcsK p n A B C)
theorem allPcs_succ {p : Int} {n : Nat} {A B C : List (List Int)} {i : Nat} : allPcs p n A B C (i + 1) = allPcs p n A B C i ++ pcsK p n A B C i := by
  unfold allPcs
  rw [List.range_succ, List.flatMap_append]
  simp
end
end KV

set_option Elab.async false
set_option linter.all false
set_option maxRecDepth 100000
set_option maxHeartbeats 4000000
/-! # given, is_basis -/
namespace KV
open PySem PySem.Spec PyProof.Rows L2 VX RX
section
variable {P : Program} {w : World} {K : PySem.W.Frag} {mg : Str → Option Value} {base : Heap} {f : Addr} {fd : FuncData}
open RX
/-- what a hand is given of a piece -/
def givL (p : Int) (k : List Nat) (rs : List (List Int)) (h : Nat) : List (List Int) := if k ≠ KW.PL then (if h ∈ k then rs else []) else match rs with
  | [v, w] => if h = 97 then [v] else if h = 98 then [w] else [addR p v 1 w]
  | _ => []
end
end KV

set_option Elab.async false
set_option linter.all false
set_option maxRecDepth 100000
set_option maxHeartbeats 4000000
/-! # is_apart -/
namespace KV
open PySem PySem.Spec PyProof.Rows L2 VX RX
section
variable {P : Program} {w : World} {K : PySem.W.Frag} {mg : Str → Option Value} {base : Heap} {f : Addr} {fd : FuncData}
open RX
/-- the rows that a hand is given of all pieces -/
def ownL (p : Int) (qs : List Pc) (h : Nat) : List (List Int) := qs.flatMap fun q => givL p q.1 q.2 h
/-- what is asked of pieces -/
def Apart (p : Int) (n : Nat) (A B C : List (List Int)) (qs : List Pc) : Prop :=
  (∀ q ∈ qs, q.2.length = kLen q.1) ∧ ((qs.flatMap (·.2)).length = n ∧ (Bs p (qs.flatMap (·.2))).length = n) ∧ Bs p (ownL p qs 97) = A ∧ Bs p (ownL p qs 98) = B ∧ Bs p (ownL p qs 99) = C
end
end KV

set_option Elab.async false
set_option linter.all false
set_option maxRecDepth 100000
set_option maxHeartbeats 4000000
/-! # the pieces take a triple apart -/
namespace KV
open PySem PySem.Spec PyProof.Rows L2 VX RX
section
variable {P : Program} {w : World} {K : PySem.W.Frag} {mg : Str → Option Value} {base : Heap} {f : Addr} {fd : FuncData}
open RX
theorem mem_all {p : Int} {n : Nat} {A B C : List (List Int)} {q : Pc} : ∀ {m : Nat}, q ∈ allPcs p n A B C m ↔ ∃ i, i < m ∧ ∃ v ∈ extK (invF p) p n (wholeB p n) A B C i, q = (kA i, vecs (invF p) p n B C (kA i) v) := fun {m} => by
  unfold allPcs pcsK
  rw [List.mem_flatMap]
  constructor
  · rintro ⟨i, hi, hq⟩
    obtain ⟨v, hv, rfl⟩ := List.mem_map.mp hq
    exact ⟨i, List.mem_range.mp hi, v, hv, rfl⟩
  · rintro ⟨i, hi, v, hv, rfl⟩
    exact ⟨i, List.mem_range.mpr hi, List.mem_map.mpr ⟨v, hv, rfl⟩⟩
theorem kA_pl : ∀ i < 9, (kA i = KW.PL ↔ i = 8) := by decide
theorem kLen_vecs {p : Int} {n : Nat} {B C : List (List Int)} {k : List Nat} {v : List Int} : (vecs (invF p) p n B C k v).length = kLen k := by
  unfold vecs kLen
  split <;> rfl
theorem giv_line {p : Int} {n : Nat} {B C : List (List Int)} {i : Nat} (hi : i < 9) (n8 : i ≠ 8) {v : List Int} {h : Nat} : givL p (kA i) (vecs (invF p) p n B C (kA i) v) h = if h ∈ kA i then [v] else [] := by
  have np : kA i ≠ KW.PL := fun e => n8 ((kA_pl i hi).mp e)
  unfold givL vecs
  rw [if_pos np, if_neg np]
theorem giv_plane {p : Int} {n : Nat} {B C : List (List Int)} {v : List Int} {h : Nat} : givL p (kA 8) (vecs (invF p) p n B C (kA 8) v) h = if h = 97 then [v] else if h = 98 then [prt (invF p) p n B C v] else [addR p v 1 (prt (invF p) p n B C v)] := by
  have e : kA 8 = KW.PL := by decide
  unfold givL vecs
  rw [e, if_neg (by simp), if_pos rfl]
section
variable {p : Int} {n : Nat} {A B C : List (List Int)} (T : Tri p (invF p) n (wholeB p n) A B C)
include T
theorem vecs_row {i : Nat} {v : List Int} (hv : v ∈ extK (invF p) p n (wholeB p n) A B C i) (hi : i < 9) : ∀ r ∈ vecs (invF p) p n B C (kA i) v, Row p n r := fun r m => by
  unfold vecs at m
  split at m
  · rename_i e
    have e8 := (kA_pl i hi).mp e
    subst e8
    rcases List.mem_cons.mp m with rfl | m
    · exact T.ext_row hv
    · rw [List.mem_singleton.mp m]
      exact (T.prt hv).1.row T.I.pos T.RB.len
  · rw [List.mem_singleton.mp m]
    exact T.ext_row hv
omit T in
theorem flat_const {k : List Nat} : ∀ l : List (List Int), ((l.map fun v => ((k, vecs (invF p) p n B C k v) : Pc)).flatMap (·.2)).length = l.length * kLen k
  | [] => by simp
  | v :: l => by
    simp only [List.map_cons, List.flatMap_cons, List.length_append, List.length_cons, flat_const l, Nat.succ_mul, kLen_vecs]
    omega
omit T in
theorem rows_succ (m : Nat) : ((allPcs p n A B C (m + 1)).flatMap (·.2)).length = ((allPcs p n A B C m).flatMap (·.2)).length + (extK (invF p) p n (wholeB p n) A B C m).length * kLen (kA m) := by
  rw [allPcs_succ, List.flatMap_append, List.length_append]
  unfold pcsK
  rw [flat_const]
theorem rows_n : ((allPcs p n A B C 9).flatMap (·.2)).length = n := by
  have c := T.count
  have h0 := rows_succ (p := p) (n := n) (A := A) (B := B) (C := C) 0
  have h1 := rows_succ (p := p) (n := n) (A := A) (B := B) (C := C) 1
  have h2 := rows_succ (p := p) (n := n) (A := A) (B := B) (C := C) 2
  have h3 := rows_succ (p := p) (n := n) (A := A) (B := B) (C := C) 3
  have h4 := rows_succ (p := p) (n := n) (A := A) (B := B) (C := C) 4
  have h5 := rows_succ (p := p) (n := n) (A := A) (B := B) (C := C) 5
  have h6 := rows_succ (p := p) (n := n) (A := A) (B := B) (C := C) 6
  have h7 := rows_succ (p := p) (n := n) (A := A) (B := B) (C := C) 7
  have h8 := rows_succ (p := p) (n := n) (A := A) (B := B) (C := C) 8
  have z : ((allPcs p n A B C 0).flatMap (·.2)).length = 0 := rfl
  rw [kLen_kA 0 (by decide)] at h0
  rw [kLen_kA 1 (by decide)] at h1
  rw [kLen_kA 2 (by decide)] at h2
  rw [kLen_kA 3 (by decide)] at h3
  rw [kLen_kA 4 (by decide)] at h4
  rw [kLen_kA 5 (by decide)] at h5
  rw [kLen_kA 6 (by decide)] at h6
  rw [kLen_kA 7 (by decide)] at h7
  rw [kLen_kA 8 (by decide)] at h8
  simp only [Nat.zero_add, Nat.reduceAdd, Nat.reduceEqDiff, if_false, if_true] at h0 h1 h2 h3 h4 h5 h6 h7 h8
  omega
/-- the rows of all pieces -/
theorem rows_row : ∀ r ∈ (allPcs p n A B C 9).flatMap (·.2), Row p n r := fun r m => by
  obtain ⟨q, hq, hr⟩ := List.mem_flatMap.mp m
  obtain ⟨i, hi, v, hv, rfl⟩ := mem_all.mp hq
  exact vecs_row T hv hi r hr
theorem row_all {i : Nat} (hi : i < 9) {v : List Int} (hv : v ∈ extK (invF p) p n (wholeB p n) A B C i) {r : List Int} (hr : r ∈ vecs (invF p) p n B C (kA i) v) : r ∈ (allPcs p n A B C 9).flatMap (·.2) :=
  List.mem_flatMap.mpr ⟨_, mem_all.mpr ⟨i, hi, v, hv, rfl⟩, hr⟩
theorem self_all {i : Nat} (hi : i < 9) {v : List Int} (hv : v ∈ extK (invF p) p n (wholeB p n) A B C i) : InS p n ((allPcs p n A B C 9).flatMap (·.2)) v := by
  refine .self T.I.two (T.ext_row hv) (row_all T hi hv ?_)
  unfold vecs
  split <;> exact .head _
theorem own_mem {h : Nat} {r : List Int} : r ∈ ownL p (allPcs p n A B C 9) h ↔ ∃ i, i < 9 ∧ ∃ v ∈ extK (invF p) p n (wholeB p n) A B C i, r ∈ givL p (kA i) (vecs (invF p) p n B C (kA i) v) h := by
  unfold ownL
  rw [List.mem_flatMap]
  constructor
  · rintro ⟨q, hq, hr⟩
    obtain ⟨i, hi, v, hv, rfl⟩ := mem_all.mp hq
    exact ⟨i, hi, v, hv, hr⟩
  · rintro ⟨i, hi, v, hv, hr⟩
    exact ⟨_, mem_all.mpr ⟨i, hi, v, hv, rfl⟩, hr⟩
theorem own_row {h : Nat} : ∀ r ∈ ownL p (allPcs p n A B C 9) h, Row p n r := fun r m => by
  obtain ⟨i, hi, v, hv, hr⟩ := (own_mem T).mp m
  have rv := T.ext_row hv
  by_cases e : i = 8
  · subst e
    rw [giv_plane] at hr
    have rp := (T.prt hv).1.row T.I.pos T.RB.len
    split at hr
    · rw [List.mem_singleton.mp hr]; exact rv
    · split at hr
      · rw [List.mem_singleton.mp hr]; exact rp
      · rw [List.mem_singleton.mp hr]; exact addR_row T.I.pos rv.1 rp.1
  · rw [giv_line hi e] at hr
    split at hr
    · rw [List.mem_singleton.mp hr]; exact rv
    · exact nomatch hr
/-- a line's vector that a hand is given -/
theorem own_line {h i : Nat} (hi : i < 9) (n8 : i ≠ 8) (hm : h ∈ kA i) : ∀ r ∈ extK (invF p) p n (wholeB p n) A B C i, InS p n (ownL p (allPcs p n A B C 9) h) r := fun r hr =>
  .self T.I.two (T.ext_row hr) ((own_mem T).mpr ⟨i, hi, r, hr, by rw [giv_line hi n8, if_pos hm]; exact .head _⟩)
theorem own_A : ∀ v, InS p n (ownL p (allPcs p n A B C 9) 97) v ↔ InS p n A v := fun v => by
  have hL : Len n (ownL p (allPcs p n A B C 9) 97) := fun r m => (own_row T r m).1
  constructor
  · refine fun i => i.imp T.I.pos T.RA.len fun r m => ?_
    obtain ⟨i, hi, w, hw, hr⟩ := (own_mem T).mp m
    by_cases e : i = 8
    · subst e
      rw [giv_plane, if_pos rfl] at hr
      rw [List.mem_singleton.mp hr]
      exact (T.plane_in hw).1
    · rw [giv_line hi e] at hr
      split at hr
      · rename_i hm
        rw [List.mem_singleton.mp hr]
        have hx := T.ext_in hw
        have : i = 1 ∨ i = 4 ∨ i = 5 ∨ i = 7 := (by decide : ∀ i < 9, i ≠ 8 → 97 ∈ kA i → i = 1 ∨ i = 4 ∨ i = 5 ∨ i = 7) i hi e hm
        rcases this with rfl | rfl | rfl | rfl
        · exact hx
        · exact ((T.com cA cB w).mp hx).1
        · exact ((T.com cA cC w).mp hx).1
        · exact ((T.com cA cB w).mp ((T.com (tM cA cB) cC w).mp hx).1).1
      · exact nomatch hr
  · exact T.fillA hL (own_line T (by decide) (by decide) (by decide)) (own_line T (by decide) (by decide) (by decide)) (own_line T (by decide) (by decide) (by decide)) (own_line T (by decide) (by decide) (by decide)) (fun r hr => .self T.I.two (T.ext_row hr) ((own_mem T).mpr ⟨8, by decide, r, hr, by rw [giv_plane, if_pos rfl]; exact .head _⟩)) v
theorem own_B : ∀ v, InS p n (ownL p (allPcs p n A B C 9) 98) v ↔ InS p n B v := fun v => by
  have hL : Len n (ownL p (allPcs p n A B C 9) 98) := fun r m => (own_row T r m).1
  constructor
  · refine fun i => i.imp T.I.pos T.RB.len fun r m => ?_
    obtain ⟨i, hi, w, hw, hr⟩ := (own_mem T).mp m
    by_cases e : i = 8
    · subst e
      rw [giv_plane, if_neg (by decide), if_pos rfl] at hr
      rw [List.mem_singleton.mp hr]
      exact (T.prt hw).1
    · rw [giv_line hi e] at hr
      split at hr
      · rename_i hm
        rw [List.mem_singleton.mp hr]
        have hx := T.ext_in hw
        have : i = 2 ∨ i = 4 ∨ i = 6 ∨ i = 7 := (by decide : ∀ i < 9, i ≠ 8 → 98 ∈ kA i → i = 2 ∨ i = 4 ∨ i = 6 ∨ i = 7) i hi e hm
        rcases this with rfl | rfl | rfl | rfl
        · exact hx
        · exact ((T.com cA cB w).mp hx).2
        · exact ((T.com cB cC w).mp hx).1
        · exact ((T.com cA cB w).mp ((T.com (tM cA cB) cC w).mp hx).1).2
      · exact nomatch hr
  · exact T.fillB hL (own_line T (by decide) (by decide) (by decide)) (own_line T (by decide) (by decide) (by decide)) (own_line T (by decide) (by decide) (by decide)) (own_line T (by decide) (by decide) (by decide)) (fun r hr => .self T.I.two ((T.prt hr).1.row T.I.pos T.RB.len) ((own_mem T).mpr ⟨8, by decide, r, hr, by rw [giv_plane, if_neg (by decide), if_pos rfl]; exact .head _⟩)) v
theorem own_C : ∀ v, InS p n (ownL p (allPcs p n A B C 9) 99) v ↔ InS p n C v := fun v => by
  have hL : Len n (ownL p (allPcs p n A B C 9) 99) := fun r m => (own_row T r m).1
  constructor
  · refine fun i => i.imp T.I.pos T.RC.len fun r m => ?_
    obtain ⟨i, hi, w, hw, hr⟩ := (own_mem T).mp m
    by_cases e : i = 8
    · subst e
      rw [giv_plane, if_neg (by decide), if_neg (by decide)] at hr
      rw [List.mem_singleton.mp hr]
      exact (T.prt hw).2
    · rw [giv_line hi e] at hr
      split at hr
      · rename_i hm
        rw [List.mem_singleton.mp hr]
        have hx := T.ext_in hw
        have : i = 3 ∨ i = 5 ∨ i = 6 ∨ i = 7 := (by decide : ∀ i < 9, i ≠ 8 → 99 ∈ kA i → i = 3 ∨ i = 5 ∨ i = 6 ∨ i = 7) i hi e hm
        rcases this with rfl | rfl | rfl | rfl
        · exact hx
        · exact ((T.com cA cC w).mp hx).2
        · exact ((T.com cB cC w).mp hx).2
        · exact ((T.com (tM cA cB) cC w).mp hx).2
      · exact nomatch hr
  · exact T.fillC hL (own_line T (by decide) (by decide) (by decide)) (own_line T (by decide) (by decide) (by decide)) (own_line T (by decide) (by decide) (by decide)) (own_line T (by decide) (by decide) (by decide)) (fun r hr => .self T.I.two (addR_row T.I.pos (T.ext_row hr).1 ((T.prt hr).1.row T.I.pos T.RB.len).1) ((own_mem T).mpr ⟨8, by decide, r, hr, by rw [giv_plane, if_neg (by decide), if_neg (by decide)]; exact .head _⟩)) v
theorem bs_of {L D : List (List Int)} (hL : ∀ r ∈ L, Row p n r) (hD : Rref p n D) (h : ∀ v, InS p n L v ↔ InS p n D v) : Bs p L = D := by
  have e : L.map (modR p) = L := by rw [List.map_congr_left fun r m => modR_id (hL r m) T.I.pos, List.map_id']
  unfold Bs
  rw [e]
  exact (reduced_ok T.I hL).uniq T.I.two hD fun v => (reduced_span T.I hL v).trans (h v)
/-- the pieces take the triple apart -/
theorem apart_ok : Apart p n A B C (allPcs p n A B C 9) := by
  have hL : Len n ((allPcs p n A B C 9).flatMap (·.2)) := fun r m => (rows_row T r m).1
  have se := fun {i : Nat} (hi : i < 9) (r : List Int) (hr : r ∈ extK (invF p) p n (wholeB p n) A B C i) => self_all T hi hr
  have prow := fun (r : List Int) (hr : r ∈ extK (invF p) p n (wholeB p n) A B C 8) => InS.self T.I.two ((T.prt hr).1.row T.I.pos T.RB.len) (row_all T (i := 8) (by decide) hr (r := prt (invF p) p n B C r) (by unfold vecs; rw [if_pos (by decide)]; exact .tail _ (.head _)))
  have fA := T.fillA hL (se (by decide)) (se (by decide)) (se (by decide)) (se (by decide)) (se (by decide))
  have fB := T.fillB hL (se (by decide)) (se (by decide)) (se (by decide)) (se (by decide)) prow
  have fC := T.fillC hL (se (by decide)) (se (by decide)) (se (by decide)) (se (by decide)) (fun r hr => (se (by decide) r hr).comb T.I.pos hL (prow r hr))
  have fW := T.fillW hL (se (by decide)) fA fB fC
  refine ⟨fun q hq => ?_, ⟨?_, ?_⟩, bs_of T (own_row T) T.RA (own_A T), bs_of T (own_row T) T.RB (own_B T), bs_of T (own_row T) T.RC (own_C T)⟩
  · obtain ⟨i, hi, v, hv, rfl⟩ := mem_all.mp hq
    exact kLen_vecs
  · exact rows_n T
  · rw [bs_of T (rows_row T) T.RW fun v => ⟨fun i => T.hW v (i.row T.I.pos hL), fW v⟩]
    exact T.whole
end
end
end KV

set_option Elab.async false
set_option linter.all false
set_option maxRecDepth 100000
set_option maxHeartbeats 4000000
/-! # nine numbers -/
namespace KV
open PySem PySem.Spec PyProof.Rows L2 VX RX
section
variable {P : Program} {w : World} {K : PySem.W.Frag} {mg : Str → Option Value} {base : Heap} {f : Addr} {fd : FuncData}
open RX
def dictK (g : List Nat → V) : List (Key × V) := KW.kinds.map fun k => (Sum.inr (KX.kS k), g k)
theorem dictK_put (g : List Nat → V) {i : Nat} {k : List Nat} (h : KW.kinds[i]? = some k) : putK ((dictK g).take i) (Sum.inr (KX.kS k)) (g k) = (dictK g).take (i + 1) := by
  match i, h with
  | 0, h => cases h; rfl
  | 1, h => cases h; rfl
  | 2, h => cases h; rfl
  | 3, h => cases h; rfl
  | 4, h => cases h; rfl
  | 5, h => cases h; rfl
  | 6, h => cases h; rfl
  | 7, h => cases h; rfl
  | 8, h => cases h; rfl
  | i + 9, h => exact absurd h (by simp [KW.kinds])
end
end KV

set_option linter.all false
/-! # the dimensions of a word's value in a triple made of kinds (plain mathematics, no Python) -/
namespace RX
open KW
variable {p : Int} {inv : Int → Int} {n : Nat}
/-- the rows that a mark means on a kind -/
def mRows (n a : Nat) (k : List Nat) (m : Nat) : List (List Int) := if k = PL then (if m = 97 then [eR n a] else if m = 98 then [eR n (a + 1)] else if m = 99 then [eRR n a] else if m = 48 then [] else [eR n a, eR n (a + 1)]) else if m = 49 then [eR n a] else []
def tRows (n : Nat) (t : Tr) : Nat → List (List Nat) → List (List Int)
  | _, [] => []
  | a, k :: ks => mRows n a k (mk k t) ++ tRows n t (a + kLen k) ks
theorem m_cases {a : Nat} {k : List Nat} {m : Nat} {r : List Int} (h : r ∈ mRows n a k m) : r = eR n a ∨ (k = PL ∧ (r = eR n (a + 1) ∨ r = eRR n a)) := by
  unfold mRows at h
  split at h
  · rename_i e
    repeat' split at h
    · exact .inl (List.mem_singleton.mp h)
    · exact .inr ⟨e, .inl (List.mem_singleton.mp h)⟩
    · exact .inr ⟨e, .inr (List.mem_singleton.mp h)⟩
    · exact nomatch h
    · rcases List.mem_cons.mp h with h | h
      · exact .inl h
      · exact .inr ⟨e, .inl (List.mem_singleton.mp h)⟩
  · split at h
    · exact .inl (List.mem_singleton.mp h)
    · exact nomatch h
theorem m_len {a : Nat} {k : List Nat} {m : Nat} : Len n (mRows n a k m) := fun r h => by
  rcases m_cases h with rfl | ⟨_, rfl | rfl⟩ <;> simp [eR, eRR]
theorem m_row (I : Inv p inv) {a : Nat} {k : List Nat} {m : Nat} : ∀ r ∈ mRows n a k m, Row p n r := fun r h => by
  rcases m_cases h with rfl | ⟨_, rfl | rfl⟩
  · exact eR_row I
  · exact eR_row I
  · exact eRR_row I
theorem m_from {a : Nat} {k : List Nat} {m : Nat} : ∀ r ∈ mRows n a k m, From a r := fun r h i hi => by
  rcases m_cases h with rfl | ⟨_, rfl | rfl⟩
  · rw [at0_eR, if_neg (by omega)]
  · rw [at0_eR, if_neg (by omega)]
  · rw [at0_eRR, if_neg (by omega)]
theorem m_above {a : Nat} {k : List Nat} {m : Nat} : ∀ r ∈ mRows n a k m, ∀ i, a + kLen k ≤ i → at0 r i = 0 := fun r h i hi => by
  rcases m_cases h with rfl | ⟨e, rfl | rfl⟩
  · rw [at0_eR, if_neg (by rcases kLen_two (k := k) with e | e <;> omega)]
  · have : kLen k = 2 := if_pos e
    rw [at0_eR, if_neg (by omega)]
  · have : kLen k = 2 := if_pos e
    rw [at0_eRR, if_neg (by omega)]
theorem m_zero {a : Nat} {k : List Nat} {m : Nat} : ∀ r ∈ mRows n a k m, zeroTo (a + kLen k) r = List.replicate n 0 := fun r h => by
  refine ext0 (by rw [zeroTo_len, m_len r h, List.length_replicate]) fun i _ => ?_
  rw [at0_zeroTo, at0_rep]
  split
  · rfl
  · exact m_above r h i (by omega)
theorem t_len {t : Tr} : ∀ {ks : List (List Nat)} {a : Nat}, Len n (tRows n t a ks)
  | [], _, _, h => nomatch h
  | _ :: _, _, r, h => (List.mem_append.mp h).elim (m_len r) (t_len r)
theorem t_from {t : Tr} : ∀ {ks : List (List Nat)} {a : Nat}, ∀ r ∈ tRows n t a ks, From a r
  | [], _, _, h => nomatch h
  | k :: ks, a, r, h => (List.mem_append.mp h).elim (m_from r) fun h i hi => t_from r h i (by omega)
theorem lead_e {a : Nat} (h : a < n) : lead (eR n a) = a := lead_eq (by rw [at0_eR, if_pos ⟨h, rfl⟩]; decide) fun j hj => by rw [at0_eR, if_neg (by omega)]
theorem lead_ee {a : Nat} (h : a < n) : lead (eRR n a) = a := lead_eq (by rw [at0_eRR, if_pos ⟨h, .inl rfl⟩]; decide) fun j hj => by rw [at0_eRR, if_neg (by omega)]
theorem one_rref (I : Inv p inv) {r : List Int} (hr : Row p n r) {a : Nat} (ha : a < n) (hl : lead r = a) (h1 : at0 r a = 1) : Rref p n [r] :=
  ⟨fun s m => by rw [List.mem_singleton.mp m]; exact hr, fun s m => by rw [List.mem_singleton.mp m, hl]; exact ha, fun s m => by rw [List.mem_singleton.mp m, hl]; exact h1, List.pairwise_singleton _ _, List.pairwise_singleton _ _⟩
/-- the rows of a mark are reduced -/
theorem m_rref (I : Inv p inv) {a : Nat} {k : List Nat} {m : Nat} (ha : a + kLen k ≤ n) : Rref p n (mRows n a k m) := by
  have k1 : 1 ≤ kLen k := by rcases kLen_two (k := k) with e | e <;> omega
  have e0 := one_rref I (eR_row I (n := n)) (show a < n by omega) (lead_e (by omega)) (by rw [at0_eR, if_pos ⟨by omega, rfl⟩])
  unfold mRows
  split
  · rename_i e
    have k2 : kLen k = 2 := if_pos e
    have e1 := one_rref I (eR_row I (n := n)) (show a + 1 < n by omega) (lead_e (by omega)) (by rw [at0_eR, if_pos ⟨by omega, rfl⟩])
    have e2 := one_rref I (eRR_row I (n := n)) (show a < n by omega) (lead_ee (by omega)) (by rw [at0_eRR, if_pos ⟨by omega, .inl rfl⟩])
    repeat' split
    · exact e0
    · exact e1
    · exact e2
    · exact .nil
    · refine ⟨fun s m => ?_, fun s m => ?_, fun s m => ?_, ?_, ?_⟩
      · rcases List.mem_cons.mp m with rfl | m
        · exact eR_row I
        · rw [List.mem_singleton.mp m]; exact eR_row I
      · rcases List.mem_cons.mp m with rfl | m
        · rw [lead_e (by omega)]; omega
        · rw [List.mem_singleton.mp m, lead_e (by omega)]; omega
      · rcases List.mem_cons.mp m with rfl | m
        · rw [lead_e (by omega), at0_eR, if_pos ⟨by omega, rfl⟩]
        · rw [List.mem_singleton.mp m, lead_e (by omega), at0_eR, if_pos ⟨by omega, rfl⟩]
      · refine List.pairwise_cons.mpr ⟨fun s m => ?_, List.pairwise_singleton _ _⟩
        rw [List.mem_singleton.mp m, lead_e (by omega), lead_e (by omega)]
        omega
      · refine List.pairwise_cons.mpr ⟨fun s m => ?_, List.pairwise_singleton _ _⟩
        rw [List.mem_singleton.mp m, lead_e (by omega), at0_eR, if_neg (by omega)]
  · split
    · exact e0
    · exact .nil
theorem t_rref (I : Inv p inv) {t : Tr} : ∀ (ks : List (List Nat)) (a : Nat), a + total ks = n → Rref p n (tRows n t a ks)
  | [], _, _ => .nil
  | k :: ks, a, h => by
    have hk : a + kLen k + total ks = n := by simp only [total] at h; omega
    have R1 := m_rref I (n := n) (a := a) (k := k) (m := mk k t) (by omega)
    have R2 := t_rref I ks (a + kLen k) hk (t := t)
    have lo : ∀ s ∈ tRows n t (a + kLen k) ks, a + kLen k ≤ lead s := fun s hs => by
      refine Nat.le_of_not_lt fun q => ?_
      have := t_from s hs _ q
      rw [R2.one s hs] at this
      cases this
    have hi : ∀ r ∈ mRows n a k (mk k t), lead r < a + kLen k := fun r hr => by
      refine Nat.lt_of_not_le fun q => ?_
      have := m_above r hr _ q
      rw [R1.one r hr] at this
      cases this
    refine ⟨fun r m => (List.mem_append.mp m).elim (R1.rows r) (R2.rows r), fun r m => (List.mem_append.mp m).elim (R1.lt r) (R2.lt r), fun r m => (List.mem_append.mp m).elim (R1.one r) (R2.one r), ?_, ?_⟩
    · refine List.pairwise_append.mpr ⟨R1.inc, R2.inc, fun r hr s hs => ?_⟩
      have := lo s hs
      have := hi r hr
      omega
    · exact List.pairwise_append.mpr ⟨R1.col, R2.col, fun r hr s hs => m_above r hr _ (lo s hs)⟩
/-- on a kind: the value is what its mark means -/
theorem blk_val (I : Inv p inv) {t : Tr} (ht : WF t = true) {k : List Nat} {a : Nat} (ha : a + kLen k ≤ n) (T : DX.Trip (rowVS I n) (Mid I n a (a + kLen k)) (inP (blk n a k 97)) (inP (blk n a k 98)) (inP (blk n a k 99))) (w : Rw p n) :
    DX.valP (rowVS I n) (Mid I n a (a + kLen k)) (inP (blk n a k 97)) (inP (blk n a k 98)) (inP (blk n a k 99)) t w ↔ inP (mRows n a k (mk k t)) w := by
  have mid : inP (mRows n a k (mk k t)) w → Mid I n a (a + kLen k) w := fun i => ⟨in_from I m_len m_from i, Subtype.ext (by
    have := cut_hand I (c := []) m_len (fun _ h => nomatch h) m_zero (fun _ h => nomatch h) (v := w.1) (by rw [List.append_nil]; exact i)
    exact in_nil.mp this)⟩
  by_cases np : k = PL
  · subst np
    have k2 : kLen PL = 2 := rfl
    rw [k2] at ha T mid ⊢
    have P := blk_plane I (n := n) (a := a) (by omega)
    have pv := DX.plane_val T P t ht w
    refine pv.trans ?_
    have f5 := mk_five (k := PL) ht
    generalize mk PL t = m at f5 mid ⊢
    have hm : m = 48 ∨ m = 49 ∨ m = 97 ∨ m = 98 ∨ m = 99 := by
      simp only [five, Bool.or_eq_true, beq_iff_eq] at f5
      omega
    rcases hm with rfl | rfl | rfl | rfl | rfl
    · show w = (rowVS I n).z ↔ inP [] w
      exact ⟨fun e => by rw [e]; exact .zero, fun i => Subtype.ext (in_nil.mp i)⟩
    · show Mid I n a (a + 2) w ↔ inP [eR n a, eR n (a + 1)] w
      refine ⟨fun h => ?_, mid⟩
      obtain ⟨x, y, hx, hy, e⟩ := P.sab h
      have h1 : InS p n [eR n a, eR n (a + 1)] x.1 := InS.mono (show InS p n [eR n a] x.1 from hx) fun r m => by rw [List.mem_singleton.mp m]; exact .head _
      have h2 : InS p n [eR n a, eR n (a + 1)] y.1 := InS.mono (show InS p n [eR n (a + 1)] y.1 from hy) fun r m => by rw [List.mem_singleton.mp m]; exact .tail _ (.head _)
      rw [e]
      exact h1.comb I.pos (fun r m => by rcases List.mem_cons.mp m with rfl | m; · simp [eR]
                                         rw [List.mem_singleton.mp m]; simp [eR]) h2
    · exact Iff.rfl
    · exact Iff.rfl
    · exact Iff.rfl
  · have e1 : kLen k = 1 := if_neg np
    rw [e1] at ha T mid ⊢
    have L := blk_line I (n := n) (a := a) (by omega) np
    have ev : mRows n a k (mk k t) = if mk k t = 49 then [eR n a] else [] := if_neg np
    rw [ev] at mid ⊢
    constructor
    · intro h
      have hX := DX.val_in T t h
      rcases (DX.line_val T L t ht w hX).mp h with e | e
      · rw [e]; exact .zero
      · rw [if_pos e]
        obtain ⟨f, hf⟩ := L.of hX
        rw [hf]
        exact .add f .zero (.head _)
    · intro i
      have hX := mid i
      refine (DX.line_val T L t ht w hX).mpr ?_
      by_cases e : mk k t = 49
      · exact .inr e
      · rw [if_neg e] at i
        exact .inl (Subtype.ext (in_nil.mp i))
/-- in a triple made of kinds: a word's value is what its marks mean -/
theorem kinds_val (I : Inv p inv) {t : Tr} (ht : WF t = true) : ∀ (ks : List (List Nat)) (a : Nat), a + total ks = n →
    ∀ v, DX.valP (rowVS I n) (Back p n a) (inP (rowsOf n a ks 97)) (inP (rowsOf n a ks 98)) (inP (rowsOf n a ks 99)) t v ↔ inP (tRows n t a ks) v
  | [], a, h, v => by
    have T := back_trip I (a := a) (n := n) rows_len rows_len rows_len (rows_from (ks := []) (h := 97)) (rows_from (ks := []) (h := 98)) (rows_from (ks := []) (h := 99))
    constructor
    · intro hv
      have hb : From a v.1 := DX.val_in T t hv
      have e : v.1 = List.replicate n 0 := ext0 (by rw [v.2.1]; simp) fun i hi => by
        have ha : a = n := by simpa [total] using h
        rw [hb i (by rw [v.2.1] at hi; omega)]
        exact at0_rep.symm
      show InS p n [] v.1
      rw [e]
      exact .zero
    · intro i
      have e : v = (rowVS I n).z := Subtype.ext (in_nil.mp i)
      rw [e]
      exact (DX.val_sub T t).z
  | k :: ks, a, h, v => by
    have hk : a + kLen k + total ks = n := by simp only [total] at h; omega
    have le : a ≤ a + kLen k := by omega
    have T := back_trip I (a := a) (n := n) rows_len rows_len rows_len (rows_from (ks := k :: ks) (h := 97)) (rows_from (ks := k :: ks) (h := 98)) (rows_from (ks := k :: ks) (h := 99))
    have K : DX.Cut (rowVS I n) (Back p n a) (inP (rowsOf n a (k :: ks) 97)) (inP (rowsOf n a (k :: ks) 98)) (inP (rowsOf n a (k :: ks) 99)) (cutAt I.pos (a + kLen k)) :=
      rows_cut I a (a + kLen k) le blk_len blk_len blk_len rows_len rows_len rows_len blk_zero blk_zero blk_zero rows_from rows_from rows_from
    have TK := K.kill T
    have cu := DX.split K T t v
    rw [fix_back I le, kill_back I] at cu
    rw [kill_back I] at TK
    have f := fun h => fix_hand I (b := blk n a k h) (c := rowsOf n (a + kLen k) ks h) (a := a + kLen k) blk_len rows_len blk_zero rows_from
    have g := fun h => kill_hand I (b := blk n a k h) (c := rowsOf n (a + kLen k) ks h) (a := a + kLen k) blk_len rows_len blk_zero rows_from
    have f' : ∀ h, DX.fixd (cutAt I.pos (a + kLen k)) (inP (p := p) (rowsOf n a (k :: ks) h)) = inP (rowsOf n (a + kLen k) ks h) := f
    have g' : ∀ h, DX.kill (rowVS I n) (cutAt I.pos (a + kLen k)) (inP (rowsOf n a (k :: ks) h)) = inP (blk n a k h) := g
    rw [f' 97, f' 98, f' 99, g' 97, g' 98, g' 99] at cu
    rw [g' 97, g' 98, g' 99] at TK
    refine cu.trans ?_
    have LT : Len n (mRows n a k (mk k t) ++ tRows n t (a + kLen k) ks) := fun r m => (List.mem_append.mp m).elim (m_len r) (t_len r)
    have pi := DX.part_iff K (inP_sub I LT) (fun {v} h => (cut_hand I m_len t_len m_zero t_from h).mono fun r m => List.mem_append_right _ m) v
    rw [fix_hand I m_len t_len m_zero t_from, kill_hand I m_len t_len m_zero t_from] at pi
    refine Iff.trans ?_ pi.symm
    exact and_congr (kinds_val I ht ks (a + kLen k) hk _) (blk_val I ht (by omega) TK _)
end RX

set_option linter.all false
/-! # the nine numbers of a triple made of kinds; changes of coordinates keep them (plain mathematics, no Python) -/
namespace RX
open KW
variable {p : Int} {inv : Int → Int} {n : Nat}
def dimM (k : List Nat) (m : Nat) : Nat := if k = PL then (if m = 97 then 1 else if m = 98 then 1 else if m = 99 then 1 else if m = 48 then 0 else 2) else if m = 49 then 1 else 0
theorem m_length {a : Nat} {k : List Nat} {m : Nat} : (mRows n a k m).length = dimM k m := by
  unfold mRows dimM
  repeat' split
  all_goals rfl
theorem t_length {t : Tr} : ∀ (ks : List (List Nat)) (a : Nat), (tRows n t a ks).length = (ks.map fun k => dimM k (mk k t)).sum
  | [], _ => rfl
  | k :: ks, a => by simp only [tRows, List.length_append, m_length, t_length ks, List.map_cons, List.sum_cons]
section
variable {W A B C : List (List Int)} {ks : List (List Nat)}
theorem built_dim (T : Tri p inv n W A B C) (hn : total ks = n) (hA : ∀ v, InS p n A v ↔ InS p n (rowsOf n 0 ks 97) v) (hB : ∀ v, InS p n B v ↔ InS p n (rowsOf n 0 ks 98) v) (hC : ∀ v, InS p n C v ↔ InS p n (rowsOf n 0 ks 99) v) {t : Tr} (ht : WF t = true) :
    (valI inv p n W A B C t).length = (ks.map fun k => dimM k (mk k t)).sum := by
  have eW : (inP W : Rw p n → Prop) = Back p n 0 := funext fun v => propext ⟨fun _ i hi => absurd hi (Nat.not_lt_zero _), fun _ => T.hW _ v.2⟩
  have eA : (inP A : Rw p n → Prop) = inP (rowsOf n 0 ks 97) := funext fun v => propext (hA v.1)
  have eB : (inP B : Rw p n → Prop) = inP (rowsOf n 0 ks 98) := funext fun v => propext (hB v.1)
  have eC : (inP C : Rw p n → Prop) = inP (rowsOf n 0 ks 99) := funext fun v => propext (hC v.1)
  have R := t_rref T.I ks 0 (by omega) (n := n) (t := t)
  rw [← t_length (n := n) ks 0, (T.val t).uniq T.I.two R fun v => ?_]
  have key : ∀ v : Rw p n, inP (valI inv p n W A B C t) v ↔ inP (tRows n t 0 ks) v := fun v => by
    rw [valI_iff T.I T.RW T.RA T.RB T.RC t v, eW, eA, eB, eC]
    exact kinds_val T.I ht ks 0 (by omega) v
  exact ⟨fun i => (key ⟨v, i.row T.I.pos (T.val t).len⟩).mp i, fun i => (key ⟨v, i.row T.I.pos R.len⟩).mpr i⟩
end
theorem delta : ∀ i < 9, ∀ k ∈ kinds, dimM k (mk k (outT i)) = dimM k (mk k (innT i)) + (if k = kA i then 1 else 0) := by decide
theorem wf_lay : ∀ i < 9, WF (innT i) = true ∧ WF (outT i) = true := by decide
theorem sum_delta {i : Nat} (hi : i < 9) : ∀ ks : List (List Nat), (∀ k ∈ ks, k ∈ kinds) → (ks.map fun k => dimM k (mk k (outT i))).sum = (ks.map fun k => dimM k (mk k (innT i))).sum + ks.count (kA i)
  | [], _ => rfl
  | k :: ks, h => by
    have h1 := delta i hi k (h k (.head _))
    have h2 := sum_delta hi ks fun x hx => h x (.tail _ hx)
    simp only [List.map_cons, List.sum_cons, List.count_cons]
    rw [h1, h2]
    by_cases e : k = kA i
    · rw [if_pos e, if_pos (by simpa using e)]; omega
    · rw [if_neg e, if_neg (by simpa using e)]; omega
theorem kA_inj : ∀ i < 9, ∀ j < 9, kA i = kA j → i = j := by decide
theorem count_kpre {cs : List Int} {i : Nat} (hi : i < 9) : ∀ m, m ≤ 9 → (kpre cs m).count (kA i) = if i < m then (at0 cs i).toNat else 0
  | 0, _ => by simp [kpre]
  | m + 1, h => by
    rw [kpre, List.count_append, count_kpre hi m (by omega), List.count_replicate]
    by_cases e : i = m
    · subst e
      rw [if_neg (Nat.lt_irrefl _), if_pos (by simp), if_pos (Nat.lt_succ_self _), Nat.zero_add]
    · have ne : kA m ≠ kA i := fun q => e (kA_inj m (by omega) i hi q).symm
      rw [if_neg (c := (kA m == kA i) = true) (by simpa using ne), Nat.add_zero]
      by_cases l : i < m
      · rw [if_pos l, if_pos (by omega)]
      · rw [if_neg l, if_neg (by omega)]
theorem kpre_kinds {cs : List Int} : ∀ k ∈ kpre cs 9, k ∈ kinds := fun k h => by
  obtain ⟨j, hj, rfl, _⟩ := kpre_mem h
  exact kA_mem j hj
/-! ### changes of coordinates -/
/-- a change of coordinates, with its way back -/
structure Iso (p : Int) (n : Nat) (f g : List Int → List Int) : Prop where
  row : ∀ {v}, Row p n v → Row p n (f v)
  back : ∀ {v}, Row p n v → Row p n (g v)
  gf : ∀ {v}, Row p n v → g (f v) = v
  fg : ∀ {v}, Row p n v → f (g v) = v
  add : ∀ {v u : List Int} {c : Int}, Row p n v → Row p n u → f (addR p v c u) = addR p (f v) c (f u)
  zero : f (List.replicate n 0) = List.replicate n 0
theorem Iso.id {p : Int} {n : Nat} : Iso p n (fun v => v) (fun v => v) := ⟨fun h => h, fun h => h, fun _ => rfl, fun _ => rfl, fun _ _ => rfl, rfl⟩
theorem Iso.comp {p : Int} {n : Nat} {f g f' g' : List Int → List Int} (h : Iso p n f g) (h' : Iso p n f' g') : Iso p n (fun v => f' (f v)) (fun v => g (g' v)) :=
  ⟨fun r => h'.row (h.row r), fun r => h.back (h'.back r), fun r => by rw [h'.gf (h.row r), h.gf r], fun r => by rw [h.fg (h'.back r), h'.fg r], fun r s => by rw [h.add r s, h'.add (h.row r) (h.row s)], by rw [h.zero, h'.zero]⟩
theorem Iso.inj {p : Int} {n : Nat} {f g : List Int → List Int} (h : Iso p n f g) {v u : List Int} (rv : Row p n v) (ru : Row p n u) (e : f v = f u) : v = u := by
  rw [← h.gf rv, e, h.gf ru]
section
variable {W A B C A' B' C' : List (List Int)} {f g : List Int → List Int}
theorem iso_val (T : Tri p inv n W A B C) (T' : Tri p inv n W A' B' C') (F : Iso p n f g) (hA : ∀ v, Row p n v → (InS p n A v ↔ InS p n A' (f v))) (hB : ∀ v, Row p n v → (InS p n B v ↔ InS p n B' (f v))) (hC : ∀ v, Row p n v → (InS p n C v ↔ InS p n C' (f v))) :
    ∀ (t : Tr) (v : List Int), Row p n v → (InS p n (valI inv p n W A B C t) v ↔ InS p n (valI inv p n W A' B' C' t) (f v))
  | .lf c, v, rv => by
    unfold valI
    split
    · exact hA v rv
    split
    · exact hB v rv
    split
    · exact hC v rv
    split
    · show InS p n [] v ↔ InS p n [] (f v)
      rw [in_nil, in_nil]
      exact ⟨fun e => by rw [e, F.zero], fun e => F.inj rv (zero_row T.I.pos) (by rw [e, F.zero])⟩
    · exact ⟨fun _ => T.hW _ (F.row rv), fun _ => T.hW _ rv⟩
  | .nd c l r, v, rv => by
    have hl := iso_val T T' F hA hB hC l
    have hr := iso_val T T' F hA hB hC r
    by_cases e : c = 43
    · subst e
      refine (T.sum l r v).trans (Iff.trans ?_ (T'.sum l r (f v)).symm)
      constructor
      · rintro ⟨x, y, hx, hy, rfl⟩
        have rx := T.row l hx
        have ry := T.row r hy
        exact ⟨f x, f y, (hl x rx).mp hx, (hr y ry).mp hy, F.add rx ry⟩
      · rintro ⟨x, y, hx, hy, e⟩
        have rx := T'.row l hx
        have ry := T'.row r hy
        refine ⟨g x, g y, (hl _ (F.back rx)).mpr (by rw [F.fg rx]; exact hx), (hr _ (F.back ry)).mpr (by rw [F.fg ry]; exact hy), ?_⟩
        refine F.inj rv (addR_row T.I.pos (F.back rx).1 (F.back ry).1) ?_
        rw [F.add (F.back rx) (F.back ry), F.fg rx, F.fg ry, e]
    · unfold valI
      rw [if_neg e, if_neg e, common_span T.I (T.val l) (T.val r), common_span T.I (T'.val l) (T'.val r)]
      exact and_congr (hl v rv) (hr v rv)
theorem iso_dim (T : Tri p inv n W A B C) (T' : Tri p inv n W A' B' C') (F : Iso p n f g) (hA : ∀ v, Row p n v → (InS p n A v ↔ InS p n A' (f v))) (hB : ∀ v, Row p n v → (InS p n B v ↔ InS p n B' (f v))) (hC : ∀ v, Row p n v → (InS p n C v ↔ InS p n C' (f v))) (t : Tr) :
    (valI inv p n W A B C t).length = (valI inv p n W A' B' C' t).length := by
  have iv := iso_val T T' F hA hB hC t
  have h0 := T.I.pos
  have R1 := T.val t
  have R2 := T'.val t
  have l1 := combos_length (p := p) (n := n) (valI inv p n W A B C t)
  have l2 := combos_length (p := p) (n := n) (valI inv p n W A' B' C' t)
  have mem := fun (D : List (List Int)) (R : Rref p n D) (v : List Int) => combos_iff (p := p) (n := n) (b := D) h0 R.len v
  have e := len_bij f (combos_nodup h0 _ R1) (combos_nodup h0 _ R2)
    (fun x hx y hy q => F.inj (((mem _ R1 x).mp hx).row h0 R1.len) (((mem _ R1 y).mp hy).row h0 R1.len) q)
    (fun x hx => by
      have i := (mem _ R1 x).mp hx
      exact (mem _ R2 _).mpr ((iv x (i.row h0 R1.len)).mp i))
    (fun y hy => by
      have i := (mem _ R2 y).mp hy
      have ry := i.row h0 R2.len
      exact ⟨g y, (mem _ R1 _).mpr ((iv _ (F.back ry)).mpr (by rw [F.fg ry]; exact i)), F.fg ry⟩)
  rw [l1, l2] at e
  have h2 := T.I.two
  exact Nat.le_antisymm ((Nat.pow_le_pow_iff_right (show 1 < p.toNat by omega)).mp (Nat.le_of_eq e)) ((Nat.pow_le_pow_iff_right (show 1 < p.toNat by omega)).mp (Nat.le_of_eq e.symm))
end
/-- the nine numbers of kinds put together and mixed are the counts -/
theorem nine_counts {W A B C A' B' C' : List (List Int)} {f g : List Int → List Int} {cs : List Int} (T : Tri p inv n W A B C) (T' : Tri p inv n W A' B' C') (F : Iso p n f g)
    (hn : total (kpre cs 9) = n) (hA : ∀ v, InS p n A v ↔ InS p n (rowsOf n 0 (kpre cs 9) 97) v) (hB : ∀ v, InS p n B v ↔ InS p n (rowsOf n 0 (kpre cs 9) 98) v) (hC : ∀ v, InS p n C v ↔ InS p n (rowsOf n 0 (kpre cs 9) 99) v)
    (fA : ∀ v, Row p n v → (InS p n A v ↔ InS p n A' (f v))) (fB : ∀ v, Row p n v → (InS p n B v ↔ InS p n B' (f v))) (fC : ∀ v, Row p n v → (InS p n C v ↔ InS p n C' (f v))) {i : Nat} (hi : i < 9) :
    (extK inv p n W A' B' C' i).length = (at0 cs i).toNat := by
  have e := T'.ext_len i hi
  rw [← iso_dim T T' F fA fB fC, ← iso_dim T T' F fA fB fC, built_dim T hn hA hB hC (wf_lay i hi).1, built_dim T hn hA hB hC (wf_lay i hi).2, sum_delta hi _ kpre_kinds, count_kpre hi 9 (Nat.le_refl _), if_pos hi] at e
  omega
end RX

set_option linter.all false
/-! # steps on rows that change the coordinates (plain mathematics, no Python) -/
namespace RX
/-- to the j-th coordinate c times the i-th -/
def stp (p : Int) (i j : Nat) (c : Int) (r : List Int) : List Int := r.set j ((at0 r j + c * at0 r i) % p)
section
variable {p c : Int} {n i j : Nat}
theorem stp_len {r : List Int} : (stp p i j c r).length = r.length := List.length_set
theorem at0_stp {r : List Int} (hj : j < r.length) (k : Nat) : at0 (stp p i j c r) k = if k = j then (at0 r j + c * at0 r i) % p else at0 r k := by
  unfold stp at0
  by_cases e : k = j
  · subst e
    rw [if_pos rfl]
    simp only [List.getD]
    rw [List.getElem?_set_self hj]
    rfl
  · rw [if_neg e]
    simp only [List.getD]
    rw [List.getElem?_set_ne (Ne.symm e)]
theorem stp_row (h0 : 0 < p) {r : List Int} (h : Row p n r) : Row p n (stp p i j c r) := by
  refine ⟨by rw [stp_len]; exact h.1, fun x hx => ?_⟩
  rcases List.mem_or_eq_of_mem_set hx with hx | rfl
  · exact h.2 _ hx
  · exact ⟨Int.emod_nonneg _ (by omega), Int.emod_lt_of_pos _ h0⟩
theorem stp_back (h0 : 0 < p) (hj : j < n) (ne : i ≠ j) {r : List Int} (h : Row p n r) : stp p i j (-c) (stp p i j c r) = r := by
  have l := h.1
  refine ext0 (by rw [stp_len, stp_len]) fun k _ => ?_
  rw [at0_stp (by rw [stp_len]; omega), at0_stp (by omega), at0_stp (by omega), at0_stp (by omega), if_pos rfl, if_neg ne]
  by_cases e : k = j
  · subst e
    rw [if_pos rfl, emod_l, Int.neg_mul, Int.add_neg_cancel_right, h.emod h0]
  · rw [if_neg e, if_neg e]
theorem stp_add (h0 : 0 < p) (hj : j < n) (hi : i < n) (ne : i ≠ j) {v u : List Int} {d : Int} (hv : Row p n v) (hu : Row p n u) : stp p i j c (addR p v d u) = addR p (stp p i j c v) d (stp p i j c u) := by
  have l1 := hv.1
  have l2 := hu.1
  have l3 : (addR p v d u).length = n := addR_len l1 l2
  have l4 : (stp p i j c v).length = n := by rw [stp_len]; exact l1
  have l5 : (stp p i j c u).length = n := by rw [stp_len]; exact l2
  refine ext0 (by rw [stp_len, l3, addR_len l4 l5]) fun k _ => ?_
  have e1 := at0_addR (p := p) (f := d) (r := v) (o := u) (by omega)
  rw [at0_stp (by omega), e1, e1, e1, at0_addR (p := p) (f := d) (by omega), at0_stp (by omega), at0_stp (by omega)]
  by_cases e : k = j
  · subst e
    rw [if_pos rfl, if_pos rfl, if_pos rfl, emod_l, emod_m, emod_l, emod_m]
    congr 1
    rw [Int.mul_add, Int.mul_add, ← Int.mul_assoc, ← Int.mul_assoc, Int.mul_comm c d]
    omega
  · rw [if_neg e, if_neg e, if_neg e]
theorem stp_iso (h0 : 0 < p) (hj : j < n) (hi : i < n) (ne : i ≠ j) : Iso p n (stp p i j c) (stp p i j (-c)) :=
  ⟨fun h => stp_row h0 h, fun h => stp_row h0 h, fun h => stp_back h0 hj ne h, fun h => by
    have := stp_back (c := -c) h0 hj ne h
    rwa [Int.neg_neg] at this, fun hv hu => stp_add h0 hj hi ne hv hu, by
    refine ext0 (by rw [stp_len]) fun k _ => ?_
    rw [at0_stp (by simpa using hj), at0_rep, at0_rep]
    by_cases e : k = j
    · subst e; rw [if_pos rfl, at0_rep]; simp
    · rw [if_neg e, at0_rep]⟩
end
section
variable {p : Int} {n : Nat} {f g : List Int → List Int}
theorem span_map (h0 : 0 < p) (F : Iso p n f g) {B : List (List Int)} (hB : ∀ r ∈ B, Row p n r) {v : List Int} (hv : Row p n v) : InS p n B v ↔ InS p n (B.map f) (f v) := by
  have hL : Len n B := fun r hr => (hB r hr).1
  have hL' : Len n (B.map f) := fun r hr => by
    obtain ⟨x, hx, rfl⟩ := List.mem_map.mp hr
    exact (F.row (hB x hx)).1
  constructor
  · intro i
    clear hv
    induction i with
    | zero => rw [F.zero]; exact .zero
    | add c i hr ih =>
      rw [F.add (i.row h0 hL) (hB _ hr)]
      exact .add _ ih (List.mem_map_of_mem hr)
  · intro i
    have key : ∀ {u}, InS p n (B.map f) u → InS p n B (g u) := fun {u} i => by
      induction i with
      | zero => rw [← F.zero, F.gf (zero_row h0)]; exact .zero
      | @add v r c i hr ih =>
        obtain ⟨x, hx, rfl⟩ := List.mem_map.mp hr
        have rv := i.row h0 hL'
        have : g (addR p v c (f x)) = addR p (g v) c x := F.inj (F.back (addR_row h0 rv.1 (F.row (hB x hx)).1)) (addR_row h0 (F.back rv).1 (hB x hx).1) (by rw [F.fg (addR_row h0 rv.1 (F.row (hB x hx)).1), F.add (F.back rv) (hB x hx), F.fg rv])
        rw [this]
        exact .add _ ih hx
    have := key i
    rwa [F.gf hv] at this
/-- the first row with the last added to it -/
theorem span_first (h2 : 2 ≤ p) {r l : List Int} {B : List (List Int)} (hr : Row p n r) (hB : ∀ x ∈ B, Row p n x) (hl : l ∈ B) (v : List Int) : InS p n (addR p r 1 l :: B) v ↔ InS p n (r :: B) v := by
  have rl := hB l hl
  have ra : Row p n (addR p r 1 l) := addR_row (by omega) hr.1 rl.1
  have L1 : Len n (addR p r 1 l :: B) := fun x hx => by
    rcases List.mem_cons.mp hx with rfl | hx
    · exact ra.1
    · exact (hB x hx).1
  have L2 : Len n (r :: B) := fun x hx => by
    rcases List.mem_cons.mp hx with rfl | hx
    · exact hr.1
    · exact (hB x hx).1
  refine InS.congr (by omega) L1 L2 (fun x hx => ?_) (fun x hx => ?_)
  · rcases List.mem_cons.mp hx with rfl | hx
    · exact (InS.self h2 hr (.head _)).comb (by omega) L2 (InS.self h2 rl (.tail _ hl))
    · exact InS.self h2 (hB x hx) (.tail _ hx)
  · rcases List.mem_cons.mp hx with rfl | hx
    · have := (InS.self h2 ra (.head B)).comb (f := -1) (by omega) L1 (InS.self h2 rl (.tail _ hl))
      have e := addR_back (p := p) (f := -1) (r := x) (o := l) (by omega) hr rl.1
      rw [Int.neg_neg] at e
      rwa [e] at this
    · exact InS.self h2 (hB x hx) (.tail _ hx)
end
end RX

set_option Elab.async false
set_option linter.all false
set_option maxRecDepth 100000
set_option maxHeartbeats 4000000
/-! # stirred, exactly -/
namespace KV
open PySem PySem.Spec PyProof.Rows L2 VX RX
section
variable {P : Program} {w : World} {K : PySem.W.Frag} {mg : Str → Option Value} {base : Heap} {f : Addr} {fd : FuncData}
open RX
theorem RowsN.get {H : Hp} {B : List Addr} : ∀ {as : List Addr} {rs : List (List Int)} {u : Nat} {a : Addr}, RowsN H B as rs → as[u]? = some a → H a = some (.lst ((rs.getD u []).map V.int)) ∧ u < rs.length
  | _, _, 0, _, .cons h1 _ _, e => by
    obtain rfl := Option.some.inj e
    exact ⟨h1, Nat.succ_pos _⟩
  | _, _, u + 1, _, .cons _ _ t, e => by
    obtain ⟨h1, h2⟩ := RowsN.get (u := u) t (by simpa using e)
    exact ⟨by simpa using h1, by simpa using h2⟩
section
variable {H0 H H' : Hp} {b l : Addr} {m : Nat → Nat} {hs : List Addr} {as : Nat → List Addr} {R S : Nat → Nat → List Int}
/-- the rows of a table, as a list -/
def rl (m : Nat → Nat) (R : Nat → Nat → List Int) (t : Nat) : List (List Int) := (List.range (m t)).map (R t)
end
end
end KV

set_option Elab.async false
set_option linter.all false
set_option maxRecDepth 100000
set_option maxHeartbeats 4000000
/-! # ranks and numbers due -/
namespace KV
open PySem PySem.Spec PyProof.Rows L2 VX RX
section
variable {P : Program} {w : World} {K : PySem.W.Frag} {mg : Str → Option Value} {base : Heap} {f : Addr} {fd : FuncData}
open RX KW
/-! ### the numbers due -/
theorem dictK_get (g : List Nat → V) : ∀ i, i < 9 → valV (dictK g) (Sum.inr (KX.kS (kA i))) = some (g (kA i))
  | 0, _ => rfl
  | 1, _ => rfl
  | 2, _ => rfl
  | 3, _ => rfl
  | 4, _ => rfl
  | 5, _ => rfl
  | 6, _ => rfl
  | 7, _ => rfl
  | 8, _ => rfl
end
end KV

set_option linter.all false
/-! # a change of coordinates from rows to rows (plain mathematics, no Python) -/
namespace RX
variable {p : Int} {inv : Int → Int} {n : Nat}
def zipA (rows others : List (List Int)) : List (List Int) := List.zipWith (· ++ ·) rows others
theorem zip_get {rows others : List (List Int)} {d : List Int} (h : d ∈ zipA rows others) : ∃ (i : Nat) (r o : List Int), rows[i]? = some r ∧ others[i]? = some o ∧ d = r ++ o := by
  obtain ⟨i, hi, rfl⟩ := List.mem_iff_getElem.mp h
  have hi' := hi
  unfold zipA at hi'
  rw [List.length_zipWith] at hi'
  refine ⟨i, rows[i]'(by omega), others[i]'(by omega), List.getElem?_eq_getElem _, List.getElem?_eq_getElem _, ?_⟩
  simp [zipA]
theorem zip_mem {rows others : List (List Int)} {i : Nat} {r o : List Int} (hr : rows[i]? = some r) (ho : others[i]? = some o) : r ++ o ∈ zipA rows others := by
  obtain ⟨h1, e1⟩ := List.getElem?_eq_some_iff.mp hr
  obtain ⟨h2, e2⟩ := List.getElem?_eq_some_iff.mp ho
  refine List.mem_iff_getElem.mpr ⟨i, by unfold zipA; rw [List.length_zipWith]; omega, ?_⟩
  simp [zipA, e1, e2]
section
variable {rows others : List (List Int)}
theorem zip_rows (hr : ∀ r ∈ rows, Row p n r) (ho : ∀ r ∈ others, Row p n r) : ∀ d ∈ zipA rows others, Row p (n + n) d := fun d hd => by
  obtain ⟨i, r, o, h1, h2, rfl⟩ := zip_get hd
  exact (hr r (List.mem_of_getElem? h1)).app (ho o (List.mem_of_getElem? h2))
/-- what stands in the span of the rows goes on in that of the doubled -/
theorem zip_lift (h0 : 0 < p) (hl : rows.length = others.length) (hr : ∀ r ∈ rows, Row p n r) (ho : ∀ r ∈ others, Row p n r) {v : List Int} (i : InS p n rows v) : ∃ u, u.length = n ∧ InS p (n + n) (zipA rows others) (v ++ u) := by
  have hL : Len n rows := fun r m => (hr r m).1
  induction i with
  | zero => exact ⟨List.replicate n 0, by simp, by rw [rep_add]; exact .zero⟩
  | @add v r f i m ih =>
    obtain ⟨u, hu, j⟩ := ih
    obtain ⟨k, hk⟩ := List.mem_iff_getElem?.mp m
    have kl : k < others.length := by rw [← hl]; exact (List.getElem?_eq_some_iff.mp hk).1
    have rv := i.row h0 hL
    refine ⟨addR p u f others[k], addR_len hu (ho _ (List.getElem_mem kl)).1, ?_⟩
    rw [← addR_app (by rw [rv.1, (hr r m).1])]
    exact .add f j (zip_mem hk (List.getElem?_eq_getElem kl))
end
theorem joined_le {b : List (List Int)} {r : List Int} : (joined inv p b r).length ≤ b.length + 1 := by
  unfold joined
  split
  · omega
  · unfold joinL
    rw [List.length_append, List.length_map, List.length_cons]
    have h1 := filter_split (fun o : List Int => decide (lead o < lead (restOf p b r))) b
    have h2 : (b.filter fun o => decide (lead (restOf p b r) < lead o)).length ≤ (b.filter fun o => !decide (lead o < lead (restOf p b r))).length := by
      rw [← List.countP_eq_length_filter, ← List.countP_eq_length_filter]
      refine List.countP_mono_left fun x _ h => ?_
      simp at h ⊢
      omega
    omega
theorem fold_le : ∀ (rows b : List (List Int)), (rows.foldl (joined inv p) b).length ≤ b.length + rows.length
  | [], b => by simp
  | r :: rows, b => by
    rw [List.foldl_cons, List.length_cons]
    have h1 := fold_le rows (joined inv p b r)
    have h2 := joined_le (inv := inv) (p := p) (b := b) (r := r)
    omega
theorem reduced_le (rows : List (List Int)) : (reduced inv p rows).length ≤ rows.length := by
  have := fold_le (inv := inv) (p := p) rows []
  simpa [reduced] using this
theorem lead_eR {j : Nat} (hj : j < n) : lead (eR n j) = j := by
  refine lead_eq ?_ fun i hi => ?_
  · rw [at0_eR, if_pos (by omega)]; decide
  · rw [at0_eR, if_neg (by omega)]
/-- the rows of a table of unit rows ahead: a combination tells its row -/
theorem dotc_unit {k : Nat} {i : Nat} : ∀ (M : List (List Int)) (s : Nat), dotc ((List.range' s M.length).map fun j => if j = k then (1 : Int) else 0) M i = if s ≤ k ∧ k < s + M.length then at0 (M.getD (k - s) []) i else 0
  | [], s => by
    rw [if_neg (by rw [List.length_nil]; omega)]
    rfl
  | l :: M, s => by
    rw [List.length_cons, List.range'_succ, List.map_cons]
    show (if s = k then (1 : Int) else 0) * at0 l i + dotc ((List.range' (s + 1) M.length).map _) M i = _
    rw [dotc_unit M (s + 1)]
    by_cases e : s = k
    · subst e
      rw [if_pos rfl, if_neg (by omega), if_pos (by omega), Nat.sub_self, Int.one_mul, Int.add_zero]
      rfl
    · rw [if_neg e, Int.zero_mul, Int.zero_add]
      by_cases h : s + 1 ≤ k ∧ k < s + 1 + M.length
      · rw [if_pos h, if_pos (by omega)]
        obtain ⟨d, hd⟩ : ∃ d, k - s = d + 1 := ⟨k - s - 1, by omega⟩
        rw [hd, show k - (s + 1) = d by omega]
        rfl
      · rw [if_neg h, if_neg (by omega)]
theorem sent_unit (h0 : 0 < p) {M : List (List Int)} (hl : M.length = n) (hM : ∀ r ∈ M, Row p n r) {k : Nat} (hk : k < n) : sentP p (eR n k) M = M[k]'(by omega) := by
  have r := hM _ (List.getElem_mem (by omega : k < M.length))
  have el : (eR n k).length = n := by simp [eR]
  refine ext0 (by rw [sentP_len, el, r.1]) fun i hi => ?_
  rw [sentP_len, el] at hi
  rw [at0_sentP (by omega)]
  have e := dotc_unit (k := k) (i := i) M 0
  rw [hl, if_pos (by omega), Nat.sub_zero] at e
  unfold eR
  rw [List.range_eq_range', e, List.getD_eq_getElem?_getD, List.getElem?_eq_getElem (by omega)]
  exact r.emod h0 i
section
variable {rows others : List (List Int)}
/-- the table that the doubled rows tell -/
def tblOf (inv : Int → Int) (p : Int) (rows others : List (List Int)) : List (List Int) := (reduced inv p (zipA rows others)).map (·.drop rows.length)
theorem leads_range (I : Inv p inv) (hl : rows.length = n) (hl' : others.length = n) (hr : ∀ r ∈ rows, Row p n r) (ho : ∀ r ∈ others, Row p n r) (sp : ∀ v, Row p n v → InS p n rows v) : (reduced inv p (zipA rows others)).map lead = List.range n := by
  have h0 := I.pos
  have R := reduced_ok I (zip_rows hr ho)
  have inD := fun v => reduced_span I (zip_rows hr ho) v
  have sub : ∀ j ∈ List.range n, j ∈ (reduced inv p (zipA rows others)).map lead := fun j hj => by
    have hj := List.mem_range.mp hj
    obtain ⟨u, hu, i⟩ := zip_lift h0 (by omega) hr ho (sp (eR n j) (eR_row I))
    have el : (eR n j).length = n := by simp [eR]
    have le : lead (eR n j ++ u) = j := by rw [lead_app_l (by rw [lead_eR hj]; omega), lead_eR hj]
    obtain ⟨r, m, e⟩ := lead_in h0 _ R _ ((inD _).mpr i) (fun z => by
      have : at0 (eR n j ++ u) j = 0 := by rw [z]; exact at0_rep
      rw [at0_app_l (by omega), at0_eR, if_pos ⟨hj, rfl⟩] at this
      cases this)
    exact List.mem_map.mpr ⟨r, m, by rw [← e, le]⟩
  have nd : ((reduced inv p (zipA rows others)).map lead).Pairwise (· < ·) := List.pairwise_map.mpr R.inc
  have len : ((reduced inv p (zipA rows others)).map lead).length ≤ n := by
    rw [List.length_map]
    refine Nat.le_trans (reduced_le _) ?_
    unfold zipA
    rw [List.length_zipWith]
    omega
  refine sorted_eq _ _ nd List.pairwise_lt_range fun x => ⟨fun hx => ?_, sub x⟩
  refine Classical.byContradiction fun nx => ?_
  have := nodup_le (x :: List.range n) ((reduced inv p (zipA rows others)).map lead) (List.nodup_cons.mpr ⟨nx, List.nodup_range⟩) (fun y hy => by
    rcases List.mem_cons.mp hy with rfl | hy
    · exact hx
    · exact sub y hy)
  rw [List.length_cons, List.length_range] at this
  omega
theorem turn_len (I : Inv p inv) (hl : rows.length = n) (hl' : others.length = n) (hr : ∀ r ∈ rows, Row p n r) (ho : ∀ r ∈ others, Row p n r) (sp : ∀ v, Row p n v → InS p n rows v) : (reduced inv p (zipA rows others)).length = n := by
  have := congrArg List.length (leads_range I hl hl' hr ho sp)
  rwa [List.length_map, List.length_range] at this
theorem turn_table (I : Inv p inv) (hl : rows.length = n) (hl' : others.length = n) (hr : ∀ r ∈ rows, Row p n r) (ho : ∀ r ∈ others, Row p n r) (sp : ∀ v, Row p n v → InS p n rows v) : (tblOf inv p rows others).length = n ∧ (∀ r ∈ tblOf inv p rows others, Row p n r) ∧ ∀ w, InS p (n + n) (zipA rows others) w → w.drop n = sentP p (w.take n) (tblOf inv p rows others) := by
  have h0 := I.pos
  have R := reduced_ok I (zip_rows hr ho)
  have L := leads_range I hl hl' hr ho sp
  have dl := turn_len I hl hl' hr ho sp
  unfold tblOf
  rw [hl]
  obtain ⟨D, hD⟩ : ∃ D, D = reduced inv p (zipA rows others) := ⟨_, rfl⟩
  have inD := fun v => reduced_span I (zip_rows hr ho) v
  rw [← hD] at R L dl inD ⊢
  have tl : (D.map (·.drop n)).length = n := by rw [List.length_map, dl]
  have tr : ∀ r ∈ D.map (·.drop n), Row p n r := fun r m => by
    obtain ⟨d, md, rfl⟩ := List.mem_map.mp m
    have rd := R.rows d md
    exact ⟨by rw [List.length_drop, rd.1]; omega, fun x hx => rd.2 x (List.mem_of_mem_drop hx)⟩
  refine ⟨tl, tr, fun w i => ?_⟩
  have leadk : ∀ k (hk : k < D.length), lead D[k] = k := fun k hk => by
    have e : (D.map lead)[k]? = (List.range n)[k]? := by rw [L]
    rw [List.getElem?_map, List.getElem?_eq_getElem hk, List.getElem?_range (by omega)] at e
    exact Option.some.inj e
  have i' := (inD w).mpr i
  have hL := R.len
  clear inD i
  induction i' with
  | zero =>
    rw [List.drop_replicate, List.take_replicate, show n + n - n = n by omega, show min n (n + n) = n by omega, sentP_zero]
  | @add v r f i m ih =>
    have rv := i.row h0 hL
    have rr := R.rows r m
    rw [drop_addR, take_addR, ih, sentP_add (n := n) (by rw [List.length_take, rv.1]; omega) (by rw [List.length_take, rr.1]; omega)]
    congr 1
    obtain ⟨k, hk, rfl⟩ := List.mem_iff_getElem.mp m
    have ek : D[k].take n = eR n k := by
      refine ext0 (by rw [List.length_take, rr.1]; simp [eR]) fun j hj => ?_
      rw [List.length_take, rr.1] at hj
      have hj' : j < D.length := by omega
      have c := R.cols (List.getElem_mem hk) (List.getElem_mem hj')
      rw [leadk j hj', leadk k hk] at c
      have ejs : at0 (D[k].take n) j = at0 D[k] j := by simp [at0, List.getD, List.getElem?_take, show j < n by omega]
      rw [ejs, c, at0_eR]
      by_cases e : k = j
      · rw [if_pos e, if_pos ⟨by omega, e.symm⟩]
      · rw [if_neg e, if_neg (fun z => e z.2.symm)]
    rw [ek, sent_unit h0 tl tr (by omega), List.getElem_map]
theorem turn_sends (I : Inv p inv) (hl : rows.length = n) (hl' : others.length = n) (hr : ∀ r ∈ rows, Row p n r) (ho : ∀ r ∈ others, Row p n r) (sp : ∀ v, Row p n v → InS p n rows v) : others = rows.map fun r => sentP p r (tblOf inv p rows others) := by
  have t := (turn_table I hl hl' hr ho sp).2.2
  refine List.ext_getElem (by rw [List.length_map]; omega) fun i h1 h2 => ?_
  rw [List.getElem_map]
  have hi : i < rows.length := by rw [List.length_map] at h2; exact h2
  have rl := (hr _ (List.getElem_mem hi)).1
  have m := zip_mem (List.getElem?_eq_getElem hi) (List.getElem?_eq_getElem h1)
  have := t _ (InS.self I.two (zip_rows hr ho _ m) m)
  rwa [List.drop_left' rl, List.take_left' rl] at this
theorem turn_iso (I : Inv p inv) (hl : rows.length = n) (hl' : others.length = n) (hr : ∀ r ∈ rows, Row p n r) (ho : ∀ r ∈ others, Row p n r) (sp : ∀ v, Row p n v → InS p n rows v) (sp' : ∀ v, Row p n v → InS p n others v) :
    Iso p n (fun v => sentP p v (tblOf inv p rows others)) (fun v => sentP p v (tblOf inv p others rows)) := by
  have h0 := I.pos
  have e1 := turn_sends I hl hl' hr ho sp
  have e2 := turn_sends I hl' hl ho hr sp'
  have key : ∀ {rows others : List (List Int)}, (∀ r ∈ rows, Row p n r) → others = rows.map (fun r => sentP p r (tblOf inv p rows others)) → rows = others.map (fun r => sentP p r (tblOf inv p others rows)) → ∀ v, InS p n rows v → sentP p (sentP p v (tblOf inv p rows others)) (tblOf inv p others rows) = v := fun {rows others} hr e1 e2 v i => by
    have hL : Len n rows := fun r m => (hr r m).1
    have back : ∀ r ∈ rows, sentP p (sentP p r (tblOf inv p rows others)) (tblOf inv p others rows) = r := fun r m => by
      obtain ⟨k, hk, rfl⟩ := List.mem_iff_getElem.mp m
      have q1 : ∀ h : k < others.length, others[k] = sentP p rows[k] (tblOf inv p rows others) := fun h => by
        have := congrArg (fun l => l[k]?) e1
        simp only [List.getElem?_map, List.getElem?_eq_getElem hk, List.getElem?_eq_getElem h, Option.map_some] at this
        exact Option.some.inj this
      have hk' : k < others.length := by
        have := congrArg List.length e2
        rw [List.length_map] at this
        omega
      have q2 : rows[k] = sentP p others[k] (tblOf inv p others rows) := by
        have := congrArg (fun l => l[k]?) e2
        simp only [List.getElem?_map, List.getElem?_eq_getElem hk, List.getElem?_eq_getElem hk', Option.map_some] at this
        exact Option.some.inj this
      rw [← q1 hk', ← q2]
    induction i with
    | zero => rw [sentP_zero, sentP_zero]
    | add f i m ih =>
      have rv := i.row h0 hL
      have rr := hr _ m
      rw [sentP_add rv.1 rr.1, sentP_add (n := n) (by rw [sentP_len]; exact rv.1) (by rw [sentP_len]; exact rr.1), ih, back _ m]
  exact ⟨fun h => sentP_row h0 h.1, fun h => sentP_row h0 h.1, fun h => key hr e1 e2 _ (sp _ h), fun h => key ho e2 e1 _ (sp' _ h), fun h h' => sentP_add h.1 h'.1, sentP_zero⟩
end
end RX

set_option linter.all false
set_option maxRecDepth 100000
/-! # the thirty words (no model); a reader of words -/
namespace KW
def t30 : List Tr := [
  (.lf 48),
  (.nd 38 (.nd 38 (.lf 97) (.lf 98)) (.lf 99)),
  (.nd 38 (.lf 97) (.lf 98)),
  (.nd 38 (.lf 97) (.lf 99)),
  (.nd 38 (.lf 98) (.lf 99)),
  (.nd 43 (.nd 38 (.lf 97) (.lf 98)) (.nd 38 (.lf 97) (.lf 99))),
  (.nd 43 (.nd 38 (.lf 97) (.lf 98)) (.nd 38 (.lf 98) (.lf 99))),
  (.nd 43 (.nd 38 (.lf 97) (.lf 99)) (.nd 38 (.lf 98) (.lf 99))),
  (.nd 43 (.nd 43 (.nd 38 (.lf 97) (.lf 98)) (.nd 38 (.lf 97) (.lf 99))) (.nd 38 (.lf 98) (.lf 99))),
  (.nd 38 (.lf 97) (.nd 43 (.lf 98) (.lf 99))),
  (.nd 38 (.lf 98) (.nd 43 (.lf 97) (.lf 99))),
  (.nd 38 (.lf 99) (.nd 43 (.lf 97) (.lf 98))),
  (.nd 43 (.nd 38 (.lf 97) (.nd 43 (.lf 98) (.lf 99))) (.nd 38 (.lf 98) (.lf 99))),
  (.nd 43 (.nd 38 (.lf 98) (.nd 43 (.lf 97) (.lf 99))) (.nd 38 (.lf 97) (.lf 99))),
  (.nd 43 (.nd 38 (.lf 99) (.nd 43 (.lf 97) (.lf 98))) (.nd 38 (.lf 97) (.lf 98))),
  (.nd 38 (.nd 38 (.nd 43 (.lf 97) (.lf 98)) (.nd 43 (.lf 97) (.lf 99))) (.nd 43 (.lf 98) (.lf 99))),
  (.lf 97),
  (.lf 98),
  (.lf 99),
  (.nd 43 (.lf 97) (.nd 38 (.lf 98) (.lf 99))),
  (.nd 43 (.lf 98) (.nd 38 (.lf 97) (.lf 99))),
  (.nd 43 (.lf 99) (.nd 38 (.lf 97) (.lf 98))),
  (.nd 38 (.nd 43 (.lf 97) (.lf 98)) (.nd 43 (.lf 97) (.lf 99))),
  (.nd 38 (.nd 43 (.lf 97) (.lf 98)) (.nd 43 (.lf 98) (.lf 99))),
  (.nd 38 (.nd 43 (.lf 97) (.lf 99)) (.nd 43 (.lf 98) (.lf 99))),
  (.nd 43 (.lf 97) (.lf 98)),
  (.nd 43 (.lf 97) (.lf 99)),
  (.nd 43 (.lf 98) (.lf 99)),
  (.nd 43 (.nd 43 (.lf 97) (.lf 98)) (.lf 99)),
  (.lf 49)]
def c30 : List (List Nat) := [
  [48],
  [97, 32, 38, 32, 98, 32, 38, 32, 99],
  [97, 32, 38, 32, 98],
  [97, 32, 38, 32, 99],
  [98, 32, 38, 32, 99],
  [97, 32, 38, 32, 98, 32, 43, 32, 97, 32, 38, 32, 99],
  [97, 32, 38, 32, 98, 32, 43, 32, 98, 32, 38, 32, 99],
  [97, 32, 38, 32, 99, 32, 43, 32, 98, 32, 38, 32, 99],
  [97, 32, 38, 32, 98, 32, 43, 32, 97, 32, 38, 32, 99, 32, 43, 32, 98, 32, 38, 32, 99],
  [97, 32, 38, 32, 40, 98, 32, 43, 32, 99, 41],
  [98, 32, 38, 32, 40, 97, 32, 43, 32, 99, 41],
  [99, 32, 38, 32, 40, 97, 32, 43, 32, 98, 41],
  [97, 32, 38, 32, 40, 98, 32, 43, 32, 99, 41, 32, 43, 32, 98, 32, 38, 32, 99],
  [98, 32, 38, 32, 40, 97, 32, 43, 32, 99, 41, 32, 43, 32, 97, 32, 38, 32, 99],
  [99, 32, 38, 32, 40, 97, 32, 43, 32, 98, 41, 32, 43, 32, 97, 32, 38, 32, 98],
  [40, 97, 32, 43, 32, 98, 41, 32, 38, 32, 40, 97, 32, 43, 32, 99, 41, 32, 38, 32, 40, 98, 32, 43, 32, 99, 41],
  [97],
  [98],
  [99],
  [97, 32, 43, 32, 98, 32, 38, 32, 99],
  [98, 32, 43, 32, 97, 32, 38, 32, 99],
  [99, 32, 43, 32, 97, 32, 38, 32, 98],
  [40, 97, 32, 43, 32, 98, 41, 32, 38, 32, 40, 97, 32, 43, 32, 99, 41],
  [40, 97, 32, 43, 32, 98, 41, 32, 38, 32, 40, 98, 32, 43, 32, 99, 41],
  [40, 97, 32, 43, 32, 99, 41, 32, 38, 32, 40, 98, 32, 43, 32, 99, 41],
  [97, 32, 43, 32, 98],
  [97, 32, 43, 32, 99],
  [98, 32, 43, 32, 99],
  [97, 32, 43, 32, 98, 32, 43, 32, 99],
  [49]]
/-- a reader: m tells what is read (0 a part, 1 an intersection, 2 its rest, 3 a sum, 4 its rest) -/
def rd : Nat → Nat → Nat → Tr → List Nat → Option (Tr × List Nat)
  | 0, _, _, _, _ => none
  | n + 1, m, d, t, l => if m = 0 then (match l with
      | [] => none
      | c :: r => if leafC c = true then some (.lf c, r) else if c = 40 ∧ d < 9 then (match rd n 3 (d + 1) t r with
        | some (u, x :: r') => if x = 41 then some (u, r') else none
        | _ => none) else none)
    else if m = 1 then (match rd n 0 d t l with
      | some (u, r) => rd n 2 d u r
      | none => none)
    else if m = 2 then (if l.head? = some 38 then (match rd n 0 d t l.tail with
      | some (u, r) => rd n 2 d (.nd 38 t u) r
      | none => none) else some (t, l))
    else if m = 3 then (match rd n 1 d t l with
      | some (u, r) => rd n 4 d u r
      | none => none)
    else (if l.head? = some 43 then (match rd n 1 d t l.tail with
      | some (u, r) => rd n 4 d (.nd 43 t u) r
      | none => none) else some (t, l))
def Rd (m d : Nat) (t : Tr) (l : List Nat) (t' : Tr) (r : List Nat) : Prop :=
  if m = 0 then RP d l t' r else if m = 1 then RI d l t' r else if m = 2 then ∃ k, RIs d k t l t' r else if m = 3 then RS d l t' r else ∃ k, RSs d k t l t' r
theorem head_of {l : List Nat} {c : Nat} (h : l.head? = some c) : l = c :: l.tail := by
  cases l with
  | nil => cases h
  | cons x l => simp only [List.head?_cons, Option.some.injEq] at h; subst h; rfl
theorem rd_ok : ∀ (n m d : Nat) (t : Tr) (l : List Nat) (t' : Tr) (r : List Nat), rd n m d t l = some (t', r) → Rd m d t l t' r := by
  intro n
  induction n with
  | zero => intro m d t l t' r h; cases h
  | succ n ih =>
    intro m d t l t' r h
    unfold rd at h
    unfold Rd
    split at h
    · rename_i hm
      rw [if_pos hm]
      cases l with
      | nil => cases h
      | cons c l =>
        dsimp only at h
        split at h
        · cases h
          exact .leaf (by assumption)
        · split at h
          · rename_i _ hc
            split at h
            · rename_i u x r' e
              split at h
              · rename_i hx
                cases h
                have := ih 3 _ _ _ _ _ e
                rw [hx] at this
                rw [hc.1]
                exact .paren hc.2 this
              · cases h
            · cases h
          · cases h
    · rename_i m0
      rw [if_neg m0]
      split at h
      · rename_i hm
        rw [if_pos hm]
        split at h
        · rename_i u r0 e
          have a := ih 0 _ _ _ _ _ e
          obtain ⟨k, b⟩ := (ih 2 _ _ _ _ _ h : ∃ k, RIs d k u r0 t' r)
          exact .mk a b
        · cases h
      · rename_i m1
        rw [if_neg m1]
        split at h
        · rename_i hm
          rw [if_pos hm]
          split at h
          · rename_i hl
            split at h
            · rename_i u r0 e
              have a := ih 0 _ _ _ _ _ e
              obtain ⟨k, b⟩ := (ih 2 _ _ _ _ _ h : ∃ k, RIs d k _ r0 t' r)
              rw [head_of hl]
              exact ⟨k + 1, .more a b⟩
            · cases h
          · rename_i hl
            cases h
            exact ⟨0, .stop hl⟩
        · rename_i m2
          rw [if_neg m2]
          split at h
          · rename_i hm
            rw [if_pos hm]
            split at h
            · rename_i u r0 e
              have a := ih 1 _ _ _ _ _ e
              obtain ⟨k, b⟩ := (ih 4 _ _ _ _ _ h : ∃ k, RSs d k u r0 t' r)
              exact .mk a b
            · cases h
          · rename_i m3
            rw [if_neg m3]
            split at h
            · rename_i hl
              split at h
              · rename_i u r0 e
                have a := ih 1 _ _ _ _ _ e
                obtain ⟨k, b⟩ := (ih 4 _ _ _ _ _ h : ∃ k, RSs d k _ r0 t' r)
                rw [head_of hl]
                exact ⟨k + 1, .more a b⟩
              · cases h
            · rename_i hl
              cases h
              exact ⟨0, .stop hl⟩
/-! ### trees compared -/
def eqT : Tr → Tr → Bool
  | .lf a, .lf b => a == b
  | .nd a l r, .nd b l' r' => a == b && (eqT l l' && eqT r r')
  | _, _ => false
theorem eqT_ok : ∀ {s t : Tr}, eqT s t = true → s = t
  | .lf a, .lf b, h => by rw [beq_iff_eq.mp h]
  | .nd a l r, .nd b l' r', h => by
    simp only [eqT, Bool.and_eq_true, beq_iff_eq] at h
    rw [h.1, eqT_ok h.2.1, eqT_ok h.2.2]
  | .lf _, .nd _ _ _, h => by cases h
  | .nd _ _ _, .lf _, h => by cases h
def rdIs (l : List Nat) (t : Tr) : Bool := match rd 100 3 0 t l with
  | some (u, r) => eqT u t && r.isEmpty
  | none => false
theorem rdIs_ok {l : List Nat} {t : Tr} (h : rdIs l t = true) : RS 0 l t [] := by
  unfold rdIs at h
  split at h
  · rename_i u r e
    simp only [Bool.and_eq_true, List.isEmpty_iff] at h
    have := rd_ok _ _ _ _ _ _ _ e
    rw [eqT_ok h.1, h.2] at this
    exact this
  · cases h
/-! ### what they are on the kinds -/
def keyT (t : Tr) : List Nat := kinds.map fun k => mk k t
def key30 : List (List Nat) := t30.map keyT
theorem read30 : ∀ i (h : i < 30), RS 0 ((c30[i]).filter (· != 32)) t30[i] [] := by
  have h : (List.zipWith (fun c t => rdIs (c.filter (· != 32)) t) c30 t30).all id = true := by decide +kernel
  intro i hi
  have hl : i < (List.zipWith (fun c t => rdIs (c.filter (· != 32)) t) c30 t30).length := by
    rw [List.length_zipWith]
    exact hi
  have q := List.all_eq_true.mp h _ (List.getElem_mem hl)
  rw [List.getElem_zipWith] at q
  exact rdIs_ok q
theorem due30 : ∀ c ∈ c30, due c = 0 := by decide +kernel
theorem wf30 : ∀ t ∈ t30, WF t = true := by decide +kernel
theorem dep30 : ∀ t ∈ t30, dep t ≤ 4 := by decide +kernel
theorem len30 : t30.length = 30 := rfl
theorem key30_nodup : key30.Nodup := by decide +kernel
def joinK (c : Nat) (x y : List Nat) : List Nat := List.zipWith (fun a b => if c = 43 then sumM a b else comM a b) x y
theorem keyT_nd {c : Nat} {l r : Tr} : keyT (.nd c l r) = joinK c (keyT l) (keyT r) := by
  unfold keyT joinK
  rw [List.zipWith_map]
  simp only [mk, List.zipWith_self]
theorem leaf_in {c : Nat} (h : leafC c = true) : keyT (.lf c) ∈ key30 := by
  have h5 : ∀ x ∈ [97, 98, 99, 48, 49], keyT (.lf x) ∈ key30 := by decide +kernel
  simp only [leafC, Bool.or_eq_true, beq_iff_eq] at h
  exact h5 c (by simp; omega)
theorem join_in : ∀ c ∈ [43, 38], ∀ x ∈ key30, ∀ y ∈ key30, joinK c x y ∈ key30 := by decide +kernel
theorem key_in : ∀ {t : Tr}, WF t = true → keyT t ∈ key30
  | .lf c, h => leaf_in h
  | .nd c l r, h => by
    simp only [WF, Bool.and_eq_true] at h
    rw [keyT_nd]
    exact join_in c (by rcases joint_two h.1.1 with e | e <;> simp [e]) _ (key_in h.1.2) _ (key_in h.2)
/-- the place of a word's plain form -/
def pix (t : Tr) : Nat := key30.idxOf (keyT t)
theorem pix_lt {t : Tr} (h : WF t = true) : pix t < 30 := List.idxOf_lt_length_iff.mpr (key_in h)
theorem pix_key {t : Tr} (h : WF t = true) : key30[pix t]? = some (keyT t) := by
  have := pix_lt h
  rw [List.getElem?_eq_getElem this]
  exact congrArg some (List.getElem_idxOf this)
theorem pix_one {t : Tr} {i : Nat} (h : key30[i]? = some (keyT t)) (hw : WF t = true) : i = pix t := by
  obtain ⟨hi, e⟩ := List.getElem?_eq_some_iff.mp h
  have q := pix_key hw
  obtain ⟨hj, e2⟩ := List.getElem?_eq_some_iff.mp q
  have pw := List.pairwise_iff_getElem.mp key30_nodup
  rcases Nat.lt_trichotomy i (pix t) with c | c | c
  · exact absurd (e.trans e2.symm) (pw _ _ hi hj c)
  · exact c
  · exact absurd (e2.trans e.symm) (pw _ _ hj hi c)
end KW

set_option Elab.async false
set_option linter.all false
set_option maxRecDepth 100000
set_option maxHeartbeats 4000000
/-! # the mathematics of carrying -/
namespace KV
open PySem PySem.Spec PyProof.Rows L2 VX RX
section
variable {P : Program} {w : World} {K : PySem.W.Frag} {mg : Str → Option Value} {base : Heap} {f : Addr} {fd : FuncData}
open RX KW
/-! the mathematics of carrying -/
theorem flatMap_congr' {α β : Type} {f g : α → List β} : ∀ {l : List α}, (∀ x ∈ l, f x = g x) → l.flatMap f = l.flatMap g
  | [], _ => rfl
  | x :: l, h => by rw [List.flatMap_cons, List.flatMap_cons, h x (.head _), flatMap_congr' fun y m => h y (.tail _ m)]
noncomputable abbrev rowsQ (p : Int) (n : Nat) (A B C : List (List Int)) : List (List Int) := (allPcs p n A B C 9).flatMap (·.2)
noncomputable abbrev kindsQ (p : Int) (n : Nat) (A B C : List (List Int)) : List (List Nat) := (allPcs p n A B C 9).map (·.1)
noncomputable def carM (p : Int) (n : Nat) (A B C A' B' C' : List (List Int)) : List (List Int) := tblOf (invF p) p (rowsQ p n A B C) (rowsQ p n A' B' C')
noncomputable abbrev carF (p : Int) (n : Nat) (A B C A' B' C' : List (List Int)) : List Int → List Int := fun v => sentP p v (carM p n A B C A' B' C')
section
variable {p : Int} {n : Nat} {A B C A' B' C' : List (List Int)} (T : Tri p (invF p) n (wholeB p n) A B C) (T' : Tri p (invF p) n (wholeB p n) A' B' C')
section
include T
theorem rows_all : ∀ v, Row p n v → InS p n (rowsQ p n A B C) v := fun v rv => by
  have hL : Len n (rowsQ p n A B C) := fun r m => (rows_row T r m).1
  have se := fun {i : Nat} (hi : i < 9) (r : List Int) (hr : r ∈ extK (invF p) p n (wholeB p n) A B C i) => self_all T hi hr
  have prow := fun (r : List Int) (hr : r ∈ extK (invF p) p n (wholeB p n) A B C 8) => InS.self T.I.two ((T.prt hr).1.row T.I.pos T.RB.len) (row_all T (i := 8) (by decide) hr (r := prt (invF p) p n B C r) (by unfold vecs; rw [if_pos (by decide)]; exact .tail _ (.head _)))
  have fA := T.fillA hL (se (by decide)) (se (by decide)) (se (by decide)) (se (by decide)) (se (by decide))
  have fB := T.fillB hL (se (by decide)) (se (by decide)) (se (by decide)) (se (by decide)) prow
  have fC := T.fillC hL (se (by decide)) (se (by decide)) (se (by decide)) (se (by decide)) (fun r hr => (se (by decide) r hr).comb T.I.pos hL (prow r hr))
  have fW := T.fillW hL (se (by decide)) fA fB fC
  exact fW v (T.hW v rv)
theorem kLen_all : ∀ q ∈ allPcs p n A B C 9, q.2.length = kLen q.1 := (apart_ok T).1
end
include T T'
theorem car_iso : Iso p n (carF p n A B C A' B' C') (carF p n A' B' C' A B C) := turn_iso T.I (rows_n T) (rows_n T') (rows_row T) (rows_row T') (rows_all T) (rows_all T')
omit T T' in
theorem flat_inj {f : List Int → List Int} : ∀ (qs qs' : List Pc), qs.map (·.1) = qs'.map (·.1) → (∀ q ∈ qs, q.2.length = kLen q.1) → (∀ q ∈ qs', q.2.length = kLen q.1) → qs'.flatMap (·.2) = (qs.flatMap (·.2)).map f → qs' = qs.map fun q => (q.1, q.2.map f)
  | [], [], _, _, _, _ => rfl
  | [], _ :: _, h, _, _, _ => by simp at h
  | _ :: _, [], h, _, _, _ => by simp at h
  | q :: qs, q' :: qs', hk, h1, h2, e => by
    rw [List.map_cons, List.map_cons] at hk
    obtain ⟨k1, k2⟩ := List.cons.inj hk
    rw [List.flatMap_cons, List.flatMap_cons, List.map_append] at e
    have l1 := h1 q (.head _)
    have l2 := h2 q' (.head _)
    obtain ⟨e1, e2⟩ := List.append_inj e (by rw [List.length_map, l1, l2, k1])
    rw [List.map_cons, ← flat_inj qs qs' k2 (fun q h => h1 q (.tail _ h)) (fun q h => h2 q (.tail _ h)) e2, ← e1, k1]
theorem car_pcs (hk : kindsQ p n A B C = kindsQ p n A' B' C') : allPcs p n A' B' C' 9 = (allPcs p n A B C 9).map fun q => (q.1, q.2.map (carF p n A B C A' B' C')) :=
  flat_inj _ _ hk (kLen_all T) (kLen_all T') (turn_sends T.I (rows_n T) (rows_n T') (rows_row T) (rows_row T') (rows_all T))
omit T T' in
theorem giv_map {f : List Int → List Int} {k : List Nat} {rs : List (List Int)} {h : Nat} (hr : ∀ r ∈ rs, Row p n r) (ha : ∀ {v u : List Int}, Row p n v → Row p n u → f (addR p v 1 u) = addR p (f v) 1 (f u)) : givL p k (rs.map f) h = (givL p k rs h).map f := by
  unfold givL
  split
  · split
    · rfl
    · rfl
  · match rs, hr with
    | [], _ => rfl
    | [_], _ => rfl
    | [v, u], hr =>
      show (if h = 97 then [f v] else if h = 98 then [f u] else [addR p (f v) 1 (f u)]) = (if h = 97 then [v] else if h = 98 then [u] else [addR p v 1 u]).map f
      split
      · rfl
      · split
        · rfl
        · rw [← ha (hr v (.head _)) (hr u (.tail _ (.head _)))]
          rfl
    | _ :: _ :: _ :: _, _ => rfl
theorem own_map (hk : kindsQ p n A B C = kindsQ p n A' B' C') (h : Nat) : ownL p (allPcs p n A' B' C' 9) h = (ownL p (allPcs p n A B C 9) h).map (carF p n A B C A' B' C') := by
  rw [car_pcs T T' hk]
  unfold ownL
  rw [List.flatMap_map, List.map_flatMap]
  refine flatMap_congr' fun q hq => ?_
  exact giv_map (fun r hr => rows_row T r (List.mem_flatMap.mpr ⟨q, hq, hr⟩)) (car_iso T T').add
theorem car_A (hk : kindsQ p n A B C = kindsQ p n A' B' C') : ∀ v, Row p n v → (InS p n A v ↔ InS p n A' (carF p n A B C A' B' C' v)) := fun v rv =>
  (own_A T v).symm.trans ((span_map T.I.pos (car_iso T T') (own_row T) rv).trans (by rw [← own_map T T' hk]; exact own_A T' _))
theorem car_B (hk : kindsQ p n A B C = kindsQ p n A' B' C') : ∀ v, Row p n v → (InS p n B v ↔ InS p n B' (carF p n A B C A' B' C' v)) := fun v rv =>
  (own_B T v).symm.trans ((span_map T.I.pos (car_iso T T') (own_row T) rv).trans (by rw [← own_map T T' hk]; exact own_B T' _))
theorem car_C (hk : kindsQ p n A B C = kindsQ p n A' B' C') : ∀ v, Row p n v → (InS p n C v ↔ InS p n C' (carF p n A B C A' B' C' v)) := fun v rv =>
  (own_C T v).symm.trans ((span_map T.I.pos (car_iso T T') (own_row T) rv).trans (by rw [← own_map T T' hk]; exact own_C T' _))
theorem car_dim (hk : kindsQ p n A B C = kindsQ p n A' B' C') (t : Tr) : (valI (invF p) p n (wholeB p n) A B C t).length = (valI (invF p) p n (wholeB p n) A' B' C' t).length :=
  iso_dim T T' (car_iso T T') (car_A T T' hk) (car_B T T' hk) (car_C T T' hk) t
omit T T' in
theorem kinds_of (he : ∀ i < 9, (extK (invF p) p n (wholeB p n) A B C i).length = (extK (invF p) p n (wholeB p n) A' B' C' i).length) : ∀ m, m ≤ 9 → (allPcs p n A B C m).map (·.1) = (allPcs p n A' B' C' m).map (·.1)
  | 0, _ => rfl
  | m + 1, h => by
    rw [allPcs_succ, allPcs_succ, List.map_append, List.map_append, kinds_of he m (by omega)]
    congr 1
    unfold pcsK
    rw [List.map_map, List.map_map]
    have c : ∀ {α : Type} (l l' : List α) (k : List Nat), l.length = l'.length → (l.map fun _ => k) = l'.map fun _ => k := fun l l' k e => by
      rw [List.map_const', List.map_const', e]
    exact c _ _ (kA m) (he m (by omega))
end
end
end KV

set_option Elab.async false
set_option linter.all false
set_option maxRecDepth 100000
set_option maxHeartbeats 4000000
/-! # space_beside, beside -/
namespace KV
open PySem PySem.Spec PyProof.Rows L2 VX RX
section
variable {P : Program} {w : World} {K : PySem.W.Frag} {mg : Str → Option Value} {base : Heap} {f : Addr} {fd : FuncData}
open RX
/-- one span beside the other -/
def besL (n m : Nat) (b c : List (List Int)) : List (List Int) := (b.map fun r => r ++ zer m) ++ c.map fun r => zer n ++ r
/-- the basis of one beside the other -/
noncomputable def besB (p : Int) (n m : Nat) (b c : List (List Int)) : List (List Int) := reduced (invF p) p (besL n m b c)
end
end KV

set_option Elab.async false
set_option linter.all false
set_option maxRecDepth 100000
set_option maxHeartbeats 4000000
/-! # a call by three keywords, in the parameters' order -/
namespace VX
open PySem PySem.Spec PyProof.Rows L2
theorem kvals3 {vs : List Value} {a b c : V} (r : Vals [a, b, c] vs) : ∃ x y z, vs = [x, y, z] ∧ RelV a x ∧ RelV b y ∧ RelV c z := by
  cases r with
  | cons h t => cases t with
    | cons h2 t2 => cases t2 with
      | cons h3 t3 => cases t3; exact ⟨_, _, _, rfl, h, h2, h3⟩
theorem pe_kcall3 {X : Cx} {CX : CXT} {x a b c : Str} {f : Addr} {k : Nat} {fd : FuncData} {sp : Sp} {E : XK} {p k1 k2 k3 pos : Pos} {e1 e2 e3 : Expr} {tk : TA} (F : FnOk X.prog X.w X.K X.mg X.base CX k f fd [a, b, c] sp) (hr : Room k X.A) (hg : Gl X x) (hm : X.mg x = some (.ref f)) (hk : PySem.W.keepIn X.K (.ref f) = true)
    (hb : ∀ (s : Shared) (u v w : Value), BindsTo s fd ⟨[], [(a, u), (b, v), (c, w)]⟩ [(a, u), (b, v), (c, w)]) (hx : Passes CX X E) (ha : PK X [⟨some a, e1, k1⟩, ⟨some b, e2, k2⟩, ⟨some c, e3, k3⟩] tk) (hdb : (x == ("__debug__" : Str)) = false := by decide)
    (hpl : ((backTo pos (starEach [] X.env)).any (·.1) || (backToKw pos (keywordEach [⟨some a, e1, k1⟩, ⟨some b, e2, k2⟩, ⟨some c, e3, k3⟩] X.env)).any (·.1.isNone)) = false := by rfl)
    (hall : (backToKw pos (keywordEach [⟨some a, e1, k1⟩, ⟨some b, e2, k2⟩, ⟨some c, e3, k3⟩] X.env)).all (·.1.isSome) = true := by rfl) (hks : (backToKw pos (keywordEach [⟨some a, e1, k1⟩, ⟨some b, e2, k2⟩, ⟨some c, e3, k3⟩] X.env)).filterMap (·.1) = [a, b, c] := by rfl) :
    PE X (.Call (.Name x p) [] [⟨some a, e1, k1⟩, ⟨some b, e2, k2⟩, ⟨some c, e3, k3⟩] pos) (fun σ H Q => tk σ H fun zs H1 => ∃ z1 z2 z3, zs = [z1, z2, z3] ∧ sp [z1, z2, z3] H1 Q E) := by
  refine ⟨fun pins s σ H Q I q0 => wpAny_Call_Name_kw (ld_glob I hg hm ?_ hdb)⟩
  refine PySem.W.callWith_KW0 (h₀ := X.base) I.ok.mod.kin hk hall ?_ hpl
  refine thn (ha.run pos pins s σ H _ I q0) fun ws s1 ⟨zs, H1, I1, rz, z1, z2, z3, ez, q⟩ => ⟨I1.kIn, ?_⟩
  subst ez
  rw [hks]
  obtain ⟨u1, u2, u3, rfl, r1, r2, r3⟩ := kvals3 rz
  show wpAny _ _ (call (.ref f) [] [(a, u1), (b, u2), (c, u3)]) _ _ _
  refine wpAny_call (codeAny_mono (F.run X.A X.stack s1 H1 ⟨[], [(a, u1), (b, u2), (c, u3)]⟩ [u1, u2, u3] [z1, z2, z3] Q E hr I1.env0 (hb s1 u1 u2 u3) (.cons r1 (.cons r2 (.cons r3 .nil))) q) fun r s' hq => ?_)
  match r, hq with
  | .ok (.ret u), hq => exact I1.after hq
  | .error er, hq => exact hx pins σ H1 s1 er s' I1 hq
end VX

set_option Elab.async false
set_option linter.all false
set_option maxRecDepth 100000
namespace HT
open PySem PySem.Spec PyProof.Rows L2
section
variable {prog : Program} {w : World} {A : Around} {E : Value → Shared → Prop} {s : Shared}
theorem places_rev (n : Nat) : Builtin.Slice.slicePlaces ((n : Int) - 1) (-1) (-1) = n := by
  unfold Builtin.Slice.slicePlaces
  have h1 : ¬ ((-1 : Int) > 0) := by decide
  have h2 : (-(-1) : Int) = 1 := by decide
  simp only [h1, if_false, h2, Int.ediv_one]
  split <;> omega
theorem adjust_rev (n : Nat) : Builtin.Slice.sliceAdjust none none (-1) (n : Int) = ((n : Int) - 1, -1) := by
  unfold Builtin.Slice.sliceAdjust
  have h1 : (-1 : Int) < 0 := by decide
  simp only [h1, if_true]
theorem pick_rev (xs : Array Value) : ((List.range xs.size).filterMap fun (m : Nat) => xs[(((xs.size : Nat) : Int) - 1 + (m : Int) * (-1)).toNat]?) = xs.toList.reverse := by
  have e : (List.range xs.size).filterMap (fun (m : Nat) => xs[(((xs.size : Nat) : Int) - 1 + (m : Int) * (-1)).toNat]?) = ((List.range xs.size).map fun k => xs.size - 1 - k).filterMap (xs[·]?) := by
    rw [List.filterMap_map]
    congr 1
    funext m
    have : (((xs.size : Nat) : Int) - 1 + (m : Int) * (-1)).toNat = xs.size - 1 - m := by omega
    simp only [Function.comp, this]
  rw [e, PySem.W.krv_range, List.filterMap_reverse, PySem.W.krv_all]
theorem sliceApplied_rev {sl : Addr} {vl vu vs : Value} {n : Nat} {Q : Int × Int × Nat → Shared → Prop} (hs : s.heap.IsSliceOf sl vl vu vs) (pl : IsPart vl none) (pu : IsPart vu none) (ps : IsPart vs (some (-1)))
    (h : Q (((n : Nat) : Int) - 1, -1, n) s) : wpAny (model prog w) A (Builtin.Slice.sliceApplied (.ref sl) (pure (n : Int))) Q E s := by
  obtain ⟨os, hos, hcs, hds⟩ := id hs
  unfold Builtin.Slice.sliceApplied Builtin.Slice.sliceFields
  refine wpAny_bind (wpAny_bind (wpAny_field hos hds (x := vl) rfl (wpAny_bind (wpAny_field hos hds (x := vu) rfl (wpAny_bind (wpAny_field hos hds (x := vs) rfl (wpAny_pure ?_)))))))
  refine wpAny_bind (slicePart_ ps ?_)
  show wpAny _ _ (if ((-1 : Int) == 0) = true then _ else _) _ _ s
  rw [if_neg (by decide)]
  refine wpAny_bind (slicePart_ pl (wpAny_bind (slicePart_ pu (wpAny_bind (wpAny_pure ?_)))))
  show wpAny _ _ (match Builtin.Slice.sliceAdjust none none (-1) (n : Int) with | (lo, hi) => pure (lo, (-1 : Int), Builtin.Slice.slicePlaces lo hi (-1))) _ _ s
  rw [adjust_rev]
  show wpAny _ _ (pure (((n : Nat) : Int) - 1, (-1 : Int), Builtin.Slice.slicePlaces (((n : Nat) : Int) - 1) (-1) (-1))) _ _ s
  rw [places_rev]
  exact wpAny_pure h
theorem getItem_tuple_rev {t sl : Addr} {items : Array Value} {vl vu vs : Value} {Q : Value → Shared → Prop} (ht : IsTup s.heap t items) (hs : s.heap.IsSliceOf sl vl vu vs) (pl : IsPart vl none) (pu : IsPart vu none) (ps : IsPart vs (some (-1)))
    (h : Q (.ref s.heap.objs.size) { s with heap := s.heap.push { cls := .type "tuple", data := .seq items.toList.reverse.toArray } })
    (hsz : items.size ≤ sizeLine) : wpAny (model prog w) A (getItem (.ref t) (.ref sl)) Q E s := by
  have htake : sizeOk (.seq items.toList.reverse.toArray) := by
    show items.toList.reverse.toArray.size ≤ sizeLine
    rw [List.size_toArray, List.length_reverse, Array.length_toList]
    exact hsz
  obtain ⟨os, hos, hcs, hds⟩ := id hs
  have hTs : s.TypeIs (.ref sl) "slice" := ⟨os, hos, hcs⟩
  unfold getItem
  try with_reducible refine wpAny_holding ?_
  first | refine wpAny_bind (wpAny_pure ?_) | skip
  refine wpAny_bind (wpAny_sequenceKey ht.typeIs (by decide) ?_)
  refine wpAny_bind (wpAny_callSpecial?_slot (name := Str.ofString "__getitem__") ht.typeIs PyProof.Rows.slot_tuple_getitem
    (wpAny_call_entry PyProof.Rows.slot_tuple_getitem ht.typeIs entry_tuple_getitem ?_ (args_tuple_getitem _ _)))
  show wpAny _ _ (Builtin.Tuple.tupleItemsOf (.ref t) >>= _) _ _ s
  refine wpAny_bind (tupleItemsOf_ ht ?_)
  refine wpAny_bind (wpAny_typeOf hTs ?_)
  rw [if_pos (by decide)]
  refine wpAny_bind (sliceApplied_rev hs pl pu ps ?_)
  have hno : ¬ (((((items.size : Nat) : Int) - 1) == 0 && (-1 : Int) == 1 && items.size == items.size) = true) := by
    intro q
    rw [Bool.and_eq_true, Bool.and_eq_true] at q
    exact absurd q.1.2 (by decide)
  show wpAny _ _ (if ((((items.size : Nat) : Int) - 1) == 0 && (-1 : Int) == 1 && items.size == items.size) = true then _ else _) _ _ s
  rw [if_neg hno, pick_rev]
  first
    | exact wpAny_bind (m := Builtin.Tuple.tupleExact _) (wpAny_newObj_type (wpAny_pure ⟨_, rfl, wpAny_pure h⟩) htake)
    | exact wpAny_bind (m := Builtin.Tuple.tupleExact _) (wpAny_newObj_type (wpAny_bind (wpAny_pure (wpAny_pure ⟨_, rfl, wpAny_pure h⟩))) htake)
    | exact wpAny_bind (wpAny_bind (m := Builtin.Tuple.tupleExact _) (wpAny_newObj_type (wpAny_pure (wpAny_pure ⟨_, rfl, wpAny_pure h⟩)) htake))
    | exact wpAny_bind (wpAny_bind (m := Builtin.Tuple.tupleExact _) (wpAny_newObj_type (wpAny_pure ⟨_, rfl, wpAny_pure h⟩) htake))
end
end HT
namespace VX
open PySem PySem.Spec PyProof.Rows L2 HT
/-- xs[::-1], a list or a tuple -/
def tRevA (K : PySem.W.Frag) (te : TE) : TE := fun σ H Q => te σ H fun x H1 => ∃ a xs, x = .ref a ∧ (SqL K H1 a xs ∧ (∀ p, H1 p = none → Q (.ref p) (upd H1 p (.lst xs.reverse))) ∨ SqT K H1 a xs ∧ (∀ p, H1 p = none → Q (.ref p) (upd H1 p (.tup xs.reverse))))
theorem pe_revA {X : Cx} {e : PySem.Expr} {te : TE} {k : Nat} {p1 p2 p3 pos : Pos} (he : PE X e te) : PE X (.Subscript e (.Slice none none (some (.UnaryOp .USub (.Constant (.int 1) k p1) p2)) p3) pos) (tRevA X.K te) := by
  refine ⟨fun pins s σ H Q I h => ?_⟩
  refine Subscript_ (thn (he.run pins s σ H _ I h) fun v s1 ⟨x, H1, I1, r1, q1⟩ => ?_)
  obtain ⟨a, xs, ex, hq⟩ := q1
  subst ex
  cases r1
  have hst : PO X (some (.UnaryOp .USub (.Constant (.int 1) k p1) p2)) (tPart (tUn (rU fun i => .int (-i)) (tC (.int 1)))) := po_some (pe_un un_neg pe_int)
  refine wpAny_Slice (thn (po_none.run pins s1 σ H1 (fun o H2 => o = none ∧ H2 = H1) I1 ⟨rfl, rfl⟩) fun vl s2 ⟨l, H2, I2, pl, el, e2⟩ => ?_)
  subst el e2
  refine thn (po_none.run pins s2 σ H2 (fun o H3 => o = none ∧ H3 = H2) I2 ⟨rfl, rfl⟩) fun vu s3 ⟨u, H3, I3, pu, eu, e3⟩ => ?_
  subst eu e3
  refine thn (hst.run pins s3 σ H3 (fun o H4 => o = some (-1) ∧ H4 = H3) I3 ⟨1, rfl, -1, rfl, rfl, rfl⟩) fun vs s4 ⟨o, H4, I4, ps, eo, e4⟩ => ?_
  subst eo e4
  have I5 : Inv X pins σ H4 { s4 with heap := s4.heap.push { cls := .type "slice", data := .fields #[vl, vu, vs] } } := I4.kept (t' := s4.toks) fun b ob q => Heap.get?_push_of_some _ q
  show wpAny (model X.prog X.w) X.A (subscriptTail e (.Slice none none (some (.UnaryOp .USub (.Constant (.int 1) k p1) p2)) p3) (.ref a) (.ref s4.heap.objs.size)) (EP X pins σ Q) X.xe { s4 with heap := s4.heap.push { cls := .type "slice", data := .fields #[vl, vu, vs] } }
  rcases hq with ⟨hx, q⟩ | ⟨hx, q⟩
  · obtain ⟨its, r, ht, hz⟩ := I5.list hx
    have hlen := r.length
    refine tail_any (ops := [.ref a, .ref s4.heap.objs.size]) ht.isList.typeIs (PySem.slot_list_getitem.lookup) ?_ (by with_unfolding_all rfl)
    refine wpAny_getItem_list_slice ht.isList (Heap.IsSliceOf.new _ vl vu vs) pl pu ps (by decide) ?_ (by rw [List.size_toArray]; omega)
    rw [PySem.W.krv_pick]
    refine ⟨.ref _, _, I5.laid (t' := s4.toks) (o := .lst xs.reverse) (fun b ob q => Heap.get?_push_of_some _ q) (Nat.le_refl _) ?_, rfl, q _ (I5.hok.fresh (Nat.le_refl _))⟩
    exact ⟨by rw [List.length_reverse]; exact hz, _, 0, r.reverse, Heap.get?_push_size _ rfl⟩
  · obtain ⟨its, r, ht, hz⟩ := I5.tuple hx
    have hlen : its.toArray.size = xs.length := by rw [List.size_toArray]; exact r.length.symm
    refine tail_any (ops := [.ref a, .ref s4.heap.objs.size]) ht.typeIs (PyProof.Rows.slot_tuple_getitem.lookup) ?_ (by with_unfolding_all rfl)
    refine HT.getItem_tuple_rev ht (Heap.IsSliceOf.new _ vl vu vs) pl pu ps ?_ (by rw [hlen]; exact hz)
    refine ⟨.ref _, _, I5.laid (t' := s4.toks) (o := .tup xs.reverse) (fun b ob q => Heap.get?_push_of_some _ q) (Nat.le_refl _) ?_, rfl, q _ (I5.hok.fresh (Nat.le_refl _))⟩
    exact ⟨by rw [List.length_reverse]; exact hz, _, r.reverse, IsTup.new _ _⟩
end VX

set_option linter.all false
/-! # square tables that can be undone (plain mathematics, no Python) -/
namespace RX
variable {p : Int} {inv : Int → Int} {n : Nat}
theorem at0_modR {r : List Int} {i : Nat} : at0 (modR p r) i = at0 r i % p := by
  by_cases h : i < r.length
  · rw [at0_of (by rw [modR_len]; exact h), at0_of h]
    simp [modR]
  · rw [at0_out (by rw [modR_len]; omega), at0_out (by omega)]
    simp
theorem dotc_mod : ∀ (v : List Int) (M : List (List Int)) (i : Nat), dotc v (M.map (modR p)) i % p = dotc v M i % p
  | [], M, i => by cases M <;> rfl
  | x :: v, [], i => rfl
  | x :: v, l :: M, i => by
    show (x * at0 (modR p l) i + dotc v (M.map (modR p)) i) % p = (x * at0 l i + dotc v M i) % p
    rw [at0_modR, Int.add_emod, dotc_mod v M i, Int.mul_emod, Int.emod_emod, ← Int.mul_emod, ← Int.add_emod]
theorem sentP_mod {v : List Int} {M : List (List Int)} : sentP p v (M.map (modR p)) = sentP p v M := by
  unfold sentP
  exact List.map_congr_left fun i _ => dotc_mod v M i
theorem same_of_len (I : Inv p inv) {b c : List (List Int)} (h1 : Rref p n b) (h3 : Rref p n c) (hs : ∀ v, InS p n b v → InS p n c v) (e : b.length = c.length) : b = c := by
  have h := ext_len I.two h1 h3 hs
  have z : extL b c = [] := List.length_eq_zero_iff.mp (by omega)
  refine h1.uniq I.two h3 fun v => ?_
  have := ext_span I h1 h3 hs v
  rwa [z, List.append_nil] at this
theorem eR_rows (I : Inv p inv) : ∀ r ∈ (List.range n).map (eR n), Row p n r := fun r m => by
  obtain ⟨k, _, rfl⟩ := List.mem_map.mp m
  exact eR_row I
theorem mat_iso (I : Inv p inv) {M : List (List Int)} (hl : M.length = n) (hr : ∀ r ∈ M, r.length = n) (hb : (reduced inv p (M.map (modR p))).length = n) (hU : ∀ v, Row p n v → InS p n ((List.range n).map (eR n)) v) : ∃ g, Iso p n (fun v => sentP p v M) g := by
  have h0 := I.pos
  obtain ⟨U, eU⟩ : ∃ U, U = (List.range n).map (eR n) := ⟨_, rfl⟩
  obtain ⟨M', eM⟩ : ∃ M', M' = M.map (modR p) := ⟨_, rfl⟩
  have rU : ∀ r ∈ U, Row p n r := by rw [eU]; exact eR_rows I
  have rM : ∀ r ∈ M', Row p n r := by rw [eM]; exact modR_rows h0 hr
  have lU : U.length = n := by rw [eU]; simp
  have lM : M'.length = n := by rw [eM]; simpa using hl
  rw [← eM] at hb
  rw [← eU] at hU
  have RM := reduced_ok I rM
  have RU := reduced_ok I rU
  have le := reduced_le (inv := inv) (p := p) U
  have sub : ∀ v, InS p n (reduced inv p M') v → InS p n (reduced inv p U) v := fun v i => (reduced_span I rU v).mpr (hU v (i.row h0 RM.len))
  have el := ext_len I.two RM RU sub
  have eq := same_of_len I RM RU sub (by omega)
  have sM : ∀ v, Row p n v → InS p n M' v := fun v rv => (reduced_span I rM v).mp (by rw [eq]; exact (reduced_span I rU v).mpr (hU v rv))
  obtain ⟨t1, t2, _⟩ := turn_table I lU lM rU rM hU
  have ts := turn_sends I lU lM rU rM hU
  have tb : tblOf inv p U M' = M' := by
    refine List.ext_getElem (by omega) fun k h1 h2 => ?_
    have hk : k < n := by omega
    have e := congrArg (fun l => l[k]?) ts
    simp only [List.getElem?_map, List.getElem?_eq_getElem h2, List.getElem?_eq_getElem (show k < U.length by omega), Option.map_some] at e
    have eu : U[k]'(by omega) = eR n k := by simp [eU]
    rw [Option.some.inj e, eu, sent_unit h0 t1 t2 hk]
  have F := turn_iso I lU lM rU rM hU sM
  rw [tb] at F
  refine ⟨fun v => sentP p v (tblOf inv p M' U), ?_⟩
  have ef : (fun v => sentP p v M') = fun v => sentP p v M := funext fun v => by rw [eM, sentP_mod]
  rw [ef] at F
  exact F
/-- a space sent into another one of its size is sent onto it -/
theorem im_iff (I : Inv p inv) {f g : List Int → List Int} (F : Iso p n f g) {X Y : List (List Int)} (hX : Rref p n X) (hY : Rref p n Y) (hlen : (reduced inv p (X.map f)).length = X.length) : reduced inv p (X.map f) = Y ↔ X.length = Y.length ∧ ∀ v, InS p n X v → InS p n Y (f v) := by
  have hr : ∀ r ∈ X.map f, Row p n r := fun r m => by
    obtain ⟨x, hx, rfl⟩ := List.mem_map.mp m
    exact F.row (hX.rows x hx)
  have R := reduced_ok I hr
  constructor
  · intro e
    refine ⟨by rw [← e, hlen], fun v i => ?_⟩
    rw [← e]
    exact (reduced_span I hr _).mpr ((span_map I.pos F hX.rows (i.row I.pos hX.len)).mp i)
  · rintro ⟨e, h⟩
    refine same_of_len I R hY (fun v i => ?_) (by omega)
    have i' := (reduced_span I hr v).mp i
    have rv := i.row I.pos R.len
    have := (span_map I.pos F hX.rows (F.back rv)).mpr (by rw [F.fg rv]; exact i')
    have := h _ this
    rwa [F.fg rv] at this
end RX

set_option linter.all false
/-! # a triple beside another one (plain mathematics, no Python) -/
namespace RX
open KW
variable {p : Int} {inv : Int → Int} {n m : Nat}
/-- rows beside rows -/
def besR (n m : Nat) (L M : List (List Int)) : List (List Int) := (L.map fun r => r ++ zer m) ++ M.map fun r => zer n ++ r
theorem besR_mem {L M : List (List Int)} {r : List Int} : r ∈ besR n m L M ↔ (∃ s ∈ L, r = s ++ zer m) ∨ ∃ s ∈ M, r = zer n ++ s := by
  unfold besR
  rw [List.mem_append, List.mem_map, List.mem_map]
  constructor
  · rintro (⟨s, h, rfl⟩ | ⟨s, h, rfl⟩)
    · exact .inl ⟨s, h, rfl⟩
    · exact .inr ⟨s, h, rfl⟩
  · rintro (⟨s, h, rfl⟩ | ⟨s, h, rfl⟩)
    · exact .inl ⟨s, h, rfl⟩
    · exact .inr ⟨s, h, rfl⟩
theorem zer_len : (zer n).length = n := by simp [zer]
theorem besR_len {L M : List (List Int)} (hL : Len n L) (hM : Len m M) : Len (n + m) (besR n m L M) := fun r h => by
  rcases besR_mem.mp h with ⟨s, hs, rfl⟩ | ⟨s, hs, rfl⟩
  · rw [List.length_append, hL s hs, zer_len]
  · rw [List.length_append, hM s hs, zer_len]
theorem zer_addR (h0 : 0 < p) {w : List Int} (hw : Row p m w) : addR p (zer m) 1 w = w := by
  refine ext0 (by rw [addR_len (n := m) zer_len hw.1, hw.1]) fun i _ => ?_
  rw [at0_addR (by rw [zer_len, hw.1]), zer, at0_rep, Int.zero_add, Int.one_mul, hw.emod h0]
theorem zer_app : zer n ++ zer m = zer (n + m) := by simp [zer, List.replicate_append_replicate]
theorem bes_left (h0 : 0 < p) {L : List (List Int)} (hL : Len n L) {v : List Int} (i : InS p n L v) : InS p (n + m) (L.map fun r => r ++ zer m) (v ++ zer m) := by
  induction i with
  | zero => rw [show List.replicate n (0 : Int) = zer n from rfl, zer_app]; exact .zero
  | @add v r f i hr ih =>
    have e : addR p (v ++ zer m) f (r ++ zer m) = addR p v f r ++ zer m := by
      rw [addR_app (by rw [(i.row h0 hL).1, hL r hr])]
      congr 1
      exact addR_rep h0 (RX.zero_row h0)
    rw [← e]
    exact .add f ih (List.mem_map.mpr ⟨r, hr, rfl⟩)
theorem bes_right (h0 : 0 < p) {M : List (List Int)} {v : List Int} (i : InS p m M v) : InS p (n + m) (M.map fun r => zer n ++ r) (zer n ++ v) := by
  induction i with
  | zero => rw [show List.replicate m (0 : Int) = zer m from rfl, zer_app]; exact .zero
  | @add v r f i hr ih =>
    have e : addR p (zer n ++ v) f (zer n ++ r) = zer n ++ addR p v f r := by
      rw [addR_app (by simp [zer])]
      congr 1
      exact addR_rep h0 (RX.zero_row h0)
    rw [← e]
    exact .add f ih (List.mem_map.mpr ⟨r, hr, rfl⟩)
/-- what rows beside rows span -/
theorem bes_in (h0 : 0 < p) {L M : List (List Int)} (hL : Len n L) (hM : Len m M) {z : List Int} : InS p (n + m) (besR n m L M) z ↔ ∃ v w, InS p n L v ∧ InS p m M w ∧ z = v ++ w := by
  constructor
  · intro i
    induction i with
    | zero => exact ⟨_, _, .zero, .zero, by rw [List.replicate_append_replicate]⟩
    | @add z r f i hr ih =>
      obtain ⟨v, w, hv, hw, rfl⟩ := ih
      have lv := (hv.row h0 hL)
      have lw := (hw.row h0 hM)
      rcases besR_mem.mp hr with ⟨s, hs, rfl⟩ | ⟨s, hs, rfl⟩
      · refine ⟨_, w, hv.add f hs, hw, ?_⟩
        rw [addR_app (by rw [lv.1, hL s hs])]
        congr 1
        exact addR_rep h0 lw
      · refine ⟨v, _, hv, hw.add f hs, ?_⟩
        rw [addR_app (by rw [lv.1, zer_len])]
        congr 1
        exact addR_rep h0 lv
  · rintro ⟨v, w, hv, hw, rfl⟩
    have rv := hv.row h0 hL
    have rw' := hw.row h0 hM
    have h1 := ((bes_left (m := m) h0 hL hv).mono (B' := besR n m L M) fun r h => List.mem_append_left _ h).comb (f := 1) h0 (besR_len hL hM) ((bes_right (n := n) h0 hw).mono fun r h => List.mem_append_right _ h)
    rw [addR_app (by rw [rv.1, zer_len]), zer_addR h0 rw', show addR p v 1 (zer n) = v from addR_rep h0 rv] at h1
    exact h1
/-- a space that is one beside another -/
def Bes (p : Int) (n m : Nat) (D b c : List (List Int)) : Prop := ∀ z, InS p (n + m) D z ↔ ∃ v w, InS p n b v ∧ InS p m c w ∧ z = v ++ w
theorem app_inj {v w v' w' : List Int} (h : v.length = v'.length) (e : v ++ w = v' ++ w') : v = v' ∧ w = w' := List.append_inj e h
theorem lead_zer {r : List Int} (h : lead r < r.length) : lead (zer n ++ r) = n + lead r := by
  refine lead_eq ?_ fun j hj => ?_
  · have := at0_app_r (r := zer n) (s := r) (lead r)
    rw [zer_len] at this
    rw [this]
    exact lead_ne h
  · by_cases e : j < n
    · rw [at0_app_l (by rw [zer_len]; exact e), zer, at0_rep]
    · have := at0_app_r (r := zer n) (s := r) (j - n)
      rw [zer_len, show n + (j - n) = j by omega] at this
      rw [this]
      exact lead_zero (by omega)
theorem besR_rref (h0 : 0 < p) {b c : List (List Int)} (R1 : Rref p n b) (R2 : Rref p m c) : Rref p (n + m) (besR n m b c) := by
  have l1 : ∀ r ∈ b, lead (r ++ zer m) = lead r := fun r h => lead_app_l (by rw [(R1.rows r h).1]; exact R1.lt r h)
  have l2 : ∀ r ∈ c, lead (zer n ++ r) = n + lead r := fun r h => lead_zer (by rw [(R2.rows r h).1]; exact R2.lt r h)
  have a2 : ∀ (r : List Int) (i : Nat), at0 (zer n ++ r) (n + i) = at0 r i := fun r i => by
    have := at0_app_r (r := zer n) (s := r) i
    rwa [zer_len] at this
  refine ⟨fun r h => ?_, fun r h => ?_, fun r h => ?_, ?_, ?_⟩
  · rcases besR_mem.mp h with ⟨s, hs, rfl⟩ | ⟨s, hs, rfl⟩
    · exact (R1.rows s hs).app (RX.zero_row h0)
    · exact (RX.zero_row h0).app (R2.rows s hs)
  · rcases besR_mem.mp h with ⟨s, hs, rfl⟩ | ⟨s, hs, rfl⟩
    · rw [l1 s hs]; have := R1.lt s hs; omega
    · rw [l2 s hs]; have := R2.lt s hs; omega
  · rcases besR_mem.mp h with ⟨s, hs, rfl⟩ | ⟨s, hs, rfl⟩
    · rw [l1 s hs, at0_app_l (by rw [(R1.rows s hs).1]; exact R1.lt s hs)]
      exact R1.one s hs
    · rw [l2 s hs, a2]
      exact R2.one s hs
  · unfold besR
    rw [List.pairwise_append, List.pairwise_map, List.pairwise_map]
    refine ⟨R1.inc.imp_of_mem fun {r s} hr hs h => (by rw [l1 r hr, l1 s hs]; exact h), R2.inc.imp_of_mem fun {r s} hr hs h => (by rw [l2 r hr, l2 s hs]; omega), fun r hr s hs => ?_⟩
    obtain ⟨r', hr', rfl⟩ := List.mem_map.mp hr
    obtain ⟨s', hs', rfl⟩ := List.mem_map.mp hs
    rw [l1 r' hr', l2 s' hs']
    have := R1.lt r' hr'
    omega
  · unfold besR
    rw [List.pairwise_append, List.pairwise_map, List.pairwise_map]
    refine ⟨R1.col.imp_of_mem fun {r s} hr hs h => ?_, R2.col.imp_of_mem fun {r s} hr hs h => ?_, fun r hr s hs => ?_⟩
    · rw [l1 s hs, at0_app_l (by rw [(R1.rows r hr).1]; exact R1.lt s hs)]
      exact h
    · rw [l2 s hs, a2]
      exact h
    · obtain ⟨r', hr', rfl⟩ := List.mem_map.mp hr
      obtain ⟨s', hs', rfl⟩ := List.mem_map.mp hs
      rw [l2 s' hs']
      have := at0_app_r (r := r') (s := zer m) (lead s')
      rw [(R1.rows r' hr').1] at this
      rw [this, zer, at0_rep]
theorem besR_length {L M : List (List Int)} : (besR n m L M).length = L.length + M.length := by simp [besR]
/-- the basis of one beside the other -/
theorem bes_eq (I : Inv p inv) {D b c : List (List Int)} (RD : Rref p (n + m) D) (R1 : Rref p n b) (R2 : Rref p m c) (h : Bes p n m D b c) : D = besR n m b c :=
  RD.uniq I.two (besR_rref I.pos R1 R2) fun z => (h z).trans (bes_in I.pos R1.len R2.len).symm
theorem bes_dim (I : Inv p inv) {D b c : List (List Int)} (RD : Rref p (n + m) D) (R1 : Rref p n b) (R2 : Rref p m c) (h : Bes p n m D b c) : D.length = b.length + c.length := by
  rw [bes_eq I RD R1 R2 h, besR_length]
section
variable {W A B C W' A' B' C' W2 A2 B2 C2 : List (List Int)} (T : Tri p inv n W A B C) (T' : Tri p inv m W' A' B' C') (T2 : Tri p inv (n + m) W2 A2 B2 C2)
include T T' T2
theorem bes_sum {s t : Tr} (hs : Bes p n m (valI inv p (n + m) W2 A2 B2 C2 s) (valI inv p n W A B C s) (valI inv p m W' A' B' C' s)) (ht : Bes p n m (valI inv p (n + m) W2 A2 B2 C2 t) (valI inv p n W A B C t) (valI inv p m W' A' B' C' t)) :
    Bes p n m (valI inv p (n + m) W2 A2 B2 C2 (tP s t)) (valI inv p n W A B C (tP s t)) (valI inv p m W' A' B' C' (tP s t)) := fun z => by
  rw [T2.sum]
  constructor
  · rintro ⟨x, y, hx, hy, rfl⟩
    obtain ⟨v, w, hv, hw, rfl⟩ := (hs x).mp hx
    obtain ⟨v', w', hv', hw', rfl⟩ := (ht y).mp hy
    refine ⟨_, _, (T.sum s t _).mpr ⟨v, v', hv, hv', rfl⟩, (T'.sum s t _).mpr ⟨w, w', hw, hw', rfl⟩, ?_⟩
    rw [addR_app (by rw [(T.row _ hv).1, (T.row _ hv').1])]
  · rintro ⟨v, w, hv, hw, rfl⟩
    obtain ⟨x, x', hx, hx', rfl⟩ := (T.sum s t _).mp hv
    obtain ⟨y, y', hy, hy', rfl⟩ := (T'.sum s t _).mp hw
    refine ⟨x ++ y, x' ++ y', (hs _).mpr ⟨x, y, hx, hy, rfl⟩, (ht _).mpr ⟨x', y', hx', hy', rfl⟩, ?_⟩
    rw [addR_app (by rw [(T.row _ hx).1, (T.row _ hx').1])]
theorem bes_com {s t : Tr} (hs : Bes p n m (valI inv p (n + m) W2 A2 B2 C2 s) (valI inv p n W A B C s) (valI inv p m W' A' B' C' s)) (ht : Bes p n m (valI inv p (n + m) W2 A2 B2 C2 t) (valI inv p n W A B C t) (valI inv p m W' A' B' C' t)) :
    Bes p n m (valI inv p (n + m) W2 A2 B2 C2 (tM s t)) (valI inv p n W A B C (tM s t)) (valI inv p m W' A' B' C' (tM s t)) := fun z => by
  rw [T2.com]
  constructor
  · rintro ⟨hx, hy⟩
    obtain ⟨v, w, hv, hw, rfl⟩ := (hs z).mp hx
    obtain ⟨v', w', hv', hw', e⟩ := (ht _).mp hy
    obtain ⟨rfl, rfl⟩ := app_inj (by rw [(T.row _ hv).1, (T.row _ hv').1]) e
    exact ⟨v, w, (T.com s t _).mpr ⟨hv, hv'⟩, (T'.com s t _).mpr ⟨hw, hw'⟩, rfl⟩
  · rintro ⟨v, w, hv, hw, rfl⟩
    obtain ⟨hx, hx'⟩ := (T.com s t _).mp hv
    obtain ⟨hy, hy'⟩ := (T'.com s t _).mp hw
    exact ⟨(hs _).mpr ⟨v, w, hx, hy, rfl⟩, (ht _).mpr ⟨v, w, hx', hy', rfl⟩⟩
/-- the value of a word beside is its value in the one beside its value in the other -/
theorem val_bes (hA : Bes p n m A2 A A') (hB : Bes p n m B2 B B') (hC : Bes p n m C2 C C') : ∀ t : Tr, Bes p n m (valI inv p (n + m) W2 A2 B2 C2 t) (valI inv p n W A B C t) (valI inv p m W' A' B' C' t)
  | .lf c => by
    unfold valI
    split
    · exact hA
    split
    · exact hB
    split
    · exact hC
    split
    · intro z
      show InS p (n + m) [] z ↔ ∃ v w, InS p n [] v ∧ InS p m [] w ∧ z = v ++ w
      rw [in_nil]
      constructor
      · rintro rfl
        exact ⟨_, _, .zero, .zero, by rw [List.replicate_append_replicate]⟩
      · rintro ⟨v, w, hv, hw, rfl⟩
        rw [in_nil.mp hv, in_nil.mp hw, List.replicate_append_replicate]
    · intro z
      constructor
      · intro h
        have r := h.row T.I.pos T2.RW.len
        have ez : z = z.take n ++ z.drop n := (List.take_append_drop n z).symm
        refine ⟨z.take n, z.drop n, T.hW _ ⟨by rw [List.length_take, r.1]; omega, fun x hx => r.2 x (List.mem_of_mem_take hx)⟩, T'.hW _ ⟨by rw [List.length_drop, r.1]; omega, fun x hx => r.2 x (List.mem_of_mem_drop hx)⟩, ez⟩
      · rintro ⟨v, w, hv, hw, rfl⟩
        exact T2.hW _ ((hv.row T.I.pos T.RW.len).app (hw.row T.I.pos T'.RW.len))
  | .nd c l r => by
    have hl := val_bes hA hB hC l
    have hr := val_bes hA hB hC r
    by_cases e : c = 43
    · subst e
      exact bes_sum T T' T2 hl hr
    · have h := bes_com T T' T2 hl hr
      have u : ∀ {k : Nat} {W A B C : List (List Int)}, valI inv p k W A B C (.nd c l r) = valI inv p k W A B C (tM l r) := fun {k W A B C} => by
        show (if c = 43 then _ else _) = (if 38 = 43 then _ else _)
        rw [if_neg e, if_neg (by decide)]
      rw [u, u, u]
      exact h
theorem val_dim (hA : Bes p n m A2 A A') (hB : Bes p n m B2 B B') (hC : Bes p n m C2 C C') (t : Tr) : (valI inv p (n + m) W2 A2 B2 C2 t).length = (valI inv p n W A B C t).length + (valI inv p m W' A' B' C' t).length :=
  bes_dim T.I (T2.val t) (T.val t) (T'.val t) (val_bes T T' T2 hA hB hC t)
/-- the nine numbers are sums -/
theorem nine_bes (hA : Bes p n m A2 A A') (hB : Bes p n m B2 B B') (hC : Bes p n m C2 C C') {i : Nat} (hi : i < 9) : (extK inv p (n + m) W2 A2 B2 C2 i).length = (extK inv p n W A B C i).length + (extK inv p m W' A' B' C' i).length := by
  have h := T.ext_len i hi
  have h' := T'.ext_len i hi
  have h2 := T2.ext_len i hi
  rw [val_dim T T' T2 hA hB hC, val_dim T T' T2 hA hB hC] at h2
  omega
end
/-- rows that span one beside the other -/
theorem bes_reduced (I : Inv p inv) {D b c L M : List (List Int)} (hL : ∀ r ∈ L, Row p n r) (hM : ∀ r ∈ M, Row p m r) (RD : Rref p (n + m) D) (R1 : reduced inv p L = b) (R2 : reduced inv p M = c) (h : Bes p n m D b c) : reduced inv p (besR n m L M) = D := by
  have lL : Len n L := fun r h => (hL r h).1
  have lM : Len m M := fun r h => (hM r h).1
  have hr : ∀ r ∈ besR n m L M, Row p (n + m) r := fun r h => by
    rcases besR_mem.mp h with ⟨s, hs, rfl⟩ | ⟨s, hs, rfl⟩
    · exact (hL s hs).app (RX.zero_row I.pos)
    · exact (RX.zero_row I.pos).app (hM s hs)
  refine (reduced_ok I hr).uniq I.two RD fun z => ?_
  rw [reduced_span I hr, h z, bes_in I.pos lL lM, ← R1, ← R2]
  constructor
  · rintro ⟨v, w, hv, hw, e⟩
    exact ⟨v, w, (reduced_span I hL v).mpr hv, (reduced_span I hM w).mpr hw, e⟩
  · rintro ⟨v, w, hv, hw, e⟩
    exact ⟨v, w, (reduced_span I hL v).mp hv, (reduced_span I hM w).mp hw, e⟩
end RX

set_option Elab.async false
set_option linter.all false
set_option maxRecDepth 100000
set_option maxHeartbeats 4000000
/-! # beside: numbers and pieces -/
namespace KV
open PySem PySem.Spec PyProof.Rows L2 VX RX
section
variable {P : Program} {w : World} {K : PySem.W.Frag} {mg : Str → Option Value} {base : Heap} {f : Addr} {fd : FuncData}
open RX KW
theorem kR_of : ∀ a < 9, ∀ t < 3, kR a t = rowsOf (kSz a) 0 [kA a] (97 + t) := by decide +kernel
theorem kR_bits0 : ∀ a < 9, ∀ t < 3, ((kR a t).all fun r => decide (r.length = kSz a) && r.all fun x => decide (x = 0) || decide (x = 1)) = true := by decide +kernel
theorem kR_bits (a : Nat) (ha : a < 9) (t : Nat) (ht : t < 3) (r : List Int) (m : r ∈ kR a t) : r.length = kSz a ∧ ∀ x ∈ r, x = 0 ∨ x = 1 := by
  have h := List.all_eq_true.mp (kR_bits0 a ha t ht) r m
  rw [Bool.and_eq_true] at h
  refine ⟨of_decide_eq_true h.1, fun x hx => ?_⟩
  have h2 := List.all_eq_true.mp h.2 x hx
  rw [Bool.or_eq_true] at h2
  exact h2.imp of_decide_eq_true of_decide_eq_true
/-- one of a kind, none of the others -/
def oneC (a : Nat) : List Int := (List.range 9).map fun i => if i = a then 1 else 0
theorem one_pre : ∀ a < 9, kpre (oneC a) 9 = [kA a] ∧ total [kA a] = kSz a ∧ ∀ i < 9, (at0 (oneC a) i).toNat = if i = a then 1 else 0 := by decide +kernel
theorem bk_in {p : Int} (hp : isP p = true) {a t : Nat} (ha : a < 9) (ht : t < 3) (v : List Int) : InS p (kSz a) (Bk p a t) v ↔ InS p (kSz a) (rowsOf (kSz a) 0 [kA a] (97 + t)) v := by
  have II := invF_ok hp
  have p2 := II.two
  have hr : ∀ r ∈ kR a t, Row p (kSz a) r := fun r m => by
    obtain ⟨h1, h2⟩ := kR_bits a ha t ht r m
    refine ⟨h1, fun x hx => ?_⟩
    rcases h2 x hx with e | e <;> omega
  have e : (kR a t).map (modR p) = kR a t := by rw [List.map_congr_left fun r m => modR_id (hr r m) II.pos, List.map_id']
  show InS p (kSz a) (reduced (invF p) p ((kR a t).map (modR p))) v ↔ _
  rw [e, reduced_span II hr, kR_of a ha t ht]
/-- the nine numbers of a kind's triple -/
theorem nine_kind {p : Int} {a i : Nat} (hp : isP p = true) (ha : a < 9) (hi : i < 9) (T : Tri p (invF p) (kSz a) (wholeB p (kSz a)) (Bk p a 0) (Bk p a 1) (Bk p a 2)) : (extK (invF p) p (kSz a) (wholeB p (kSz a)) (Bk p a 0) (Bk p a 1) (Bk p a 2) i).length = if i = a then 1 else 0 := by
  obtain ⟨h1, h2, h3⟩ := one_pre a ha
  rw [← h3 i hi]
  exact nine_counts T T Iso.id (by rw [h1, h2]) (fun v => by rw [h1]; exact bk_in hp ha (by decide) v) (fun v => by rw [h1]; exact bk_in hp ha (by decide) v) (fun v => by rw [h1]; exact bk_in hp ha (by decide) v) (fun _ _ => Iff.rfl) (fun _ _ => Iff.rfl) (fun _ _ => Iff.rfl) hi
/-- the triple of nothing -/
theorem nine_none {p : Int} {A B C : List (List Int)} {i : Nat} (hi : i < 9) (T : Tri p (invF p) 0 (wholeB p 0) A B C) : (extK (invF p) p 0 (wholeB p 0) A B C i).length = 0 := by
  have h := T.ext_len i hi
  have := (T.val (outT i)).card
  omega
theorem besB_R {p : Int} {n m : Nat} {b c : List (List Int)} : besB p n m b c = reduced (invF p) p (besR n m b c) := rfl
theorem bes_of {p : Int} {n m : Nat} {b c : List (List Int)} (hp : isP p = true) (R1 : Rref p n b) (R2 : Rref p m c) : Bes p n m (besB p n m b c) b c := fun z => by
  have II := invF_ok hp
  rw [besB_R, reduced_span II (besR_rref II.pos R1 R2).rows, bes_in II.pos R1.len R2.len]
theorem tri_bes {p : Int} {n m : Nat} {A B C A' B' C' : List (List Int)} (hp : isP p = true) (T : Tri p (invF p) n (wholeB p n) A B C) (T' : Tri p (invF p) m (wholeB p m) A' B' C') : Tri p (invF p) (n + m) (wholeB p (n + m)) (besB p n m A A') (besB p n m B B') (besB p n m C C') := by
  have II := invF_ok hp
  have h := fun {b c : List (List Int)} (R1 : Rref p n b) (R2 : Rref p m c) => reduced_ok (inv := invF p) II (besR_rref (n := n) (m := m) II.pos R1 R2).rows
  exact ⟨II, fun v r => units_all hp r, wholeB_rref hp, h T.RA T'.RA, h T.RB T'.RB, h T.RC T'.RC⟩
/-- the nine numbers beside -/
theorem nine_sum {p : Int} {n m : Nat} {A B C A' B' C' : List (List Int)} (hp : isP p = true) (T : Tri p (invF p) n (wholeB p n) A B C) (T' : Tri p (invF p) m (wholeB p m) A' B' C') {i : Nat} (hi : i < 9) : (extK (invF p) p (n + m) (wholeB p (n + m)) (besB p n m A A') (besB p n m B B') (besB p n m C C') i).length = (extK (invF p) p n (wholeB p n) A B C i).length + (extK (invF p) p m (wholeB p m) A' B' C' i).length :=
  nine_bes T T' (tri_bes hp T T') (bes_of hp T.RA T'.RA) (bes_of hp T.RB T'.RB) (bes_of hp T.RC T'.RC) hi
end
end KV

set_option Elab.async false
set_option linter.all false
set_option maxRecDepth 100000
set_option maxHeartbeats 4000000
/-! # triple_of -/
namespace KV
open PySem PySem.Spec PyProof.Rows L2 VX RX
section
variable {P : Program} {w : World} {K : PySem.W.Frag} {mg : Str → Option Value} {base : Heap} {f : Addr} {fd : FuncData}
open RX KW
/-- a dict of the nine numbers -/
def NumD (c : Nat → Nat) : List Nat → V := fun k => .int (c (KW.kinds.idxOf k) : Nat)
theorem kind_i : ∀ i < 9, KW.kinds[i]? = some (kA i) ∧ KW.kinds.idxOf (kA i) = i := by decide
theorem numD_at (c : Nat → Nat) {i : Nat} (hi : i < 9) : (dictK (NumD c))[i]? = some (Sum.inr (KX.kS (kA i)), .int (c i : Nat)) := by
  unfold dictK
  rw [List.getElem?_map, (kind_i i hi).1]
  show some (_, NumD c (kA i)) = _
  unfold NumD
  rw [(kind_i i hi).2]
theorem numD_len {g : List Nat → V} : (dictK g).length = 9 := by unfold dictK; rw [List.length_map]; rfl
theorem unlock {H H1 H' : Hp} {d : Addr} {od : Obj} {u : HO} (hd : H d = some u) (e : H1 = upd H d (.frz od u)) (s : Same H1 H') : Same H (upd H' d u) := fun c o z => by
  by_cases h : c = d
  · subst h
    rw [hd] at z
    cases z
    exact upd_same
  · rw [upd_ne h]
    refine s _ _ ?_
    rw [e, upd_ne h]
    exact z
/-- the length of the kinds before one -/
def SN (c : Nat → Nat) : Nat → Nat
  | 0 => 0
  | i + 1 => SN c i + kSz i * c i
theorem SN_sum (c : Nat → Nat) : ∀ k, ((List.range k).map fun i => (kSz i : Int) * (c i : Int)).sum = ((SN c k : Nat) : Int)
  | 0 => rfl
  | k + 1 => by
    rw [List.range_succ, List.map_append, List.sum_append, SN_sum c k]
    show ((SN c k : Nat) : Int) + ((kSz k : Int) * (c k : Int) + 0) = ((SN c k + kSz k * c k : Nat) : Int)
    rw [Int.natCast_add, Int.natCast_mul, Int.add_zero]
theorem SN_le (c : Nat → Nat) {i : Nat} : ∀ {k}, i ≤ k → SN c i ≤ SN c k
  | 0, h => by rw [Nat.le_zero.mp h]; exact Nat.le_refl _
  | k + 1, h => by
    by_cases e : i = k + 1
    · rw [e]; exact Nat.le_refl _
    · exact Nat.le_trans (SN_le c (k := k) (by omega)) (Nat.le_add_right _ _)
end
end KV

set_option Elab.async false
set_option linter.all false
set_option maxRecDepth 100000
set_option maxHeartbeats 4000000
/-! # values beside -/
namespace KV
open PySem PySem.Spec PyProof.Rows L2 VX RX
section
variable {P : Program} {w : World} {K : PySem.W.Frag} {mg : Str → Option Value} {base : Heap} {f : Addr} {fd : FuncData}
open RX
theorem val_besB {p : Int} {n m : Nat} {A B C A' B' C' : List (List Int)} (hp : isP p = true) (T : Tri p (invF p) n (wholeB p n) A B C) (T' : Tri p (invF p) m (wholeB p m) A' B' C') (t : KW.Tr) : valB p (n + m) (besB p n m A A') (besB p n m B B') (besB p n m C C') t = besB p n m (valB p n A B C t) (valB p m A' B' C' t) := by
  have II := invF_ok hp
  have T2 := tri_bes hp T T'
  rw [valB_V, valB_V, valB_V]
  have h := val_bes T T' T2 (bes_of hp T.RA T'.RA) (bes_of hp T.RB T'.RB) (bes_of hp T.RC T'.RC) t
  refine (T2.val t).uniq II.two (reduced_ok II (besR_rref II.pos (T.val t) (T'.val t)).rows) fun z => (h z).trans ?_
  exact (bes_of hp (T.val t) (T'.val t) z).symm
end
end KV

set_option Elab.async false
set_option linter.all false
set_option maxRecDepth 100000
set_option maxHeartbeats 4000000
/-! # tapes -/
namespace KV
open PySem PySem.Spec PyProof.Rows L2 VX RX
section
variable {P : Program} {w : World} {K : PySem.W.Frag} {mg : Str → Option Value} {base : Heap} {f : Addr} {fd : FuncData}
/-! ### _law_tape -/
/-- a tape: three ints -/
def TapeK (H : Hp) (b : Addr) : Prop := ∃ x y z : Int, H b = some (.lst [.int x, .int y, .int z]) ∧ 0 ≤ x ∧ 0 ≤ y ∧ y ≤ 100000000000 ∧ 0 ≤ z ∧ z ≤ 100000000000
theorem TapeK.same {H H' : Hp} {b : Addr} (s : Same H H') (h : TapeK H b) : TapeK H' b := let ⟨x, y, z, h, r⟩ := h; ⟨x, y, z, s _ _ h, r⟩
theorem TapeK.at {H : Hp} {b : Addr} (h : TapeK H b) : ∃ xs, H b = some (.lst xs) := let ⟨_, _, _, h, _⟩ := h; ⟨_, h⟩
theorem TapeK.kept {H H' : Hp} {b c : Addr} (k : Kept c H H') (n : b ≠ c) (h : TapeK H b) : TapeK H' b := let ⟨x, y, z, h, r⟩ := h; ⟨x, y, z, k _ _ h n, r⟩
theorem TapeK.ne {H : Hp} {b l : Addr} (h : TapeK H b) (hl : H l = none) : l ≠ b := fun e => by
  obtain ⟨_, _, _, h, _⟩ := h
  rw [e, h] at hl
  cases hl
theorem TapeK.upd {H : Hp} {b D : Addr} {o : HO} (h : TapeK H b) (n : D ≠ b) : TapeK (upd H D o) b := let ⟨x, y, z, h, r⟩ := h; ⟨x, y, z, (upd_ne (Ne.symm n)).trans h, r⟩
def spTape (K : PySem.W.Frag) : Sp := fun vs H Q _ => ∃ (l : Addr) (ns : List Int) (j : Nat), vs = [.ref l, .int (j : Nat)] ∧ SqL K H l (ns.map V.int) ∧ j ≤ 1000 ∧ ∀ H' b, Same H H' → H b = none → TapeK H' b → Q (.ref b) H'
abbrev nTape : List Str := ["_law_script", "_law_k", "_law_cell"]
theorem sc_tape : FnScope nTape ["_law_script", "_law_k"] (defScope (top jTape)) := ⟨rfl, rfl, rfl, by decide +kernel, rfl, by decide +kernel, by decide +kernel⟩
theorem g_tape (T : TX K mg) : ∃ fd, FnP K "_law_tape" jTape (He.ga K "_law_tape") fd ∧ FnOk P w K mg base CX0 1 (He.ga K "_law_tape") fd ["_law_script", "_law_k"] (spTape K) ∧ Binds K fd ["_law_script", "_law_k"] [] := by
  obtain ⟨fd, F⟩ := T.def "_law_tape" jTape
  refine ⟨fd, F, F.ok sc_tape (fun vs H Q E h => ?_) (fun cdv A outer s H vs Q E hr h => ?_), F.bindsN fun _ _ _ _ _ _ us hl => match us, hl with | [_, _], _ => rfl⟩
  · obtain ⟨l, ns, j, rfl, _⟩ := h
    rfl
  · obtain ⟨l, ns, j, rfl, hs, hj, k⟩ := h
    have nd := sc_tape.nd
    refine ⟨_, PSs.nox (pss_cons (ps_set (i := 2) nd rfl (.inl rfl) pe_int) (pss_cons (ps_cut (ps_if (pt_cmpR op_lt (pv 1) (pe_callB call_len_seq (by rfl) (T.fr "len") boot_len (pa_cons (pv 0) pa_nil)) (nomark _)) (pss_one (ps_set (i := 2) nd rfl (.inl rfl) (pe_ix ix_seq (pv 0) (pv 1) (fun _ _ => rfl)))) pss_nil)) (pss_one (ps_ret (pe_lst (pa_cons (pe_callB call_abs (by rfl) (T.fr "abs") (by decide +kernel) (pa_cons (pv 2) pa_nil)) (pa_cons (pe_op op_add pe_int (pe_op op_mul pe_int (pv 1))) (pa_cons (pe_op op_add pe_int (pe_op op_mul pe_int (pv 1))) pa_nil)))))))), ?_⟩
    have fin : ∀ (c : Int) (b : Addr), H b = none → Q (.ref b) (upd H b (.lst [.int (if c < 0 then -c else c), .int (104729 + 7919 * (j : Int)), .int (15485863 + 1299709 * (j : Int))])) := fun c b hb => by
      refine k _ b (same_new hb) hb ⟨_, _, _, upd_same, ?_, by omega, by omega, by omega, by omega⟩
      split <;> omega
    refine ⟨fun σ H' => ∃ c : Int, σ = [some (.ref l), some (.int (j : Nat)), some (.int c)] ∧ H' = H, ?_, ?_⟩
    · refine ⟨_, rfl, _, rfl, l, _, rfl, .inl hs, _, _, rfl, rfl, _, rfl, ite2 (fun c => ?_) (fun c => ⟨_, rfl, rfl⟩)⟩
      have hj' : j < ns.length := by have := of_decide_eq_true c; rw [List.length_map] at this; omega
      refine ⟨_, rfl, _, rfl, .inl ⟨l, _, _, .int ns[j], rfl, rfl, hs, ?_, ⟨_, rfl, rfl⟩⟩⟩
      exact atI_nat (by rw [List.getElem?_map, List.getElem?_eq_getElem hj']; rfl)
    rintro _ _ ⟨c, rfl, rfl⟩
    refine ⟨_, rfl, _, rfl, _, rfl, _, _, rfl, rfl, .inl ⟨by decide, by decide⟩, _, _, rfl, rfl, _, rfl, _, _, rfl, rfl, .inl ⟨by decide, by decide⟩, _, _, rfl, rfl, (by show 3 ≤ sizeLine; decide), fun b hb => fin c b hb⟩
/-! ### _law_pick -/
def spPick : Sp := fun vs H Q _ => ∃ (b : Addr) (m : Int), vs = [.ref b, .int m] ∧ TapeK H b ∧ 0 < m ∧ m ≤ 1000000000 ∧
  ∀ d H', 0 ≤ d → d < m → Kept b H H' → TapeK H' b → (∀ c, H c = none → H' c = none) → Q (.int d) H'
structure SpPick (vs : List V) (H : Hp) (Q : VK) (E : XK) : Prop where
  out : spPick vs H Q E
abbrev nPick : List Str := ["_law_tape_here", "_law_many", "_law_digit"]
theorem sc_pick : FnScope nPick ["_law_tape_here", "_law_many"] (defScope (top jPick)) := ⟨rfl, rfl, rfl, by decide +kernel, rfl, by decide +kernel, by decide +kernel⟩
theorem g_pick (T : TX K mg) : ∃ fd, FnP K "_law_pick" jPick (He.ga K "_law_pick") fd ∧ FnOk P w K mg base CX0 1 (He.ga K "_law_pick") fd ["_law_tape_here", "_law_many"] SpPick ∧ Binds K fd ["_law_tape_here", "_law_many"] [] := by
  obtain ⟨fd, F⟩ := T.def "_law_pick" jPick
  refine ⟨fd, F, F.ok sc_pick (fun vs H Q E h => ?_) (fun cdv A outer s H vs Q E hr h => ?_), F.bindsN fun _ _ _ _ _ _ us hl => match us, hl with | [_, _], _ => rfl⟩
  · obtain ⟨⟨b, m, rfl, _⟩⟩ := h
    rfl
  · obtain ⟨⟨b, m, rfl, ⟨x, y, z, hb, x0, y0, y1, z0, z1⟩, m0, m1, k⟩⟩ := h
    have nd := sc_pick.nd
    refine ⟨_, PSs.nox (pss_cons (ps_if (pt_cmpR op_ge (pe_ix ix_list (pv 0) pe_int (fun _ _ => rfl)) (pe_op op_pow pe_int pe_int) (nomark _)) (pss_cons (ps_set (i := 2) nd rfl (.inl rfl) (pe_op op_mod (pe_callTy call_int1 (by rfl) (T.fr "int") boot_int (pa_cons (pe_ix ix_list (pv 0) pe_int (fun _ _ => rfl)) pa_nil)) (pv 1))) (pss_cons (ps_asg (pe_op op_fdiv (pe_ix ix_list (pv 0) pe_int (fun _ _ => rfl)) (pv 1)) (pg_sub (pv 0) pe_int set_list)) (pss_one (ps_ret (pv 2))))) pss_nil) (pss_cons (ps_asg (pe_op op_mod (pe_callTy call_int1 (by rfl) (T.fr "int") boot_int (pa_cons (pe_op op_add (pe_op op_add (pe_op op_mul (pe_ix ix_list (pv 0) pe_int (fun _ _ => rfl)) pe_int) (pe_op op_mul (pe_ix ix_list (pv 0) pe_int (fun _ _ => rfl)) pe_int)) pe_int) pa_nil)) pe_int) (pg_sub (pv 0) pe_int set_list)) (pss_cons (ps_asg (pe_op op_mod (pe_callTy call_int1 (by rfl) (T.fr "int") boot_int (pa_cons (pe_op op_add (pe_op op_add (pe_op op_mul (pe_ix ix_list (pv 0) pe_int (fun _ _ => rfl)) pe_int) (pe_op op_mul (pe_ix ix_list (pv 0) pe_int (fun _ _ => rfl)) pe_int)) pe_int) pa_nil)) pe_int) (pg_sub (pv 0) pe_int set_list)) (pss_one (ps_ret (pe_op op_mod (pe_callTy call_int1 (by rfl) (T.fr "int") boot_int (pa_cons (pe_op op_fdiv (pe_op op_mod (pe_callTy call_int1 (by rfl) (T.fr "int") boot_int (pa_cons (pe_op op_add (pe_op op_mul (pe_ix ix_list (pv 0) pe_int (fun _ _ => rfl)) (pe_ix ix_list (pv 0) pe_int (fun _ _ => rfl))) pe_int) pa_nil)) pe_int) pe_int) pa_nil)) (pv 1))))))), ?_⟩
    have fin : ∀ (d : Int) (H' : Hp) (x y z : Int), 0 ≤ d → d < m → (∀ c, c ≠ b → H' c = H c) → H' b = some (.lst [.int x, .int y, .int z]) → 0 ≤ x → 0 ≤ y → y ≤ 100000000000 → 0 ≤ z → z ≤ 100000000000 → Q (.int d) H' := fun d H' x y z d0 d1 he hb' a1 a2 a3 a4 a5 =>
      k d H' d0 d1 (fun c o hc n => by rw [he c n]; exact hc) ⟨x, y, z, hb', a1, a2, a3, a4, a5⟩ fun c hc => by rw [he c (fun e => by rw [e, hb] at hc; cases hc)]; exact hc
    refine ⟨_, rfl, b, _, _, _, rfl, rfl, SqL.of hb, rfl, _, _, rfl, rfl, ⟨by decide, by decide, by decide⟩, _, _, rfl, rfl, _, rfl, ?_⟩
    refine ite2 (fun c => ?_) (fun c => ?_)
    · refine ⟨_, rfl, b, _, _, _, rfl, rfl, SqL.of hb, rfl, .inl ⟨_, rfl, _, rfl, _, _, rfl, rfl, m0, ?_⟩⟩
      refine ⟨_, rfl, b, _, _, _, rfl, rfl, SqL.of hb, rfl, _, rfl, _, _, rfl, rfl, ⟨m0, by omega⟩, ?_⟩
      refine ⟨_, rfl, b, _, _, 0, rfl, rfl, hb, rfl, _, rfl, ?_⟩
      exact fin (x % m) _ (x / m) y z (Int.emod_nonneg x (by omega)) (Int.emod_lt_of_pos x m0) (fun c hc => upd_ne hc) upd_same (Int.ediv_nonneg x0 (by omega)) y0 y1 z0 z1
    · have c' : x < 10 ^ 18 := by simpa using c
      refine ⟨_, rfl, b, _, _, _, rfl, rfl, SqL.of hb, rfl, _, _, rfl, rfl, .inr ⟨by decide, by decide⟩, _, rfl, b, _, _, _, rfl, rfl, SqL.of hb, rfl, _, _, rfl, rfl, .inr ⟨by decide, by decide⟩, _, _, rfl, rfl, _, _, rfl, rfl, .inl ⟨_, rfl, _, _, rfl, rfl, (by show (0 : Int) < 2147483629; decide), ?_⟩⟩
      refine ⟨_, rfl, b, _, _, 1, rfl, rfl, hb, rfl, ?_⟩
      have a0 := Int.emod_nonneg (y * 69069 + x * 7177 + 12345) (show (2147483629 : Int) ≠ 0 by decide)
      have a1 := Int.emod_lt_of_pos (y * 69069 + x * 7177 + 12345) (show (0 : Int) < 2147483629 by decide)
      obtain ⟨y2, e2⟩ : ∃ y2, y2 = (y * 69069 + x * 7177 + 12345) % 2147483629 := ⟨_, rfl⟩
      rw [← e2] at a0 a1
      dsimp -proj only
      rw [← e2]
      have h1 : upd H b (.lst (([V.int x, V.int y, V.int z] : List V).set 1 (V.int y2))) b = some (.lst [.int x, .int y2, .int z]) := upd_same
      refine ⟨_, rfl, b, _, _, _, rfl, rfl, SqL.of h1, rfl, _, _, rfl, rfl, .inr ⟨by decide, by decide⟩, _, rfl, b, _, _, _, rfl, rfl, SqL.of h1, rfl, _, _, rfl, rfl, .inr ⟨by decide, by decide⟩, _, _, rfl, rfl, _, _, rfl, rfl, .inl ⟨_, rfl, _, _, rfl, rfl, (by show (0 : Int) < 2147483563; decide), ?_⟩⟩
      refine ⟨_, rfl, b, _, _, 2, rfl, rfl, h1, rfl, ?_⟩
      have b0 := Int.emod_nonneg (z * 40014 + x * 3571 + 97) (show (2147483563 : Int) ≠ 0 by decide)
      have b1 := Int.emod_lt_of_pos (z * 40014 + x * 3571 + 97) (show (0 : Int) < 2147483563 by decide)
      obtain ⟨z2, f2⟩ : ∃ z2, z2 = (z * 40014 + x * 3571 + 97) % 2147483563 := ⟨_, rfl⟩
      rw [← f2] at b0 b1
      dsimp -proj only
      rw [← f2, upd_upd]
      have h2 : upd H b (.lst (([V.int x, V.int y2, V.int z] : List V).set 2 (V.int z2))) b = some (.lst [.int x, .int y2, .int z2]) := upd_same
      refine ⟨_, rfl, b, _, _, _, rfl, rfl, SqL.of h2, rfl, _, rfl, b, _, _, _, rfl, rfl, SqL.of h2, rfl, _, _, rfl, rfl, .inl ⟨by omega, by omega⟩, _, _, rfl, rfl, .inl ⟨_, rfl, _, _, rfl, rfl, (by show (0 : Int) < 2147483587; decide), _, _, rfl, rfl, ⟨by decide, by decide⟩, .inl ⟨_, rfl, _, rfl, _, _, rfl, rfl, m0, ?_⟩⟩⟩
      exact fin _ _ x y2 z2 (Int.emod_nonneg _ (by omega)) (Int.emod_lt_of_pos _ m0) (fun c hc => upd_ne hc) h2 x0 a0 (by omega) b0 (by omega)
theorem pick_use {H : Hp} {b : Addr} {m : Int} {Q : VK} {E : XK} (h : TapeK H b) (m0 : 0 < m) (m1 : m ≤ 1000000000)
    (k : ∀ d H', 0 ≤ d → d < m → Kept b H H' → TapeK H' b → (∀ c, H c = none → H' c = none) → Q (.int d) H') : SpPick [.ref b, .int m] H Q E := ⟨⟨b, m, rfl, h, m0, m1, k⟩⟩
end
end KV

set_option Elab.async false
set_option linter.all false
set_option maxRecDepth 100000
set_option maxHeartbeats 4000000
/-! # rows drawn and moved -/
namespace KV
open PySem PySem.Spec PyProof.Rows L2 VX RX
section
variable {P : Program} {w : World} {K : PySem.W.Frag} {mg : Str → Option Value} {base : Heap} {f : Addr} {fd : FuncData}
open RX
/-! ### _law_added -/
def spAdd2 : Sp := fun vs H Q _ => ∃ (p : Int) (a : Addr) (r : List Int) (g : Int) (o : Addr) (xs : List Int), vs = [.int p, .ref a, .ref o, .int g] ∧ IsInts H a r ∧ IsInts H o xs ∧ r.length = xs.length ∧ 0 < p ∧ (-(2 ^ 64) < g ∧ g < 2 ^ 64) ∧ r.length ≤ 1000 ∧ ∀ H' c, Same H H' → H c = none → IsRow H' c (addR p r g xs) → Q (.ref c) H'
abbrev nAdd : List Str := ["_law_prime", "_law_one", "_law_other", "_law_times", "_law_k"]
theorem sc_add : FnScope nAdd ["_law_prime", "_law_one", "_law_other", "_law_times"] (defScope (top jAdd)) := ⟨rfl, rfl, rfl, by decide +kernel, rfl, by decide +kernel, by decide +kernel⟩
theorem g_add2 (T : TX K mg) : ∃ fd, FnP K "_law_added" jAdd (He.ga K "_law_added") fd ∧ FnOk P w K mg base CX0 1 (He.ga K "_law_added") fd ["_law_prime", "_law_one", "_law_other", "_law_times"] spAdd2 ∧ Binds K fd ["_law_prime", "_law_one", "_law_other", "_law_times"] [] := by
  obtain ⟨fd, F⟩ := T.def "_law_added" jAdd
  refine ⟨fd, F, F.ok sc_add (fun vs H Q E h => ?_) (fun cdv A outer s H vs Q E hr h => ?_), F.bindsN fun _ _ _ _ _ _ us hl => match us, hl with | [_, _, _, _], _ => rfl⟩
  · obtain ⟨p, a, r, g, o, xs, rfl, _⟩ := h
    rfl
  · obtain ⟨p, a, r, g, o, xs, rfl, ha, hx, hlen, hp, hg, hl, k⟩ := h
    have nd := sc_add.nd
    refine ⟨_, PSs.nox (pss_one (ps_ret (pe_callTy call_tuple_of (by rfl) (T.fr "tuple") (by decide +kernel) (pa_cons (pe_lc (own := [("_law_k", 4)]) (g := gName 4) (by rfl) nd (pi_range1 (by rfl) (T.fr "range") (pa_cons (pe_callB call_len_seq (by rfl) (T.fr "len") boot_len (pa_cons (pv 1) pa_nil)) pa_nil)) (blkOk_by (own := [("_law_k", 4)]) (N := nAdd) (sc := defScope (top jAdd)) (by decide +kernel)) (fun _ _ _ _ _ => pg_name (i := 4) nd rfl (Or.inl rfl)) (fun _ _ _ _ _ => pts_nil) (fun _ _ _ _ _ => pe_op op_modN (pe_callTy call_int1 (by rfl) (T.fr "int") boot_int (pa_cons (pe_op op_add (pe_ix (r := rIx K) ix_seq (pv 1) (pv 4) (fun _ _ => rfl)) (pe_op op_mul (pv 3) (pe_ix (r := rIx K) ix_seq (pv 2) (pv 4) (fun _ _ => rfl)))) pa_nil)) (pv 0))) pa_nil)))), ?_⟩
    have hlo : (addR p r g xs).length = r.length := addR_len rfl hlen.symm
    have hnl : (r.map V.int).length = r.length := by simp
    refine ⟨_, rfl, a, _, rfl, ha.imp SqL.of SqT.of, _, rfl, by omega, by omega, fun D hD => ?_⟩
    refine lc_it (walk_range (lo := 0) (n := (((r.map V.int).length : Nat) : Int).toNat)) (fun i H' => H' = upd H D (.lst (((addR p r g xs).take i).map V.int))) rfl (fun i H' _ z => trivial) ?_ ?_
    · rintro i x Ha Hb hi rfl ⟨rfl, rfl⟩
      have hi : i < r.length := by omega
      have s1 : Same H (upd H D (.lst (((addR p r g xs).take i).map V.int))) := same_new hD
      refine ⟨rfl, yes_if ?_⟩
      refine ⟨_, rfl, _, rfl, ?_⟩
      refine ix_ints (i := i) (ha.same s1) (Int.zero_add _) hi ?_
      refine ⟨_, rfl, _, rfl, _, rfl, ?_⟩
      refine ix_ints (i := i) (hx.same s1) (Int.zero_add _) (by omega) ?_
      refine ⟨_, _, rfl, rfl, .inl hg, _, _, rfl, rfl, .inl ⟨_, rfl, _, rfl, _, _, rfl, rfl, by omega, ((addR p r g xs).take i).map V.int, upd_same, lt_line (by rw [List.length_map]; have := List.length_take_le i (addR p r g xs); omega), ?_⟩⟩
      have e : (addR p r g xs)[i]? = some ((at0 r i + g * at0 xs i) % p) := by
        have e1 := at0_addR (p := p) (f := g) hlen i
        rw [at0_of (by omega)] at e1
        rw [List.getElem?_eq_getElem (by omega), e1]
      rw [upd_upd, take_more e]
      show upd H D (.lst (_ ++ [V.int ((at0 r i + g * at0 xs i).fmod p)])) = _
      rw [fmod_pos hp]
    · rintro Ha rfl
      have e : (((r.map V.int).length : Nat) : Int).toNat = (addR p r g xs).length := by omega
      rw [e, List.take_length]
      refine ⟨D, _, rfl, .inl ⟨SqL.of upd_same, fun c hc => k _ c (same_two hD hc) (none_of hc) upd_same⟩⟩
/-! ### _law_unit -/
def spUnit : Sp := fun vs H Q _ => ∃ (n i : Nat), vs = [.int (n : Nat), .int (i : Nat)] ∧ n ≤ 1000 ∧ ∀ H' c, Same H H' → H c = none → IsRow H' c (unitR n i) → Q (.ref c) H'
abbrev nUnit : List Str := ["_law_length_here", "_law_place", "_law_k"]
theorem sc_unit : FnScope nUnit ["_law_length_here", "_law_place"] (defScope (top jUnit)) := ⟨rfl, rfl, rfl, by decide +kernel, rfl, by decide +kernel, by decide +kernel⟩
theorem g_unit2 (T : TX K mg) : ∃ fd, FnP K "_law_unit" jUnit (He.ga K "_law_unit") fd ∧ FnOk P w K mg base CX0 1 (He.ga K "_law_unit") fd ["_law_length_here", "_law_place"] spUnit ∧ Binds K fd ["_law_length_here", "_law_place"] [] := by
  obtain ⟨fd, F⟩ := T.def "_law_unit" jUnit
  refine ⟨fd, F, F.ok sc_unit (fun vs H Q E h => ?_) (fun cdv A outer s H vs Q E hr h => ?_), F.bindsN fun _ _ _ _ _ _ us hl => match us, hl with | [_, _], _ => rfl⟩
  · obtain ⟨n, i, rfl, _⟩ := h
    rfl
  · obtain ⟨n, i, rfl, hn, k⟩ := h
    have nd := sc_unit.nd
    refine ⟨_, PSs.nox (pss_one (ps_ret (pe_callTy call_tuple_of (by rfl) (T.fr "tuple") (by decide +kernel) (pa_cons (pe_lc (own := [("_law_k", 2)]) (g := gName 2) (by rfl) nd (pi_range1 (by rfl) (T.fr "range") (pa_cons (pv 0) pa_nil)) (blkOk_by (own := [("_law_k", 2)]) (N := nUnit) (sc := defScope (top jUnit)) (by decide +kernel)) (fun _ _ _ _ _ => pg_name (i := 2) nd rfl (Or.inl rfl)) (fun _ _ _ _ _ => pts_nil) (fun _ _ _ _ _ => pe_callTy (r := fun xs H Q => (∃ i, xs = [.int i] ∧ Q (.int i) H) ∨ ∃ k, xs = [.bl k] ∧ Q (.int (if k then 1 else 0)) H) call_int1 (by rfl) (T.fr "int") boot_int (pa_cons (pe_cmpR op_eq (pv 2) (pv 1) (nomark _)) pa_nil))) pa_nil)))), ?_⟩
    have eN : ((n : Nat) : Int).toNat = n := Int.toNat_natCast n
    refine ⟨_, rfl, _, rfl, by omega, by omega, fun D hD => ?_⟩
    refine lc_it (walk_range (lo := 0) (n := ((n : Nat) : Int).toNat)) (fun t H' => H' = upd H D (.lst (((List.range t).map fun j => if j = i then (1 : Int) else 0).map V.int))) rfl (fun i H' _ z => trivial) ?_ ?_
    · rintro t v Hc Hd ht rfl ⟨rfl, rfl⟩
      rw [eN] at ht
      refine ⟨rfl, yes_if ?_⟩
      refine ⟨_, rfl, _, rfl, rfl, .inr ⟨_, rfl, _, upd_same, lt_line (by rw [List.length_map, List.length_map, List.length_range]; omega), ?_⟩⟩
      rw [upd_upd, List.range_succ, List.map_append, List.map_append]
      have e : V.int (if decide (V.int (0 + (t : Int)) = V.int (i : Nat)) = true then 1 else 0) = V.int (if t = i then 1 else 0) := by
        by_cases q : t = i
        · rw [if_pos q, decide_eq_true (by rw [q, Int.zero_add]), if_pos rfl]
        · rw [if_neg q, decide_eq_false (fun z => q (by have := V.int.inj z; omega)), if_neg Bool.false_ne_true]
      exact congrArg (fun z => upd H D (HO.lst (_ ++ [z]))) e
    · rintro Ha rfl
      rw [eN]
      refine ⟨D, _, rfl, .inl ⟨SqL.of upd_same, fun c hc => k _ c (same_two hD hc) (none_of hc) upd_same⟩⟩
/-! ### _law_vector -/
def spVec2 : Sp := fun vs H Q _ => ∃ (b : Addr) (p : Int) (n : Nat), vs = [.ref b, .int p, .int (n : Nat)] ∧ TapeK H b ∧ 0 < p ∧ p ≤ 1000 ∧ n ≤ 100 ∧
  ∀ H' c r, Kept b H H' → TapeK H' b → H c = none → c ≠ b → IsRow H' c r → Row p n r → Q (.ref c) H'
abbrev nVec : List Str := ["_law_tape_here", "_law_prime", "_law_length_here", "_law_k"]
theorem sc_vec : FnScope nVec ["_law_tape_here", "_law_prime", "_law_length_here"] (defScope (top jVec)) := ⟨rfl, rfl, rfl, by decide +kernel, rfl, by decide +kernel, by decide +kernel⟩
theorem g_vec2 (T : TX K mg) : ∃ fd, FnP K "_law_vector" jVec (He.ga K "_law_vector") fd ∧ FnOk P w K mg base CX0 2 (He.ga K "_law_vector") fd ["_law_tape_here", "_law_prime", "_law_length_here"] spVec2 ∧ Binds K fd ["_law_tape_here", "_law_prime", "_law_length_here"] [] := by
  obtain ⟨fd, F⟩ := T.def "_law_vector" jVec
  obtain ⟨_, FT, GT, BT⟩ := g_pick (P := P) (w := w) (base := base) T
  refine ⟨fd, F, F.ok sc_vec (fun vs H Q E h => ?_) (fun cdv A outer s H vs Q E hr h => ?_), F.bindsN fun _ _ _ _ _ _ us hl => match us, hl with | [_, _, _], _ => rfl⟩
  · obtain ⟨b, p, n, rfl, _⟩ := h
    rfl
  · obtain ⟨b, p, n, rfl, hb, hp, hp2, hn, k⟩ := h
    have nd := sc_vec.nd
    have hr1 : Room 1 _ := hr
    refine ⟨_, PSs.nox (pss_one (ps_ret (pe_callTy call_tuple_of (by rfl) (T.fr "tuple") (by decide +kernel) (pa_cons (pe_lc (own := [("_law_k", 3)]) (g := gName 3) (by rfl) nd (pi_range1 (by rfl) (T.fr "range") (pa_cons (pv 2) pa_nil)) (blkOk_by (own := [("_law_k", 3)]) (N := nVec) (sc := defScope (top jVec)) (by decide +kernel)) (fun _ _ _ _ _ => pg_name (i := 3) nd rfl (Or.inl rfl)) (fun _ _ _ _ _ => pts_nil) (fun _ _ _ _ _ => pe_call GT hr1 (by rfl) (T.df "_law_pick" jPick) FT.kp BT .nil pass0 (pa_cons (pv 0) (pa_cons (pv 1) pa_nil)))) pa_nil)))), ?_⟩
    have eN : ((n : Nat) : Int).toNat = n := Int.toNat_natCast n
    refine ⟨_, rfl, n, rfl, by omega, by omega, fun D hD => ?_⟩
    have nD : D ≠ b := hb.ne hD
    refine lc_it (walk_range (lo := 0) (n := ((n : Nat) : Int).toNat)) (fun t H' => ∃ r : List Int, Kept b H H' ∧ TapeK H' b ∧ H' D = some (.lst (r.map V.int)) ∧ r.length = t ∧ ∀ x ∈ r, 0 ≤ x ∧ x < p) ⟨[], Kept.of (same_new hD), hb.same (same_new hD), upd_same, rfl, fun _ h => nomatch h⟩ (fun i H' _ z => trivial) ?_ ?_
    · rintro t v Hc Hd ht ⟨r, kc, hbc, hDc, hrl, hrx⟩ ⟨rfl, rfl⟩
      refine ⟨rfl, yes_if ?_⟩
      refine ⟨_, rfl, _, rfl, pick_use hbc (by omega) (by omega) fun d H3 d0 d1 k3 b3 _ => ?_⟩
      refine ⟨r.map V.int, k3 _ _ hDc nD, lt_line (by rw [List.length_map]; omega), r ++ [d], ?_, ?_, ?_, by rw [List.length_append, List.length_singleton, hrl], ?_⟩
      · exact (kc.trans k3).upd hD
      · exact b3.upd nD
      · rw [upd_same, List.map_append]; rfl
      · intro x hx
        rcases List.mem_append.mp hx with hx | hx
        · exact hrx x hx
        · rw [List.mem_singleton.mp hx]; exact ⟨d0, d1⟩
    · rintro Ha ⟨r, kc, hbc, hDc, hrl, hrx⟩
      rw [eN] at hrl
      refine ⟨D, _, rfl, .inl ⟨SqL.of hDc, fun c hc => ?_⟩⟩
      have cb : c ≠ b := hbc.ne hc
      have h0 : H c = none := by
        cases e : H c with
        | none => rfl
        | some o => rw [kc _ _ e cb] at hc; cases hc
      exact k _ c r (kc.trans (Kept.of (same_new hc))) (hbc.same (same_new hc)) h0 cb upd_same ⟨hrl, hrx⟩
/-! ### _law_moved -/
def spMoved : Sp := fun vs H Q _ => ∃ (p : Int) (a : Addr) (r : List Int) (i j : Nat) (g : Int) (n : Nat), vs = [.int p, .ref a, .int (i : Nat), .int (j : Nat), .int g] ∧ IsRow H a r ∧ Row p n r ∧ i < n ∧ j < n ∧ 0 < p ∧ p ≤ 1000 ∧ 0 ≤ g ∧ g < p ∧ n ≤ 100 ∧ ∀ H' c r', Same H H' → H c = none → IsRow H' c r' → Row p n r' → Q (.ref c) H'
abbrev nMoved : List Str := ["_law_prime", "_law_items", "_law_place", "_law_other", "_law_times", "_law_found"]
theorem sc_moved : FnScope nMoved ["_law_prime", "_law_items", "_law_place", "_law_other", "_law_times"] (defScope (top jMoved)) := ⟨rfl, rfl, rfl, by decide +kernel, rfl, by decide +kernel, by decide +kernel⟩
theorem g_moved (T : TX K mg) : ∃ fd, FnP K "_law_moved" jMoved (He.ga K "_law_moved") fd ∧ FnOk P w K mg base CX0 1 (He.ga K "_law_moved") fd ["_law_prime", "_law_items", "_law_place", "_law_other", "_law_times"] spMoved ∧ Binds K fd ["_law_prime", "_law_items", "_law_place", "_law_other", "_law_times"] [] := by
  obtain ⟨fd, F⟩ := T.def "_law_moved" jMoved
  refine ⟨fd, F, F.ok sc_moved (fun vs H Q E h => ?_) (fun cdv A outer s H vs Q E hr h => ?_), F.bindsN fun _ _ _ _ _ _ us hl => match us, hl with | [_, _, _, _, _], _ => rfl⟩
  · obtain ⟨p, a, r, i, j, g, n, rfl, _⟩ := h
    rfl
  · obtain ⟨p, a, r, i, j, g, n, rfl, ha, hrow, hi, hj, hp, hp2, g0, g1, hn, k⟩ := h
    have nd := sc_moved.nd
    have rl := hrow.1
    refine ⟨_, PSs.nox (pss_cons (ps_set (i := 5) nd rfl (.inl rfl) (pe_callTy call_list_of (by rfl) (T.fr "list") (by decide +kernel) (pa_cons (pv 1) pa_nil))) (pss_cons (ps_asg (pe_op op_mod (pe_callTy call_int1 (by rfl) (T.fr "int") boot_int (pa_cons (pe_op op_add (pe_ix ix_list (pv 5) (pv 2) (fun _ _ => rfl)) (pe_op op_mul (pv 4) (pe_ix ix_tup (pv 1) (pv 3) (fun _ _ => rfl)))) pa_nil)) (pv 0)) (pg_sub (pv 5) (pv 2) set_list)) (pss_one (ps_ret (pe_callTy call_tuple_of (by rfl) (T.fr "tuple") (by decide +kernel) (pa_cons (pv 5) pa_nil)))))), ?_⟩
    refine ⟨_, rfl, a, _, rfl, .inr (SqT.of ha), fun D hD => ?_⟩
    have sD := same_new (o := .lst (r.map V.int)) hD
    have hDD : upd H D (.lst (r.map V.int)) D = some (.lst (r.map V.int)) := upd_same
    have aN : ∀ {k : Nat}, k < n → atI (r.map V.int) ((k : Nat) : Int) = some (.int (at0 r k)) := fun {k} hk => atI_row (by omega)
    refine ⟨_, rfl, _, rfl, D, _, _, _, rfl, rfl, SqL.of hDD, aN hi, _, rfl, _, rfl, _, rfl, a, _, _, _, rfl, rfl, SqT.of (sD _ _ ha), aN hj, _, _, rfl, rfl, .inl ⟨by omega, by omega⟩, _, _, rfl, rfl, .inl ⟨_, rfl, _, rfl, _, _, rfl, rfl, by omega, ?_⟩⟩
    refine ⟨_, rfl, _, rfl, D, _, _, i, rfl, rfl, hDD, ?_, ?_⟩
    · unfold ixN
      rw [List.length_map, if_pos (by omega), if_pos (by omega), Int.toNat_natCast]
    have em : (r.map V.int).set i (.int ((at0 r i + g * at0 r j) % p)) = (r.set i ((at0 r i + g * at0 r j) % p)).map V.int := by rw [List.map_set]
    have eu : upd (upd H D (.lst (r.map V.int))) D (.lst ((r.map V.int).set i (.int ((at0 r i + g * at0 r j) % p)))) = upd H D (.lst ((r.set i ((at0 r i + g * at0 r j) % p)).map V.int)) := by rw [upd_upd, em]
    rw [eu]
    refine ⟨_, rfl, D, _, rfl, .inl ⟨SqL.of upd_same, fun c hc => k _ c (r.set i ((at0 r i + g * at0 r j) % p)) (same_two hD hc) (none_of hc) upd_same ⟨by rw [List.length_set]; exact rl, fun x hx => ?_⟩⟩⟩
    rcases List.mem_or_eq_of_mem_set hx with hx | rfl
    · exact hrow.2 x hx
    · exact ⟨Int.emod_nonneg _ (by omega), Int.emod_lt_of_pos _ hp⟩
end
end KV

set_option Elab.async false
set_option linter.all false
set_option maxRecDepth 100000
set_option maxHeartbeats 4000000
/-! # dicts of vectors -/
namespace KV
open PySem PySem.Spec PyProof.Rows L2 VX RX
section
variable {P : Program} {w : World} {K : PySem.W.Frag} {mg : Str → Option Value} {base : Heap} {f : Addr} {fd : FuncData}
open RX
theorem kvs_get {l : List (List Int)} {i : Nat} {k : List L2.Key} {v : V} (h : (kvsOf l)[i]? = some (k, v)) : ∃ r, l[i]? = some r ∧ k = r.map Sum.inl := by
  unfold kvsOf at h
  rw [List.getElem?_map] at h
  cases e : l[i]? with
  | none => rw [e] at h; cases h
  | some r =>
    rw [e] at h
    cases h
    exact ⟨r, rfl, rfl⟩
theorem kvs_inj {l l' : List (List Int)} (h : kvsOf l = kvsOf l') : l = l' := (List.map_inj_right fun x y e => inl_inj (Prod.mk.inj e).1).mp h
theorem key_row {H : Hp} {q : Addr} {r : List Int} (h : H q = some (.tup ((r.map (Sum.inl : Int → L2.Key)).map kV))) : IsRow H q r := by
  have e2 : (r.map (Sum.inl : Int → L2.Key)).map kV = r.map V.int := by rw [List.map_map]; rfl
  rw [e2] at h
  exact h
theorem grow_out {H1 G0 G H' : Hp} {d e : Addr} {u : HO} {od : Obj} (he : H1 e = none) (s0 : Same H1 G0) (hd : G0 d = some u) (eG : G = upd G0 d (.frz od u)) (k : Kept e G H') : Same H1 (upd H' d u) := fun c o z => by
  have ce : c ≠ e := fun q => by rw [q, he] at z; cases z
  by_cases h : c = d
  · subst h
    have := s0 _ _ z
    rw [hd] at this
    cases this
    exact upd_same
  · rw [upd_ne h]
    exact k c o (by rw [eG, upd_ne h]; exact s0 _ _ z) ce
theorem grown_told {p : Int} {n : Nat} {inv : Int → Int} {R L : List (List Int)} {v : List Int} (I : Inv p inv) (hR : ∀ r ∈ R, Row p n r) (hv : Row p n v) (T : Told p n (reduced inv p R) L) : Told p n (reduced inv p (R ++ [v])) (grown p L v) := by
  have h0 := I.pos
  have hR' : ∀ r ∈ R ++ [v], Row p n r := fun r m => (List.mem_append.mp m).elim (hR r) fun m => by rw [List.mem_singleton.mp m]; exact hv
  refine ⟨insAll_nodup _ _ List.nodup_nil, fun u => ?_⟩
  rw [reduced_span I hR', snoc_iff h0 (fun r m => (hR r m).1) hv.1]
  unfold grown
  rw [mem_insAll, mem_growKeys]
  refine ⟨fun k => k.elim (fun k => nomatch k) fun ⟨w, hw, k⟩ => ⟨w, (reduced_span I hR w).mp ((T.mem w).mp hw), k⟩, fun ⟨w, hw, k⟩ => .inr ⟨w, (T.mem w).mpr ((reduced_span I hR w).mpr hw), k⟩⟩
theorem told_nil {p : Int} {n : Nat} {inv : Int → Int} (h0 : 0 < p) : Told p n (reduced inv p []) [List.replicate n 0] := by
  refine ⟨List.pairwise_singleton _ _, fun v => ?_⟩
  rw [List.mem_singleton]
  refine ⟨fun e => e ▸ .zero, fun i => ?_⟩
  have := (combos_iff (p := p) (n := n) (b := []) h0 (fun _ h => nomatch h) v).mpr i
  exact List.mem_singleton.mp this
/-! ### _law_span -/
def spSpan2 : Sp := fun vs H Q _ => ∃ (p : Int) (n : Nat) (l : Addr) (ls : List Addr) (rs : List (List Int)), vs = [.int p, .int (n : Nat), .ref l] ∧ H l = some (.lst (ls.map V.ref)) ∧ AreRows H ls rs ∧ (∀ r ∈ rs, Row p n r) ∧ isP p = true ∧ n ≤ 12 ∧ p ^ n ≤ 1000000 ∧
  ∀ H' e l, Same H H' → H e = none → H' e = some (.dT (kvsOf l)) → Told p n (Bs p rs) l → Q (.ref e) H'
abbrev nSpan : List Str := ["_law_prime", "_law_length_here", "_law_rows_here", "_law_found", "_law_row", "_law_more", "_law_old", "_law_times", "_law_k"]
theorem sc_span : FnScope nSpan ["_law_prime", "_law_length_here", "_law_rows_here"] (defScope (top jSpan)) := ⟨rfl, rfl, rfl, by decide +kernel, rfl, by decide +kernel, by decide +kernel⟩
theorem g_span2 (T : TX K mg) : ∃ fd, FnP K "_law_span" jSpan (He.ga K "_law_span") fd ∧ FnOk P w K mg base CX0 2 (He.ga K "_law_span") fd ["_law_prime", "_law_length_here", "_law_rows_here"] spSpan2 ∧ Binds K fd ["_law_prime", "_law_length_here", "_law_rows_here"] [] := by
  obtain ⟨fd, F⟩ := T.def "_law_span" jSpan
  obtain ⟨_, FA, GA, BA⟩ := g_add2 (P := P) (w := w) (base := base) T
  refine ⟨fd, F, F.ok sc_span (fun vs H Q E h => ?_) (fun cdv A outer s H vs Q E hr h => ?_), F.bindsN fun _ _ _ _ _ _ us hl => match us, hl with | [_, _, _], _ => rfl⟩
  · obtain ⟨p, n, l, ls, rs, rfl, _⟩ := h
    rfl
  · obtain ⟨p, n, l, ls, rs, rfl, hl, hls, hrs, hp, hn, hpn, k⟩ := h
    have nd := sc_span.nd
    have hu := hu_of hr
    have h13 := isP_pos hp
    have II := invF_ok hp
    have h0 : 0 < p := II.pos
    have ll := hls.length
    refine ⟨_, PSs.nox (pss_cons (ps_set (i := 3) nd rfl (.inl rfl) (pe_dispT hr.units0 (pe_callTy call_tuple_of (by rfl) (T.fr "tuple") (by decide +kernel) (pa_cons (pe_lc (own := [("_law_k", 8)]) (g := gName 8) (by rfl) nd (pi_range1 (by rfl) (T.fr "range") (pa_cons (pv 1) pa_nil)) (blkOk_by (own := [("_law_k", 8)]) (N := nSpan) (sc := defScope (top jSpan)) (by decide +kernel)) (fun _ _ _ _ _ => pg_name (i := 8) nd rfl (Or.inl rfl)) (fun _ _ _ _ _ => pts_nil) (fun _ _ _ _ _ => pe_int)) pa_nil)) pe_bl)) (pss_cons (ps_for PassesOwn.never rfl (pi_list (pv 2)) (pg_name (i := 4) nd rfl (.inl rfl)) (pss_cons (ps_set (i := 5) nd rfl (.inl rfl) pe_dnewT) (pss_cons (ps_lock (ps_for PassesOwn.never rfl (pi_keys (pv 3)) (pg_name (i := 6) nd rfl (.inl rfl)) (pss_one (ps_for PassesOwn.never rfl (pi_range1 (by rfl) (T.fr "range") (pa_cons (pv 0) pa_nil)) (pg_name (i := 7) nd rfl (.inl rfl)) (pss_one (ps_dput hu (pv 5) (pe_call GA hr (by rfl) (T.df "_law_added" jAdd) FA.kp BA .nil pass0 (pa_cons (pv 0) (pa_cons (pv 6) (pa_cons (pv 4) (pa_cons (pv 7) pa_nil))))) pe_bl rfl)))))) (pss_one (ps_set (i := 3) nd rfl (.inl rfl) (pv 5)))))) (pss_one (ps_ret (pv 3))))), ?_⟩
    intro zz hzz
    have key0 : ((List.replicate n (0 : Int)).map (Sum.inl : Int → L2.Key)).map kV = (List.replicate n 0).map V.int := by rw [List.map_map]; rfl
    have eN : ((n : Nat) : Int).toNat = n := Int.toNat_natCast n
    refine ⟨_, rfl, _, rfl, by omega, by omega, fun D hD => ?_⟩
    refine lc_it (walk_range (lo := 0) (n := ((n : Nat) : Int).toNat)) (fun i H' => H' = upd (upd H zz (.dT [])) D (.lst ((List.replicate i (0 : Int)).map V.int))) rfl (fun i H' _ z => trivial) ?_ ?_
    · rintro i x Ha Hb hi rfl ⟨rfl, rfl⟩
      rw [eN] at hi
      refine ⟨rfl, yes_if ⟨_, upd_same, lt_line (by rw [List.length_map, List.length_replicate]; omega), ?_⟩⟩
      rw [upd_upd, List.replicate_succ', List.map_append]
      rfl
    rintro H1 rfl
    rw [eN]
    refine ⟨D, _, rfl, .inl ⟨SqL.of upd_same, fun t ht => ?_⟩⟩
    have w1 := same_new (o := .dT []) hzz
    have w3 := w1.trans (same_new (o := .lst ((List.replicate n (0 : Int)).map V.int)) hD)
    have w4 := w3.trans (same_new (o := .tup ((List.replicate n (0 : Int)).map V.int)) ht)
    have z1 : upd H zz (.dT []) zz = some (.dT []) := upd_same
    have z4 := ((same_new (o := .lst ((List.replicate n (0 : Int)).map V.int)) hD).trans (same_new (o := .tup ((List.replicate n (0 : Int)).map V.int)) ht)) _ _ z1
    have t4 : upd (upd (upd H zz (.dT [])) D (.lst ((List.replicate n (0 : Int)).map V.int))) t (.tup ((List.replicate n (0 : Int)).map V.int)) t = some (.tup ((List.replicate n (0 : Int)).map V.int)) := upd_same
    generalize upd (upd (upd H zz (.dT [])) D (.lst ((List.replicate n (0 : Int)).map V.int))) t (.tup ((List.replicate n (0 : Int)).map V.int)) = H4 at w4 z4 t4 ⊢
    refine ⟨z4, t, (List.replicate n (0 : Int)).map Sum.inl, rfl, by rw [key0]; exact t4, ?_⟩
    have w5 : Same H (upd H4 zz (.dT [((List.replicate n (0 : Int)).map Sum.inl, V.bl true)])) := Same.grow w4 hzz
    have z5 : upd H4 zz (.dT [((List.replicate n (0 : Int)).map Sum.inl, V.bl true)]) zz = some (.dT (kvsOf [List.replicate n 0])) := upd_same
    generalize upd H4 zz (.dT [((List.replicate n (0 : Int)).map Sum.inl, V.bl true)]) = H5 at w5 z5 ⊢
    have ml : rs.map (modR p) = rs := by rw [List.map_congr_left fun r mr => modR_id (hrs r mr) h0, List.map_id']
    refine ⟨_, rfl, l, rfl, ⟨_, SqL.of (w5 _ _ hl)⟩, for_list (xs := ls.map V.ref) (fun i σ H' => ∃ (d : Addr) (L : List (List Int)) (z4 z5 z6 z7 : Option V), σ = [some (.int p), some (.int (n : Nat)), some (.ref l), some (.ref d), z4, z5, z6, z7, none] ∧ Same H H' ∧ H d = none ∧ H' d = some (.dT (kvsOf L)) ∧ Told p n (reduced (invF p) p (rs.take i)) L) ⟨zz, _, none, none, none, none, rfl, w5, hzz, z5, told_nil h0⟩ (fun i σ H' _ z => let ⟨_, _, _, _, _, _, _, s, _⟩ := z; SqL.of (s _ _ hl)) ?_ ?_⟩
    · rintro i x σ H6 hx ⟨d, L, y4, y5, y6, y7, rfl, s6, hd0, hd6, hT⟩
      obtain ⟨a, ha, rfl⟩ := refs_at hx
      obtain ⟨v, hv, hav⟩ := hls.get ha
      have hvr := hrs v (List.mem_of_getElem? hv)
      have hRi : ∀ r ∈ rs.take i, Row p n r := fun r m => hrs r (List.mem_of_mem_take m)
      have RR := reduced_ok (inv := invF p) II hRi
      have hLr : ∀ r ∈ L, Row p n r := hT.rows II RR
      have hsz := told_len II RR hT hpn
      have ha6 := s6 _ _ hav
      refine fun e he => ?_
      have s0 := same_new (o := .dT []) he
      have e0 : upd H6 e (.dT []) e = some (.dT (kvsOf [])) := upd_same
      have d0 := s0 _ _ hd6
      have a0 := s0 _ _ ha6
      generalize upd H6 e (.dT []) = G0 at s0 e0 d0 a0 ⊢
      have ed : e ≠ d := fun z => by rw [z] at he; rw [hd6] at he; cases he
      have ad : a ≠ d := fun z => by
        have h1 := ha6
        unfold IsRow at h1
        rw [z, hd6] at h1
        cases h1
      refine ⟨d, _, d0, trivial, fun od => ?_⟩
      obtain ⟨G, eG⟩ : ∃ G, G = upd G0 d (.frz od (.dT (kvsOf L))) := ⟨_, rfl⟩
      have dG : G d = some (.frz od (.dT (kvsOf L))) := by rw [eG]; exact upd_same
      have eE : G e = some (.dT (kvsOf [])) := by rw [eG, upd_ne ed]; exact e0
      have aG : IsRow G a v := by
        show G a = _
        rw [eG, upd_ne ad]
        exact a0
      rw [← eG]
      refine ⟨_, rfl, d, od, rfl, .inr ⟨_, dG, for_it walk_keysT (fun i σ H' => ∃ z6 z7 : Option V, σ = [some (.int p), some (.int (n : Nat)), some (.ref l), some (.ref d), some (.ref a), some (.ref e), z6, z7, none] ∧ Kept e G H' ∧ H' e = some (.dT (kvsOf ((growKeys p ((L).take i) v).foldl ins [])))) ⟨y6, y7, rfl, Kept.refl, eE⟩ (fun i σ H' _ z => let ⟨_, _, _, kp, _⟩ := z; kp _ _ dG (Ne.symm ed)) ?_ ?_⟩⟩
      · rintro i x σ Ha Hb hi ⟨z6, z7, rfl, kp, hE⟩ ⟨rfl, k', v', q, hkv, rfl, hq⟩
        obtain ⟨r, hr', rfl⟩ := kvs_get hkv
        have hq : IsRow Hb q r := key_row hq
        have hi : i < (L).length := (List.getElem?_eq_some_iff.mp hr').1
        have hrow := hLr r (List.mem_of_getElem? hr')
        have qe : q ≠ e := fun z => by
          unfold IsRow at hq
          rw [z, hE] at hq
          cases hq
        have ae : a ≠ e := fun z => by
          unfold IsRow at aG
          rw [z, eE] at aG
          cases aG
        have hlen0 : ((growKeys p ((L).take i) v).foldl ins []).length ≤ 13 * 1000000 := by
          have h1 := insAll_len (growKeys p ((L).take i) v) []
          rw [growKeys_len, List.length_take] at h1
          have h2 : min i (L).length ≤ 1000000 := by omega
          have h3 := Nat.mul_le_mul h2 (show p.toNat ≤ 13 by omega)
          simp only [List.length_nil] at h1
          omega
        generalize hbase : (growKeys p ((L).take i) v).foldl ins [] = B at hE hlen0
        refine ⟨_, rfl, p, rfl, by omega, by omega, for_range (lo := 0) (n := p.toNat) (fun j σ H' => ∃ z7 : Option V, σ = [some (.int p), some (.int (n : Nat)), some (.ref l), some (.ref d), some (.ref a), some (.ref e), some (.ref q), z7, none] ∧ Kept e G H' ∧ IsRow H' q r ∧ H' e = some (.dT (kvsOf (((List.range j).map fun f : Nat => addR p r (f : Int) v).foldl ins B)))) ⟨z7, rfl, kp, hq, hE⟩ ?_ ?_⟩
        · rintro j σ H2 hj ⟨z7, rfl, kp2, hq2, hE2⟩
          have zj : (0 : Int) + (j : Int) = (j : Nat) := by omega
          have hlB : (((List.range j).map fun f : Nat => addR p r (f : Int) v).foldl ins B).length < sizeLine := by
            have h1 := insAll_len ((List.range j).map fun f : Nat => addR p r (f : Int) v) B
            rw [List.length_map, List.length_range] at h1
            exact Nat.lt_of_le_of_lt (Nat.le_trans h1 (show B.length + j ≤ 13000013 by omega)) (by decide)
          refine ⟨_, rfl, _, rfl, _, rfl, _, rfl, _, rfl, p, q, r, 0 + (j : Int), a, v, rfl, .inr hq2, .inr (kp2 _ _ aG ae), by rw [hrow.1, hvr.1], h0, by omega, by rw [hrow.1]; omega, fun H3 c s3 hc hc2 => ?_⟩
          rw [zj] at hc2
          have ce : c ≠ e := fun z => by rw [z] at hc; rw [hE2] at hc; cases hc
          refine ⟨e, _, rfl, DPut.t (s3 _ _ hE2) (key_eq hc2) (by rw [kvs_len]; exact hlB), _, rfl, fun u o z nu => ?_, ?_, ?_⟩
          · rw [upd_ne nu]
            exact s3 _ _ (kp2 _ _ z nu)
          · show upd _ _ _ q = _
            rw [upd_ne qe]
            exact s3 _ _ hq2
          · rw [upd_same, putK_kvs, List.range_succ, List.map_append, List.foldl_append]
            rfl
        · rintro σ H2 ⟨z7, rfl, kp2, hq2, hE2⟩
          refine ⟨_, _, rfl, kp2, ?_⟩
          rw [hE2, ← hbase, ← List.foldl_append, growKeys_more hr']
      rintro σ G1 ⟨z6, z7, rfl, kp, hE⟩
      refine ⟨kp _ _ dG (Ne.symm ed), ?_⟩
      have sG : Same H6 (upd G1 d (.dT (kvsOf L))) := grow_out he s0 d0 eG kp
      have eE2 : upd G1 d (.dT (kvsOf L)) e = some (.dT (kvsOf (grown p L v))) := by
        rw [upd_ne ed, hE, kvs_len, List.take_length]
        rfl
      generalize upd G1 d (.dT (kvsOf L)) = G2 at sG eE2 ⊢
      exact ⟨_, rfl, e, grown p L v, _, _, _, _, rfl, s6.trans sG, none_back s6 he, eE2, by
        rw [show rs.take (i + 1) = rs.take i ++ [v] by rw [List.take_succ, hv]; rfl]
        exact grown_told II hRi hvr hT⟩

    · rintro σ H6 ⟨d, L, y4, y5, y6, y7, rfl, s6, hd0, hd6, hT⟩
      refine ⟨_, rfl, k H6 d L s6 hd0 hd6 ?_⟩
      unfold Bs
      rw [ml]
      rw [List.length_map, ll, List.take_length] at hT
      exact hT
/-! ### _law_sum -/
def spSum2 : Sp := fun vs H Q _ => ∃ (p : Int) (n : Nat) (d1 d2 : Addr) (b c h t : List (List Int)), vs = [.int p, .ref d1, .ref d2] ∧ H d1 = some (.dT (kvsOf h)) ∧ H d2 = some (.dT (kvsOf t)) ∧ isP p = true ∧ n ≤ 12 ∧ p ^ n ≤ 1000000 ∧ Rref p n b ∧ Rref p n c ∧ Told p n b h ∧ Told p n c t ∧
  ∀ H' e l, Same H H' → H' e = some (.dT (kvsOf l)) → Told p n (sumL (invF p) p b c) l → Q (.ref e) H'
abbrev nSum2 : List Str := ["_law_prime", "_law_one", "_law_other", "_law_found", "_law_vector_here", "_law_more", "_law_old", "_law_times"]
theorem sc_sum2 : FnScope nSum2 ["_law_prime", "_law_one", "_law_other"] (defScope (top jSum)) := ⟨rfl, rfl, rfl, by decide +kernel, rfl, by decide +kernel, by decide +kernel⟩
theorem g_sum2 (T : TX K mg) : ∃ fd, FnP K "_law_sum" jSum (He.ga K "_law_sum") fd ∧ FnOk P w K mg base CX0 2 (He.ga K "_law_sum") fd ["_law_prime", "_law_one", "_law_other"] spSum2 ∧ Binds K fd ["_law_prime", "_law_one", "_law_other"] [] := by
  obtain ⟨fd, F⟩ := T.def "_law_sum" jSum
  obtain ⟨_, FA, GA, BA⟩ := g_add2 (P := P) (w := w) (base := base) T
  refine ⟨fd, F, F.ok sc_sum2 (fun vs H Q E h => ?_) (fun cdv A outer s H vs Q E hr h => ?_), F.bindsN fun _ _ _ _ _ _ us hl => match us, hl with | [_, _, _], _ => rfl⟩
  · obtain ⟨p, n, d1, d2, b, c, h, t, rfl, _⟩ := h
    rfl
  · obtain ⟨p, n, d1, d2, b, c, h, t, rfl, hd1, hd2, hp, hn, hpn, Rb, Rc, Tb, Tc, k⟩ := h
    have nd := sc_sum2.nd
    have hu := hu_of hr
    have h13 := isP_pos hp
    have II := invF_ok hp
    have h0 : 0 < p := II.pos
    have htr := Tc.rows II Rc
    refine ⟨_, PSs.nox (pss_cons (ps_set (i := 3) nd rfl (.inl rfl) (pv 1)) (pss_cons (ps_lock (ps_for PassesOwn.never rfl (pi_keys (pv 2)) (pg_name (i := 4) nd rfl (.inl rfl)) (pss_one (ps_if (pt_cmp (pc_dnotin hu (pv 4) (pv 3)) rfl) (pss_cons (ps_set (i := 5) nd rfl (.inl rfl) pe_dnewT) (pss_cons (ps_lock (ps_for PassesOwn.never rfl (pi_keys (pv 3)) (pg_name (i := 6) nd rfl (.inl rfl)) (pss_one (ps_for PassesOwn.never rfl (pi_range1 (by rfl) (T.fr "range") (pa_cons (pv 0) pa_nil)) (pg_name (i := 7) nd rfl (.inl rfl)) (pss_one (ps_dput hu (pv 5) (pe_call GA hr (by rfl) (T.df "_law_added" jAdd) FA.kp BA .nil pass0 (pa_cons (pv 0) (pa_cons (pv 6) (pa_cons (pv 4) (pa_cons (pv 7) pa_nil))))) pe_bl rfl)))))) (pss_one (ps_set (i := 3) nd rfl (.inl rfl) (pv 5))))) pss_nil)))) (pss_one (ps_ret (pv 3))))), ?_⟩
    refine ⟨_, rfl, ?_⟩
    refine ⟨d2, _, hd2, trivial, fun od2 => ?_⟩
    obtain ⟨J, eJ⟩ : ∃ J, J = upd H d2 (.frz od2 (.dT (kvsOf t))) := ⟨_, rfl⟩
    have dJ : J d2 = some (.frz od2 (.dT (kvsOf t))) := by rw [eJ]; exact upd_same
    rw [← eJ]
    have i0 : (d1 = d2 ∧ h = t) ∨ (d1 ≠ d2 ∧ J d1 = some (.dT (kvsOf h))) := by
      by_cases q : d1 = d2
      · refine .inl ⟨q, ?_⟩
        rw [q, hd2] at hd1
        have := HO.dT.inj (Option.some.inj hd1)
        exact (kvs_inj this).symm
      · exact .inr ⟨q, by rw [eJ, upd_ne q]; exact hd1⟩
    refine ⟨_, rfl, d2, od2, rfl, .inr ⟨_, dJ, for_it walk_keysT (fun i σ H' => ∃ (d : Addr) (L : List (List Int)) (z4 z5 z6 z7 : Option V), σ = [some (.int p), some (.ref d1), some (.ref d2), some (.ref d), z4, z5, z6, z7] ∧ Same J H' ∧ ((d = d2 ∧ L = t) ∨ (d ≠ d2 ∧ H' d = some (.dT (kvsOf L)))) ∧ L = (t.take i).foldl (spanStep p) h) ⟨d1, h, none, none, none, none, rfl, Same.refl _, i0, rfl⟩ (fun i σ H' _ z => let ⟨_, _, _, _, _, _, _, s, _⟩ := z; s _ _ dJ) ?_ ?_⟩⟩
    · rintro i x σ Ha H6 hi ⟨d, L, y4, y5, y6, y7, rfl, s6, hdL, hL⟩ ⟨rfl, k', v', a, hkv, rfl, hq⟩
      obtain ⟨v, hv, rfl⟩ := kvs_get hkv
      have hav : IsRow H6 a v := key_row hq
      have hvr := htr v (List.mem_of_getElem? hv)
      have hTi : Told p n (reduced (invF p) p (b ++ t.take i)) L := by rw [hL]; exact told_fold II Rb Tb fun r m => htr r (List.mem_of_mem_take m)
      have RR : Rref p n (reduced (invF p) p (b ++ t.take i)) := reduced_ok II fun r m => (List.mem_append.mp m).elim (Rb.rows r) fun m => htr r (List.mem_of_mem_take m)
      have hLr : ∀ r ∈ L, Row p n r := hTi.rows II RR
      have hsz := told_len II RR hTi hpn
      have more : (t.take (i + 1)).foldl (spanStep p) h = spanStep p L v := by rw [fold_more hv, ← hL]
      have rd : Rd H6 d (.dT (kvsOf L)) := hdL.elim (fun ⟨e1, e2⟩ => .inr ⟨od2, by rw [e1, e2]; exact s6 _ _ dJ⟩) fun ⟨_, e⟩ => .inl e
      refine ⟨_, rfl, _, rfl, d, _, rfl, .inr ⟨_, _, _, rd, rfl, key_eq hav, rfl⟩, _, rfl, ?_⟩
      rw [valK_kvs]
      refine ite2 (fun q => ?_) (fun q => ?_)
      · have vn : v ∉ L := by simpa using q
        have hd6 : H6 d = some (.dT (kvsOf L)) := hdL.elim (fun ⟨_, e2⟩ => absurd (by rw [e2]; exact List.mem_of_getElem? hv) vn) fun ⟨_, e⟩ => e
        have nd2 : d ≠ d2 := fun z => by rw [z, s6 _ _ dJ] at hd6; cases hd6
        have ha6 : H6 a = some (.tup (v.map V.int)) := hav
        have hst : spanStep p L v = grown p L v := by
          unfold spanStep
          rw [modR_id hvr h0, if_neg vn]
        refine fun e he => ?_
        have s0 := same_new (o := .dT []) he
        have e0 : upd H6 e (.dT []) e = some (.dT (kvsOf [])) := upd_same
        have d0 := s0 _ _ hd6
        have a0 := s0 _ _ ha6
        generalize upd H6 e (.dT []) = G0 at s0 e0 d0 a0 ⊢
        have ed : e ≠ d := fun z => by rw [z] at he; rw [hd6] at he; cases he
        have ad : a ≠ d := fun z => by
          have h1 := ha6
          unfold IsRow at h1
          rw [z, hd6] at h1
          cases h1
        refine ⟨d, _, d0, trivial, fun od => ?_⟩
        obtain ⟨G, eG⟩ : ∃ G, G = upd G0 d (.frz od (.dT (kvsOf L))) := ⟨_, rfl⟩
        have dG : G d = some (.frz od (.dT (kvsOf L))) := by rw [eG]; exact upd_same
        have eE : G e = some (.dT (kvsOf [])) := by rw [eG, upd_ne ed]; exact e0
        have aG : IsRow G a v := by
          show G a = _
          rw [eG, upd_ne ad]
          exact a0
        rw [← eG]
        refine ⟨_, rfl, d, od, rfl, .inr ⟨_, dG, for_it walk_keysT (fun i σ H' => ∃ z6 z7 : Option V, σ = [some (.int p), some (.ref d1), some (.ref d2), some (.ref d), some (.ref a), some (.ref e), z6, z7] ∧ Kept e G H' ∧ H' e = some (.dT (kvsOf ((growKeys p ((L).take i) v).foldl ins [])))) ⟨y6, y7, rfl, Kept.refl, eE⟩ (fun i σ H' _ z => let ⟨_, _, _, kp, _⟩ := z; kp _ _ dG (Ne.symm ed)) ?_ ?_⟩⟩
        · rintro i x σ Ha Hb hi ⟨z6, z7, rfl, kp, hE⟩ ⟨rfl, k', v', q, hkv, rfl, hq⟩
          obtain ⟨r, hr', rfl⟩ := kvs_get hkv
          have hq : IsRow Hb q r := key_row hq
          have hi : i < (L).length := (List.getElem?_eq_some_iff.mp hr').1
          have hrow := hLr r (List.mem_of_getElem? hr')
          have qe : q ≠ e := fun z => by
            unfold IsRow at hq
            rw [z, hE] at hq
            cases hq
          have ae : a ≠ e := fun z => by
            unfold IsRow at aG
            rw [z, eE] at aG
            cases aG
          have hlen0 : ((growKeys p ((L).take i) v).foldl ins []).length ≤ 13 * 1000000 := by
            have h1 := insAll_len (growKeys p ((L).take i) v) []
            rw [growKeys_len, List.length_take] at h1
            have h2 : min i (L).length ≤ 1000000 := by omega
            have h3 := Nat.mul_le_mul h2 (show p.toNat ≤ 13 by omega)
            simp only [List.length_nil] at h1
            omega
          generalize hbase : (growKeys p ((L).take i) v).foldl ins [] = B at hE hlen0
          refine ⟨_, rfl, p, rfl, by omega, by omega, for_range (lo := 0) (n := p.toNat) (fun j σ H' => ∃ z7 : Option V, σ = [some (.int p), some (.ref d1), some (.ref d2), some (.ref d), some (.ref a), some (.ref e), some (.ref q), z7] ∧ Kept e G H' ∧ IsRow H' q r ∧ H' e = some (.dT (kvsOf (((List.range j).map fun f : Nat => addR p r (f : Int) v).foldl ins B)))) ⟨z7, rfl, kp, hq, hE⟩ ?_ ?_⟩
          · rintro j σ H2 hj ⟨z7, rfl, kp2, hq2, hE2⟩
            have zj : (0 : Int) + (j : Int) = (j : Nat) := by omega
            have hlB : (((List.range j).map fun f : Nat => addR p r (f : Int) v).foldl ins B).length < sizeLine := by
              have h1 := insAll_len ((List.range j).map fun f : Nat => addR p r (f : Int) v) B
              rw [List.length_map, List.length_range] at h1
              exact Nat.lt_of_le_of_lt (Nat.le_trans h1 (show B.length + j ≤ 13000013 by omega)) (by decide)
            refine ⟨_, rfl, _, rfl, _, rfl, _, rfl, _, rfl, p, q, r, 0 + (j : Int), a, v, rfl, .inr hq2, .inr (kp2 _ _ aG ae), by rw [hrow.1, hvr.1], h0, by omega, by rw [hrow.1]; omega, fun H3 c s3 hc hc2 => ?_⟩
            rw [zj] at hc2
            have ce : c ≠ e := fun z => by rw [z] at hc; rw [hE2] at hc; cases hc
            refine ⟨e, _, rfl, DPut.t (s3 _ _ hE2) (key_eq hc2) (by rw [kvs_len]; exact hlB), _, rfl, fun u o z nu => ?_, ?_, ?_⟩
            · rw [upd_ne nu]
              exact s3 _ _ (kp2 _ _ z nu)
            · show upd _ _ _ q = _
              rw [upd_ne qe]
              exact s3 _ _ hq2
            · rw [upd_same, putK_kvs, List.range_succ, List.map_append, List.foldl_append]
              rfl
          · rintro σ H2 ⟨z7, rfl, kp2, hq2, hE2⟩
            refine ⟨_, _, rfl, kp2, ?_⟩
            rw [hE2, ← hbase, ← List.foldl_append, growKeys_more hr']
        rintro σ G1 ⟨z6, z7, rfl, kp, hE⟩
        refine ⟨kp _ _ dG (Ne.symm ed), ?_⟩
        have sG : Same H6 (upd G1 d (.dT (kvsOf L))) := grow_out he s0 d0 eG kp
        have eE2 : upd G1 d (.dT (kvsOf L)) e = some (.dT (kvsOf (grown p L v))) := by
          rw [upd_ne ed, hE, kvs_len, List.take_length]
          rfl
        generalize upd G1 d (.dT (kvsOf L)) = G2 at sG eE2 ⊢
        exact ⟨_, rfl, e, grown p L v, _, _, _, _, rfl, s6.trans sG, .inr ⟨(fun z => by rw [z, s6 _ _ dJ] at he; cases he), eE2⟩, by rw [more, hst]⟩

      · have vi : v ∈ L := by simpa using q
        have hst : spanStep p L v = L := by
          unfold spanStep
          rw [modR_id hvr h0, if_pos vi]
        exact ⟨d, L, _, _, _, _, rfl, s6, hdL, by rw [more, hst]⟩
    · rintro σ H6 ⟨d, L, y4, y5, y6, y7, rfl, s6, hdL, hL⟩
      rw [kvs_len, List.take_length] at hL
      have dd : upd H6 d2 (.dT (kvsOf t)) d = some (.dT (kvsOf L)) := hdL.elim (fun ⟨e1, e2⟩ => by rw [e1, e2]; exact upd_same) fun ⟨e1, e⟩ => by rw [upd_ne e1]; exact e
      refine ⟨s6 _ _ dJ, _, rfl, k _ d L (unlock hd2 eJ s6) dd ?_⟩
      rw [hL]
      exact told_joined II Rb Rc Tb Tc
/-! ### _law_cut -/
def spCut2 : Sp := fun vs H Q _ => ∃ (d1 d2 : Addr) (h t : List (List Int)), vs = [.ref d1, .ref d2] ∧ H d1 = some (.dT (kvsOf h)) ∧ H d2 = some (.dT (kvsOf t)) ∧ h.Nodup ∧ h.length ≤ 1000000 ∧
  ∀ H' e, Same H H' → H e = none → H' e = some (.dT (kvsOf (bothL h t))) → Q (.ref e) H'
abbrev nCut : List Str := ["_law_one", "_law_other", "_law_found", "_law_vector_here"]
theorem sc_cut : FnScope nCut ["_law_one", "_law_other"] (defScope (top jCut)) := ⟨rfl, rfl, rfl, by decide +kernel, rfl, by decide +kernel, by decide +kernel⟩
theorem g_cut2 (T : TX K mg) : ∃ fd, FnP K "_law_cut" jCut (He.ga K "_law_cut") fd ∧ FnOk P w K mg base CX0 1 (He.ga K "_law_cut") fd ["_law_one", "_law_other"] spCut2 ∧ Binds K fd ["_law_one", "_law_other"] [] := by
  obtain ⟨fd, F⟩ := T.def "_law_cut" jCut
  refine ⟨fd, F, F.ok sc_cut (fun vs H Q E h => ?_) (fun cdv A outer s H vs Q E hr h => ?_), F.bindsN fun _ _ _ _ _ _ us hl => match us, hl with | [_, _], _ => rfl⟩
  · obtain ⟨d1, d2, h, t, rfl, _⟩ := h
    rfl
  · obtain ⟨d1, d2, hh, t, rfl, hd1, hd2, hnd, hsz, k⟩ := h
    have nd := sc_cut.nd
    have hu := hu_of hr
    refine ⟨_, PSs.nox (pss_cons (ps_set (i := 2) nd rfl (.inl rfl) pe_dnewT) (pss_cons (ps_lock (ps_for PassesOwn.never rfl (pi_keys (pv 0)) (pg_name (i := 3) nd rfl (.inl rfl)) (pss_one (ps_if (pt_cmp (pc_din hu (pv 3) (pv 1)) rfl) (pss_one (ps_dput hu (pv 2) (pv 3) pe_bl rfl)) pss_nil)))) (pss_one (ps_ret (pv 2))))), ?_⟩
    refine fun e he => ?_
    have s0 : Same H (upd H e (.dT [])) := same_new he
    have e0 : upd H e (.dT []) e = some (.dT []) := upd_same
    have d10 := s0 _ _ hd1
    have d20 := s0 _ _ hd2
    generalize upd H e (.dT []) = G0 at s0 e0 d10 d20 ⊢
    have ed : e ≠ d1 := fun z => by rw [z] at he; rw [hd1] at he; cases he
    have ed2 : e ≠ d2 := fun z => by rw [z] at he; rw [hd2] at he; cases he
    refine ⟨d1, _, d10, trivial, fun od => ?_⟩
    obtain ⟨G, eG⟩ : ∃ G, G = upd G0 d1 (.frz od (.dT (kvsOf hh))) := ⟨_, rfl⟩
    have dG : G d1 = some (.frz od (.dT (kvsOf hh))) := by rw [eG]; exact upd_same
    have eE : G e = some (.dT (kvsOf [])) := by rw [eG, upd_ne ed]; exact e0
    have r2 : ∃ o2 : Option Obj, G d2 = some (match o2 with | none => .dT (kvsOf t) | some o => .frz o (.dT (kvsOf t))) := by
      by_cases q : d2 = d1
      · refine ⟨some od, ?_⟩
        rw [q] at hd2
        rw [hd1] at hd2
        rw [q, dG, HO.dT.inj (Option.some.inj hd2)]
      · exact ⟨none, by rw [eG, upd_ne q]; exact d20⟩
    obtain ⟨o2, r2⟩ := r2
    rw [← eG]
    refine ⟨_, rfl, d1, od, rfl, .inr ⟨_, dG, for_it walk_keysT (fun i σ H' => ∃ z3 : Option V, σ = [some (.ref d1), some (.ref d2), some (.ref e), z3] ∧ Kept e G H' ∧ H' e = some (.dT (kvsOf (bothL (hh.take i) t)))) ⟨none, rfl, Kept.refl, eE⟩ (fun i σ H' _ z => let ⟨_, _, kp, _⟩ := z; kp _ _ dG (Ne.symm ed)) ?_ ?_⟩⟩
    · rintro i x σ Ha H1 hi ⟨z3, rfl, kp, hE⟩ ⟨rfl, k', v', b, hkv, rfl, hq⟩
      obtain ⟨r, hr', rfl⟩ := kvs_get hkv
      have hb1 : IsRow H1 b r := key_row hq
      have hd21 := kp _ _ r2 (Ne.symm ed2)
      have rd : Rd H1 d2 (.dT (kvsOf t)) := by
        cases o2 with
        | none => exact .inl hd21
        | some o => exact .inr ⟨o, hd21⟩
      have hi' : i < hh.length := (List.getElem?_eq_some_iff.mp hr').1
      have mo : bothL (hh.take (i + 1)) t = bothL (hh.take i) t ++ if r ∈ t then [r] else [] := by
        unfold bothL
        rw [filter_more hr']
        by_cases c : r ∈ t
        · rw [if_pos (decide_eq_true c), if_pos c]
        · rw [if_neg (by simpa using c), if_neg c]
      refine ⟨_, rfl, _, rfl, d2, _, rfl, .inr ⟨_, _, _, rd, rfl, key_eq hb1, rfl⟩, _, rfl, ?_⟩
      rw [valK_kvs]
      refine ite2 (fun c => ?_) (fun c => ?_)
      · have hin : r ∈ t := by simpa using c
        have hni : r ∉ bothL (hh.take i) t := fun m => nodup_at hnd hr' (List.mem_filter.mp m).1
        have hl1 : (bothL (hh.take i) t).length ≤ 1000000 := by
          have h1 : (bothL (hh.take i) t).length ≤ (hh.take i).length := List.length_filter_le _ _
          rw [List.length_take] at h1
          omega
        refine ⟨_, rfl, _, rfl, e, _, rfl, DPut.t hE (key_eq hb1) (by rw [kvs_len]; exact Nat.lt_of_le_of_lt hl1 (by decide)), _, rfl, fun u o z nu => ?_, ?_⟩
        · rw [upd_ne nu]
          exact kp _ _ z nu
        · rw [upd_same, putK_kvs, mo, if_pos hin]
          unfold ins
          rw [if_neg hni]
      · have hin : r ∉ t := by simpa using c
        exact ⟨_, rfl, kp, by rw [mo, if_neg hin, List.append_nil]; exact hE⟩
    · rintro σ H1 ⟨z3, rfl, kp, hE⟩
      rw [kvs_len, List.take_length] at hE
      exact ⟨kp _ _ dG (Ne.symm ed), _, rfl, k _ e (grow_out he s0 d10 eG kp) he (by rw [upd_ne ed]; exact hE)⟩
/-! ### _law_size -/
def spSize2 : Sp := fun vs H Q _ => ∃ (p : Int) (d : Addr) (l : List (List Int)) (m : Nat), vs = [.int p, .ref d] ∧ H d = some (.dT (kvsOf l)) ∧ 2 ≤ p ∧ p ≤ 1000 ∧ l.length = p.toNat ^ m ∧ Q (.int (m : Nat)) H
abbrev nSize : List Str := ["_law_prime", "_law_space", "_law_left", "_law_found"]
theorem sc_size : FnScope nSize ["_law_prime", "_law_space"] (defScope (top jSize)) := ⟨rfl, rfl, rfl, by decide +kernel, rfl, by decide +kernel, by decide +kernel⟩
theorem g_size2 (T : TX K mg) : ∃ fd, FnP K "_law_size" jSize (He.ga K "_law_size") fd ∧ FnOk P w K mg base CX0 1 (He.ga K "_law_size") fd ["_law_prime", "_law_space"] spSize2 ∧ Binds K fd ["_law_prime", "_law_space"] [] := by
  obtain ⟨fd, F⟩ := T.def "_law_size" jSize
  refine ⟨fd, F, F.ok sc_size (fun vs H Q E h => ?_) (fun cdv A outer s H vs Q E hr h => ?_), F.bindsN fun _ _ _ _ _ _ us hl => match us, hl with | [_, _], _ => rfl⟩
  · obtain ⟨p, d, l, m, rfl, _⟩ := h
    rfl
  · obtain ⟨p, d, l, m, rfl, hd, hp, hp2, hl, k⟩ := h
    have nd := sc_size.nd
    refine ⟨_, PSs.nox (pss_cons (ps_set (i := 2) nd rfl (.inl rfl) (pe_callB call_len_dT (by rfl) (T.fr "len") boot_len (pa_cons (pv 1) pa_nil))) (pss_cons (ps_set (i := 3) nd rfl (.inl rfl) pe_int) (pss_cons (ps_while PassesOwn.never (pt_cmpR op_gt (pv 2) pe_int (nomark _)) (pss_cons (ps_set (i := 2) nd rfl (.inl rfl) (pe_op op_fdiv (pv 2) (pv 0))) (pss_one (ps_set (i := 3) nd rfl (.inl rfl) (pe_op op_add (pv 3) pe_int))))) (pss_one (ps_ret (pv 3)))))), ?_⟩
    obtain ⟨q, hq⟩ : ∃ q : Nat, q = p.toNat := ⟨_, rfl⟩
    have hpq : p = (q : Int) := by omega
    have hq2 : 2 ≤ q := by omega
    rw [← hq] at hl
    refine ⟨_, rfl, d, _, rfl, hd, ?_⟩
    rw [kvs_len, hl]
    refine ⟨fun j σ H' => ∃ i : Nat, σ = [some (.int p), some (.ref d), some (.int ((q ^ j : Nat) : Int)), some (.int (i : Nat))] ∧ H' = H ∧ i + j = m, ⟨m, 0, rfl, rfl, by omega⟩, ?_⟩
    rintro j σ H' ⟨i, rfl, rfl, hij⟩
    refine ⟨_, rfl, _, _, rfl, rfl, _, rfl, ite2 (fun c => ?_) (fun c => ?_)⟩
    · have c' : (1 : Int) < ((q ^ j : Nat) : Int) := by simpa using c
      obtain ⟨j, rfl⟩ : ∃ j', j = j' + 1 := ⟨j - 1, by
        rcases Nat.eq_zero_or_pos j with e | e
        · rw [e, Nat.pow_zero] at c'; omega
        · omega⟩
      refine ⟨fun σ H'' => ∃ i' : Nat, σ = [some (.int p), some (.ref d), some (.int ((q ^ j : Nat) : Int)), some (.int (i' : Nat))] ∧ H'' = H' ∧ i' + j = m, fun σ G h => ⟨j, by omega, h⟩, ?_⟩
      refine ⟨_, rfl, _, rfl, _, _, rfl, rfl, ⟨by omega, by omega⟩, _, rfl, _, _, rfl, rfl, i + 1, ?_, rfl, by omega⟩
      have e : ((q ^ (j + 1) : Nat) : Int) / p = ((q ^ j : Nat) : Int) := by
        rw [hpq, Nat.pow_succ, Int.natCast_mul]
        exact Int.mul_ediv_cancel _ (by omega)
      show [_, _, some (V.int (((q ^ (j + 1) : Nat) : Int) / p)), some (V.int ((i : Int) + 1))] = _
      rw [e]
      rfl
    · have c' : ¬ (1 : Int) < ((q ^ j : Nat) : Int) := by simpa using c
      have j0 : j = 0 := by
        rcases Nat.eq_zero_or_pos j with e | e
        · exact e
        · have h1 : q ^ 1 ≤ q ^ j := Nat.pow_le_pow_right (by omega) e
          rw [Nat.pow_one] at h1
          omega
      obtain rfl : i = m := by omega
      exact ⟨_, rfl, k⟩
end
end KV

set_option Elab.async false
set_option linter.all false
set_option maxRecDepth 100000
set_option maxHeartbeats 4000000
/-! # shapes, words, values -/
namespace KV
open PySem PySem.Spec PyProof.Rows L2 VX RX
section
variable {P : Program} {w : World} {K : PySem.W.Frag} {mg : Str → Option Value} {base : Heap} {f : Addr} {fd : FuncData}
open RX KW
/-- a word as nested tuples -/
def IsSh (H : Hp) : V → Tr → Prop
  | v, .lf c => leafC c = true ∧ ∃ a, v = .ref a ∧ H a = some (.tup [.str (KX.one c)])
  | v, .nd c l r => jointC c = true ∧ ∃ a u z, v = .ref a ∧ H a = some (.tup [.str (KX.one c), u, z]) ∧ IsSh H u l ∧ IsSh H z r
theorem IsSh.wf {H : Hp} : ∀ {t : Tr} {v : V}, IsSh H v t → WF t = true
  | .lf c, _, h => h.1
  | .nd c l r, _, h => by
    obtain ⟨j, a, u, z, _, _, h2, h3⟩ := h
    simp only [WF, j, h2.wf, h3.wf, Bool.and_self]
theorem IsSh.same {H H' : Hp} (s : Same H H') : ∀ {t : Tr} {v : V}, IsSh H v t → IsSh H' v t
  | .lf c, _, h => by
    obtain ⟨j, a, e, h1⟩ := h
    exact ⟨j, a, e, s _ _ h1⟩
  | .nd c l r, _, h => by
    obtain ⟨j, a, u, z, e, h1, h2, h3⟩ := h
    exact ⟨j, a, u, z, e, s _ _ h1, h2.same s, h3.same s⟩
theorem tup_ne {H : Hp} {a b : Addr} {xs : List V} (h : H a = some (.tup xs)) (hb : ∃ ys, H b = some (.lst ys)) : a ≠ b := fun e => by
  obtain ⟨ys, hy⟩ := hb
  rw [e, hy] at h
  cases h
theorem IsSh.kept {H H' : Hp} {b : Addr} (k : Kept b H H') (hb : ∃ ys, H b = some (.lst ys)) : ∀ {t : Tr} {v : V}, IsSh H v t → IsSh H' v t
  | .lf c, _, h => by
    obtain ⟨j, a, e, h1⟩ := h
    exact ⟨j, a, e, k _ _ h1 (tup_ne h1 hb)⟩
  | .nd c l r, _, h => by
    obtain ⟨j, a, u, z, e, h1, h2, h3⟩ := h
    exact ⟨j, a, u, z, e, k _ _ h1 (tup_ne h1 hb), h2.kept k hb, h3.kept k hb⟩
theorem IsSh.ref {H : Hp} : ∀ {t : Tr} {v : V}, IsSh H v t → ∃ a, v = .ref a
  | .lf _, _, h => let ⟨_, a, e, _⟩ := h; ⟨a, e⟩
  | .nd _ _ _, _, h => let ⟨_, a, _, _, e, _⟩ := h; ⟨a, e⟩
/-! ### _law_shape -/
def spShape (n : Nat) : Sp := fun vs H Q _ => ∃ (b : Addr) (m : Nat), vs = [.ref b, .int (m : Nat)] ∧ TapeK H b ∧ 1 ≤ m ∧ m ≤ n + 1 ∧ m ≤ 1000 ∧
  ∀ H' a t, Kept b H H' → TapeK H' b → IsSh H' (.ref a) t → dep t < m → Q (.ref a) H'
def spShapeL : Nat → Sp
  | 0 => fun _ _ _ _ => False
  | n + 1 => spShape n
abbrev nShape : List Str := ["_law_tape_here", "_law_most", "_law_first"]
theorem sc_shape : FnScope nShape ["_law_tape_here", "_law_most"] (defScope (top jShape)) := ⟨rfl, rfl, rfl, by decide +kernel, rfl, by decide +kernel, by decide +kernel⟩
theorem ok_shape1 (F : FnP K "_law_shape" jShape (He.ga K "_law_shape") fd) (T : TX K mg) (n : Nat) (GR : FnOk P w K mg base CX0 (1 + n) (He.ga K "_law_shape") fd ["_law_tape_here", "_law_most"] (spShapeL n)) :
    FnOk P w K mg base CX0 (2 + n) (He.ga K "_law_shape") fd ["_law_tape_here", "_law_most"] (spShape n) := by
  have BR : Binds K fd ["_law_tape_here", "_law_most"] [] := F.bindsN fun _ _ _ _ _ _ us hl => match us, hl with | [_, _], _ => rfl
  obtain ⟨_, FT, GT, BT⟩ := g_pick (P := P) (w := w) (base := base) T
  rw [show 2 + n = (1 + n) + 1 by omega]
  refine F.ok sc_shape (fun vs H Q E h => ?_) (fun cdv A outer s H vs Q E hr h => ?_)
  · obtain ⟨b, m, rfl, _⟩ := h
    rfl
  · obtain ⟨b, m, rfl, hb, hm1, hmn, hm2, q⟩ := h
    have nd := sc_shape.nd
    have hr1 : Room 1 _ := hr.mono (by omega)
    refine ⟨_, PSs.nox (pss_cons (ps_if (PW.pt (pw_or (pt_cmpR op_lt (pv 1) pe_int (nomark _)) (pw_or1 (pt_cmpR op_eq (pe_call GT hr1 (by rfl) (T.df "_law_pick" jPick) FT.kp BT .nil pass0 (pa_cons (pv 0) (pa_cons pe_int pa_nil))) pe_int (nomark _))))) (pss_one (ps_ret (pe_tup (pa_cons (pe_ix ix_list (pe_lst (pa_cons pe_str (pa_cons pe_str (pa_cons pe_str (pa_cons pe_str (pa_cons pe_str (pa_cons pe_str (pa_cons pe_str (pa_cons pe_str pa_nil))))))))) (pe_call GT hr1 (by rfl) (T.df "_law_pick" jPick) FT.kp BT .nil pass0 (pa_cons (pv 0) (pa_cons pe_int pa_nil))) (fun _ _ => rfl)) pa_nil)))) pss_nil) (pss_cons (ps_set (i := 2) nd rfl (.inl rfl) (pe_op op_add pe_int (pe_call GT hr1 (by rfl) (T.df "_law_pick" jPick) FT.kp BT .nil pass0 (pa_cons (pv 0) (pa_cons (pe_op op_sub (pv 1) pe_int) pa_nil))))) (pss_one (ps_ret (pe_tup (pa_cons (pe_ix ix_list (pe_lst (pa_cons pe_str (pa_cons pe_str pa_nil))) (pe_call GT hr1 (by rfl) (T.df "_law_pick" jPick) FT.kp BT .nil pass0 (pa_cons (pv 0) (pa_cons pe_int pa_nil))) (fun _ _ => rfl)) (pa_cons (pe_call GR hr (by rfl) (T.df "_law_shape" jShape) F.kp BR .nil pass0 (pa_cons (pv 0) (pa_cons (pv 2) pa_nil))) (pa_cons (pe_call GR hr (by rfl) (T.df "_law_shape" jShape) F.kp BR .nil pass0 (pa_cons (pv 0) (pa_cons (pe_op op_sub (pv 1) (pv 2)) pa_nil))) pa_nil)))))))), ?_⟩
    have leaf : ∀ H1, Kept b H H1 → TapeK H1 b → ∀ l0, H1 l0 = none → ∀ d H2, 0 ≤ d → d < 8 → Kept b (upd H1 l0 (.lst [.str "a", .str "b", .str "c", .str "a", .str "b", .str "c", .str "0", .str "1"])) H2 → TapeK H2 b → ∃ c, atI [V.str "a", .str "b", .str "c", .str "a", .str "b", .str "c", .str "0", .str "1"] d = some (.str (KX.one c)) ∧ SqL K H2 l0 [.str "a", .str "b", .str "c", .str "a", .str "b", .str "c", .str "0", .str "1"] ∧ ∀ p, H2 p = none → Q (.ref p) (upd H2 p (.tup [.str (KX.one c)])) := by
      intro H1 k1 b1 l0 hl0 d H2 d0 d8 k2 b2
      obtain ⟨v, hv, hm⟩ := atI_ex (xs := [V.str "a", .str "b", .str "c", .str "a", .str "b", .str "c", .str "0", .str "1"]) d0 d8
      have hv' : ∃ c, v = .str (KX.one c) ∧ leafC c = true := by
        simp only [List.mem_cons, List.not_mem_nil, or_false] at hm
        rcases hm with rfl | rfl | rfl | rfl | rfl | rfl | rfl | rfl
        · exact ⟨97, rfl, rfl⟩
        · exact ⟨98, rfl, rfl⟩
        · exact ⟨99, rfl, rfl⟩
        · exact ⟨97, rfl, rfl⟩
        · exact ⟨98, rfl, rfl⟩
        · exact ⟨99, rfl, rfl⟩
        · exact ⟨48, rfl, rfl⟩
        · exact ⟨49, rfl, rfl⟩
      obtain ⟨c, rfl, hc⟩ := hv'
      refine ⟨c, hv, SqL.of (k2 _ _ upd_same (b1.ne hl0)), fun p hp => ?_⟩
      have s1 := same_new (o := .tup [.str (KX.one c)]) hp
      exact q _ p (.lf c) (k1.trans ((Kept.of (same_new hl0)).trans (k2.trans (Kept.of s1)))) (b2.same s1) ⟨hc, p, rfl, upd_same⟩ (by show 0 < m; omega)
    refine ⟨_, rfl, _, _, rfl, rfl, _, rfl, ite2 (fun c => iteT ?_) (fun c => ?_)⟩
    · refine ⟨(by show 8 ≤ sizeLine; decide), fun l0 hl0 => ⟨_, rfl, ?_⟩⟩
      refine pick_use (m := 8) (hb.same (same_new hl0)) (by decide) (by decide) fun d H2 d0 d8 k2 b2 _ => ?_
      obtain ⟨c, h1, h2, h3⟩ := leaf H Kept.refl hb l0 hl0 d H2 d0 d8 k2 b2
      exact ⟨l0, _, d, _, rfl, rfl, h2, h1, (by show 1 ≤ sizeLine; decide), h3⟩
    · refine ⟨_, rfl, pick_use (m := 4) hb (by decide) (by decide) fun d1 H1 _ _ k1 b1 _ => ?_⟩
      refine ⟨rfl, _, rfl, ite2 (fun c2 => ?_) (fun c2 => ?_)⟩
      · refine ⟨(by show 8 ≤ sizeLine; decide), fun l0 hl0 => ⟨_, rfl, ?_⟩⟩
        refine pick_use (m := 8) (b1.same (same_new hl0)) (by decide) (by decide) fun d H2 d0 d8 k2 b2 _ => ?_
        obtain ⟨c, h1, h2, h3⟩ := leaf H1 k1 b1 l0 hl0 d H2 d0 d8 k2 b2
        exact ⟨l0, _, d, _, rfl, rfl, h2, h1, (by show 1 ≤ sizeLine; decide), h3⟩
      have m2 : 2 ≤ m := by
        have : ¬ (m : Int) < 2 := fun z => c (decide_eq_true z)
        omega
      obtain ⟨n, rfl⟩ : ∃ n', n = n' + 1 := ⟨n - 1, by omega⟩
      refine ⟨_, rfl, _, rfl, _, _, rfl, rfl, ?_⟩
      dsimp -proj only [tCons, tC, tNil, List.append_nil]
      refine pick_use (m := (m : Int) - 1) b1 (by omega) (by omega) fun d H2 d0 d1' k2 b2 _ => ?_
      obtain ⟨e, rfl⟩ : ∃ e : Nat, d = (e : Int) := ⟨d.toNat, by omega⟩
      refine ⟨_, _, rfl, rfl, ?_⟩
      refine ⟨(by show 2 ≤ sizeLine; decide), fun l0 hl0 => ⟨_, rfl, ?_⟩⟩
      dsimp -proj only [tCons, tC, tNil, List.append_nil]
      refine pick_use (m := 2) (b2.same (same_new hl0)) (by decide) (by decide) fun d H3 d0' d2 k3 b3 _ => ?_
      obtain ⟨v, hv, hm⟩ := atI_ex (xs := [V.str "+", V.str "&"]) d0' d2
      have hv' : ∃ c, v = .str (KX.one c) ∧ jointC c = true := by
        simp only [List.mem_cons, List.not_mem_nil, or_false] at hm
        rcases hm with rfl | rfl
        · exact ⟨43, rfl, rfl⟩
        · exact ⟨38, rfl, rfl⟩
      obtain ⟨c', rfl, hc⟩ := hv'
      refine ⟨l0, _, d, _, rfl, rfl, SqL.of (k3 _ _ upd_same (b2.ne hl0)), hv, ?_⟩
      have k13 : Kept b H H3 := k1.trans (k2.trans ((Kept.of (same_new hl0)).trans k3))
      refine ⟨_, rfl, _, rfl, b, e + 1, ?_, b3, by omega, by omega, by omega, fun H4 a1 t1 k4 b4 ht1 hd1 => ?_⟩
      · show [V.ref b, V.int (1 + (e : Int))] = _
        rw [show (1 + (e : Int)) = ((e + 1 : Nat) : Int) by omega]
      refine ⟨_, rfl, _, rfl, _, rfl, _, _, rfl, rfl, b, m - (e + 1), ?_, b4, by omega, by omega, by omega, fun H5 a2 t2 k5 b5 ht2 hd2 => ?_⟩
      · show [V.ref b, V.int ((m : Int) - (1 + (e : Int)))] = _
        rw [show ((m : Int) - (1 + (e : Int))) = ((m - (e + 1) : Nat) : Int) by omega]
      refine ⟨(by show 3 ≤ sizeLine; decide), fun p hp => ?_⟩
      have s1 := same_new (o := .tup [.str (KX.one c'), .ref a1, .ref a2]) hp
      refine q _ p (.nd c' t1 t2) (k13.trans (k4.trans (k5.trans (Kept.of s1)))) (b5.same s1) ⟨hc, p, .ref a1, .ref a2, rfl, upd_same, (ht1.kept k5 b4.at).same s1, ht2.same s1⟩ ?_
      simp only [dep]
      omega
theorem ok_shape (F : FnP K "_law_shape" jShape (He.ga K "_law_shape") fd) (T : TX K mg) : ∀ n, FnOk P w K mg base CX0 (2 + n) (He.ga K "_law_shape") fd ["_law_tape_here", "_law_most"] (spShape n) := by
  intro n
  induction n with
  | zero => exact ok_shape1 F T 0 ⟨fun _ _ _ _ h => h.elim, fun _ _ _ _ _ _ _ _ _ _ _ _ _ h => h.elim⟩
  | succ n ih => exact ok_shape1 F T (n + 1) (by rw [show 1 + (n + 1) = 2 + n by omega]; exact ih)
/-! ### _law_word -/
theorem tr_upd {H : Hp} {D : Addr} {xs ys : List V} : ∀ {t : Tr} {x : Addr}, KX.IsTr K H x t → H D = some (.lst xs) → KX.IsTr K (upd H D (.lst ys)) x t := fun h hD => tr_kept (b := D) (fun c o z n => by rw [upd_ne n]; exact z) ⟨_, hD⟩ h
def spWord2 (K : PySem.W.Frag) (n : Nat) : Sp := fun vs H Q _ => ∃ (v : V) (t : Tr), vs = [v] ∧ IsSh H v t ∧ dep t ≤ n ∧ ∀ H' x, Same H H' → KX.IsTr K H' x t → Q (.ref x) H'
def spWord2L (K : PySem.W.Frag) : Nat → Sp
  | 0 => fun _ _ _ _ => False
  | n + 1 => spWord2 K n
/-- the list of a word's parts under way -/
def PartsAt (K : PySem.W.Frag) (D : Addr) (l r : Tr) : Nat → Hp → Prop
  | 0, H => H D = some (.lst [])
  | 1, H => ∃ x, H D = some (.lst [.ref x]) ∧ KX.IsTr K H x l
  | _, H => ∃ x y, H D = some (.lst [.ref x, .ref y]) ∧ KX.IsTr K H x l ∧ KX.IsTr K H y r
abbrev nWord2 : List Str := ["_law_shape_here", "_law_part"]
theorem sc_word2 : FnScope nWord2 ["_law_shape_here"] (defScope (top jWord)) := ⟨rfl, rfl, rfl, by decide +kernel, rfl, by decide +kernel, by decide +kernel⟩
theorem ok_word2a (F : FnP K "_law_word" jWord (He.ga K "_law_word") fd) (T : TX K mg) (n : Nat) (GR : FnOk P w K mg base CX0 (3 + n) (He.ga K "_law_word") fd ["_law_shape_here"] (spWord2L K n)) :
    FnOk P w K mg base CX0 (4 + n) (He.ga K "_law_word") fd ["_law_shape_here"] (spWord2 K n) := by
  have BR : Binds K fd ["_law_shape_here"] [] := F.bindsN fun _ _ _ _ _ _ us hl => match us, hl with | [_], _ => rfl
  have TW := wtxt T
  obtain ⟨fdI, dv, fd1, Z⟩ := g_wif T
  have GI : FnOk P w K mg base CX0 2 _ fdI ["self", "sign", "parts"] (KX.spWI K) := KX.ok_wi Z.fi TW Z.ft
  have BI := Z.b1
  rw [show 4 + n = (3 + n) + 1 by omega]
  refine F.ok sc_word2 (fun vs H Q E h => ?_) (fun cdv A outer s H vs Q E hr h => ?_)
  · obtain ⟨v, t, rfl, _⟩ := h
    rfl
  · obtain ⟨v, t, rfl, ht, hd, q⟩ := h
    have nd := sc_word2.nd
    have hr3 : Room (2 + 1) _ := hr.mono (by omega)
    refine ⟨_, PSs.nox (pss_one (ps_ret (pe_make TW.mks GI hr3 (by rfl) TW.word BI .nil pass0 (pa_cons (pe_ix ix_tup (pv 0) pe_int (fun _ _ => rfl)) (pa_cons (pe_lc (own := [("_law_part", 1)]) (g := gName 1) (by rfl) nd (pi_tup (pe_slice sl_tup (pv 0) (po_some pe_int) po_none)) (blkOk_by (own := [("_law_part", 1)]) (N := nWord2) (sc := defScope (top jWord)) (by decide +kernel)) (fun _ _ _ _ _ => pg_name (i := 1) nd rfl (Or.inl rfl)) (fun _ _ _ _ _ => pts_nil) (fun _ _ _ _ _ => pe_call GR hr (by rfl) (T.df "_law_word" jWord) F.kp BR .nil pass0 (pa_cons (pv 1) pa_nil))) pa_nil))))), ?_⟩
    cases t with
    | lf c =>
      obtain ⟨hc, a, rfl, ha⟩ := ht
      refine ⟨_, rfl, a, _, 0, _, rfl, rfl, SqT.of ha, rfl, ?_⟩
      refine ⟨_, rfl, _, rfl, a, _, rfl, SqT.of ha, (fun h => absurd (show HT.sIx 1 0 (some 1) = 0 from h.1) (by decide)), fun e he => ?_⟩
      refine ⟨e, rfl, ⟨_, SqT.of upd_same⟩, fun D hD => lc_it (walk_tup (K := K) (a := e) (xs := [])) (fun i H' => H' = upd (upd H e (.tup [])) D (.lst [])) rfl (fun i H' _ z => by
        have ne : e ≠ D := fun q => by rw [← q, upd_same] at hD; cases hD
        rw [z]
        exact SqT.of (by rw [upd_ne ne]; exact upd_same)) (fun i x Ha Hb hi => absurd hi (Nat.not_lt_zero _)) ?_⟩
      rintro Ha rfl
      intro x dx hx hdx ne
      have s0 : Same H (upd (upd H e (.tup [])) D (.lst [])) := same_two he hD
      have s1 : Same (upd (upd H e (.tup [])) D (.lst [])) (upd (upd (upd (upd H e (.tup [])) D (.lst [])) dx (.own x)) x (.ins (KX.wC K) dx [])) := same_two hdx (by rw [upd_ne (Ne.symm ne)]; exact hx)
      refine ⟨x, c, D, [], dx, rfl, upd_same, .inl (SqL.of (s1 _ _ upd_same)), (by show KX.fitB c 0 = true; simp [KX.fitB, hc]), (by show 0 ≤ 1000; decide), fun H' kept isw => ⟨rfl, ?_⟩⟩
      exact q H' x (fun b o z => kept b o (s1 _ _ (s0 _ _ z)) (ne_of_none (s0 _ _ z) hx)) ⟨hc, isw⟩
    | nd c l r =>
      obtain ⟨hc, a, u, z, rfl, ha, hl, hr'⟩ := ht
      simp only [dep] at hd
      obtain ⟨m, rfl⟩ : ∃ m, n = m + 1 := ⟨n - 1, by omega⟩
      refine ⟨_, rfl, a, _, 0, _, rfl, rfl, SqT.of ha, rfl, ?_⟩
      refine ⟨_, rfl, _, rfl, a, _, rfl, SqT.of ha, (fun h => absurd (show HT.sIx 3 0 (some 1) = 0 from h.1) (by decide)), fun e he => ?_⟩
      have se := same_new (o := .tup (cutV [.str (KX.one c), u, z] (some 1) none)) he
      have ee : upd H e (.tup (cutV [.str (KX.one c), u, z] (some 1) none)) e = some (.tup [u, z]) := upd_same
      generalize upd H e (.tup (cutV [.str (KX.one c), u, z] (some 1) none)) = H1 at se ee ⊢
      refine ⟨e, rfl, ⟨_, SqT.of ee⟩, fun D hD => lc_it (walk_tup (K := K) (a := e) (xs := [u, z])) (fun i H' => Same H1 H' ∧ PartsAt K D l r i H') ⟨same_new hD, upd_same⟩ (fun i H' _ z => SqT.of (z.1 _ _ ee)) ?_ ?_⟩
      · rintro i x Ha Hb hi ⟨s2, hp⟩ ⟨rfl, hx⟩
        refine ⟨rfl, yes_if ?_⟩
        match i, hi, hx, hp with
        | 0, _, hx, hp =>
          obtain rfl := Option.some.inj hx
          refine ⟨_, rfl, u, l, rfl, hl.same (se.trans s2), by omega, fun H3 x1 s3 t1 => ?_⟩
          have hp3 := s3 _ _ (show Hb D = some (.lst []) from hp)
          exact ⟨[], hp3, (by show 0 < sizeLine; decide), Same.grow (s2.trans s3) hD, x1, upd_same, tr_upd t1 hp3⟩
        | 1, _, hx, hp =>
          obtain rfl := Option.some.inj hx
          obtain ⟨x1, hp1, t1⟩ := hp
          refine ⟨_, rfl, z, r, rfl, hr'.same (se.trans s2), by omega, fun H3 x2 s3 t2 => ?_⟩
          have hp3 := s3 _ _ hp1
          exact ⟨[.ref x1], hp3, (by show 1 < sizeLine; decide), Same.grow (s2.trans s3) hD, x1, x2, upd_same, tr_upd (t1.same s3) hp3, tr_upd t2 hp3⟩
      rintro H2 ⟨s2, x1, x2, hp, t1, t2⟩
      intro x dx hx hdx ne
      have s3 : Same H2 (upd (upd H2 dx (.own x)) x (.ins (KX.wC K) dx [])) := same_two hdx (by rw [upd_ne (Ne.symm ne)]; exact hx)
      refine ⟨x, c, D, [.ref x1, .ref x2], dx, rfl, upd_same, .inl (SqL.of (s3 _ _ hp)), (by show KX.fitB c 2 = true; rcases joint_two hc with rfl | rfl <;> rfl), (by show 2 ≤ 1000; decide), fun H' kept isw => ⟨rfl, ?_⟩⟩
      have s4 : Same H2 H' := fun b o y => kept b o (s3 _ _ y) (ne_of_none y hx)
      exact q H' x ((se.trans s2).trans s4) ⟨hc, x1, x2, isw, t1.same s4, t2.same s4⟩
theorem ok_word2 (F : FnP K "_law_word" jWord (He.ga K "_law_word") fd) (T : TX K mg) : ∀ n, FnOk P w K mg base CX0 (4 + n) (He.ga K "_law_word") fd ["_law_shape_here"] (spWord2 K n) := by
  intro n
  induction n with
  | zero => exact ok_word2a F T 0 ⟨fun _ _ _ _ h => h.elim, fun _ _ _ _ _ _ _ _ _ _ _ _ _ h => h.elim⟩
  | succ n ih => exact ok_word2a F T (n + 1) (by rw [show 3 + (n + 1) = 4 + n by omega]; exact ih)
/-! ### _law_kinds -/
def spKinds : Sp := fun vs H Q _ => vs = [] ∧ ∀ H' l, Same H H' → H l = none → H' l = some (.lst KX.kindV) → Q (.ref l) H'
abbrev nKinds : List Str := []
theorem sc_kinds : FnScope nKinds [] (defScope (top jKinds)) := ⟨rfl, rfl, rfl, by decide +kernel, rfl, by decide +kernel, by decide +kernel⟩
theorem g_kinds (T : TX K mg) : ∃ fd, FnP K "_law_kinds" jKinds (He.ga K "_law_kinds") fd ∧ FnOk P w K mg base CX0 1 (He.ga K "_law_kinds") fd [] spKinds ∧ Binds K fd [] [] := by
  obtain ⟨fd, F⟩ := T.def "_law_kinds" jKinds
  refine ⟨fd, F, F.ok sc_kinds (fun vs H Q E h => ?_) (fun cdv A outer s H vs Q E hr h => ?_), F.bindsN fun _ _ _ _ _ _ us hl => match us, hl with | [], _ => rfl⟩
  · obtain ⟨rfl, _⟩ := h
    rfl
  · obtain ⟨rfl, k⟩ := h
    have nd := sc_kinds.nd
    refine ⟨_, PSs.nox (pss_one (ps_ret (pe_lst (pa_cons pe_str (pa_cons pe_str (pa_cons pe_str (pa_cons pe_str (pa_cons pe_str (pa_cons pe_str (pa_cons pe_str (pa_cons pe_str (pa_cons pe_str pa_nil)))))))))))), ?_⟩
    exact ⟨(by show 9 ≤ sizeLine; decide), fun l hl => k _ l (same_new hl) hl upd_same⟩
end
end KV

set_option Elab.async false
set_option linter.all false
set_option maxRecDepth 100000
set_option maxHeartbeats 4000000
/-! # marks and coefficients -/
namespace KV
open PySem PySem.Spec PyProof.Rows L2 VX RX
section
variable {P : Program} {w : World} {K : PySem.W.Frag} {mg : Str → Option Value} {base : Heap} {f : Addr} {fd : FuncData}
open RX KW
theorem in_01 (c : Nat) : inV (V.str (KX.one c)) [V.str "0", V.str "1"] = (c == 48 || c == 49) := by
  show ((KX.one 48 == KX.one c) || ((KX.one 49 == KX.one c) || false)) = _
  simp only [KX.beq_one, Bool.or_false]
theorem sum_by (x y : Nat) : (if (x == y || y == 48) = true then x else if x = 48 then y else 49) = sumM x y := by
  unfold sumM isW
  simp only [Bool.or_eq_true, beq_iff_eq]
  repeat' split
  all_goals omega
theorem com_by (x y : Nat) : (if (x == y || y == 49) = true then x else if x = 49 then y else 48) = comM x y := by
  unfold comM isW
  simp only [Bool.or_eq_true, beq_iff_eq]
  repeat' split
  all_goals omega
def spMark2 (n : Nat) : Sp := fun vs H Q _ => ∃ (v : V) (t : Tr) (k : List Nat), vs = [.str (KX.kS k), v] ∧ IsSh H v t ∧ dep t ≤ n ∧ ∀ H', Same H H' → Q (.str (KX.one (mk k t))) H'
def spMark2L : Nat → Sp
  | 0 => fun _ _ _ _ => False
  | n + 1 => spMark2 n
abbrev nMark2 : List Str := ["_law_kind", "_law_shape_here", "_law_sign", "_law_one", "_law_other", "_law_least", "_law_most"]
theorem sc_mark2 : FnScope nMark2 ["_law_kind", "_law_shape_here"] (defScope (top jMark)) := ⟨rfl, rfl, rfl, by decide +kernel, rfl, by decide +kernel, by decide +kernel⟩
theorem ok_mark2a (F : FnP K "_law_mark" jMark (He.ga K "_law_mark") fd) (T : TX K mg) (n : Nat) (GR : FnOk P w K mg base CX0 (1 + n) (He.ga K "_law_mark") fd ["_law_kind", "_law_shape_here"] (spMark2L n)) :
    FnOk P w K mg base CX0 (2 + n) (He.ga K "_law_mark") fd ["_law_kind", "_law_shape_here"] (spMark2 n) := by
  have BR : Binds K fd ["_law_kind", "_law_shape_here"] [] := F.bindsN fun _ _ _ _ _ _ us hl => match us, hl with | [_, _], _ => rfl
  rw [show 2 + n = (1 + n) + 1 by omega]
  refine F.ok sc_mark2 (fun vs H Q E h => ?_) (fun cdv A outer s H vs Q E hr h => ?_)
  · obtain ⟨v, t, k, rfl, _⟩ := h
    rfl
  · obtain ⟨v, t, k, rfl, ht, hd, q⟩ := h
    have nd := sc_mark2.nd
    refine ⟨_, PSs.nox (pss_cons (ps_set (i := 2) nd rfl (.inl rfl) (pe_ix ix_tup (pv 1) pe_int (fun _ _ => rfl))) (pss_cons (ps_if (pt_cmpR op_in_seq (pv 2) (pe_lst (pa_cons pe_str (pa_cons pe_str pa_nil))) (by rfl)) (pss_one (ps_ret (pv 2))) pss_nil) (pss_cons (ps_if (pt_cmpR op_in_seq (pv 2) (pe_lst (pa_cons pe_str (pa_cons pe_str (pa_cons pe_str pa_nil)))) (by rfl)) (pss_cons (ps_if (pt_cmpR op_eq (pv 0) pe_str (nomark _)) (pss_one (ps_ret (pv 2))) pss_nil) (pss_one (ps_ret (pe_ifExp (pt_cmpR op_in_sign (pv 2) (pv 0) (by rfl)) pe_str pe_str)))) pss_nil) (pss_cons (ps_par (i := 3) (j := 4) rfl nd rfl rfl (by decide) rfl rfl (pa_cons (pe_call GR hr (by rfl) (T.df "_law_mark" jMark) F.kp BR .nil pass0 (pa_cons (pv 0) (pa_cons (pe_ix ix_tup (pv 1) pe_int (fun _ _ => rfl)) pa_nil))) (pa_cons (pe_call GR hr (by rfl) (T.df "_law_mark" jMark) F.kp BR .nil pass0 (pa_cons (pv 0) (pa_cons (pe_ix ix_tup (pv 1) pe_int (fun _ _ => rfl)) pa_nil))) pa_nil)) rfl) (pss_cons (ps_asg (pe_ifExp (pt_cmpR op_eq (pv 2) pe_str (nomark _)) (pe_tup (pa_cons pe_str (pa_cons pe_str pa_nil))) (pe_tup (pa_cons pe_str (pa_cons pe_str pa_nil)))) (pg_tup (by rfl) (pgs_cons (pg_name (i := 5) nd rfl (.inl rfl)) (pgs_cons (pg_name (i := 6) nd rfl (.inl rfl)) pgs_nil)))) (pss_cons (ps_if (PW.pt (pw_or (pt_cmpR op_eq (pv 3) (pv 4) (nomark _)) (pw_or1 (pt_cmpR op_eq (pv 4) (pv 5) (nomark _))))) (pss_one (ps_ret (pv 3))) pss_nil) (pss_one (ps_ret (pe_ifExp (pt_cmpR op_eq (pv 3) (pv 5) (nomark _)) (pv 4) (pv 6)))))))))), ?_⟩
    cases t with
    | lf c =>
      obtain ⟨hc, a, rfl, ha⟩ := ht
      refine ⟨_, rfl, a, _, 0, _, rfl, rfl, SqT.of ha, rfl, ?_⟩
      refine ⟨_, rfl, (by show 2 ≤ sizeLine; decide), fun l1 hl1 => ⟨l1, _, rfl, .inl (SqL.of upd_same), rfl, rfl, ?_⟩⟩
      have s1 := same_new (o := .lst [V.str "0", V.str "1"]) hl1
      rw [if_neg Bool.false_ne_true, in_01]
      refine ⟨_, rfl, ite2 (fun z => ?_) (fun z => ?_)⟩
      · have z' : ¬ hand c = true := by
          simp only [Bool.or_eq_true, beq_iff_eq] at z
          rcases z with rfl | rfl <;> decide
        have q' := q _ s1
        rw [mk, if_neg z'] at q'
        exact ⟨_, rfl, q'⟩
      refine ⟨_, rfl, (by show 3 ≤ sizeLine; decide), fun l2 hl2 => ⟨l2, _, rfl, .inl (SqL.of upd_same), rfl, rfl, ?_⟩⟩
      have s2 := s1.trans (same_new (o := .lst [V.str "a", V.str "b", V.str "c"]) hl2)
      have hh : hand c = true := by
        simp only [leafC, Bool.or_eq_true, beq_iff_eq] at hc
        simp only [Bool.or_eq_true, beq_iff_eq] at z
        unfold hand
        simp only [Bool.or_eq_true, beq_iff_eq]
        omega
      rw [if_neg Bool.false_ne_true, KX.in_hands, hh]
      have q' := q _ s2
      rw [mk, if_pos hh] at q'
      unfold letM at q'
      refine ⟨_, rfl, iteT ⟨_, rfl, rfl, _, rfl, ?_⟩⟩
      rw [KX.kS_pl]
      refine ite2 (fun h => ?_) (fun h => ?_)
      · rw [if_pos (of_decide_eq_true h)] at q'
        exact ⟨_, rfl, q'⟩
      · rw [if_neg (fun e => h (decide_eq_true e))] at q'
        refine ⟨_, rfl, _, rfl, c, _, rfl, rfl, _, rfl, ?_⟩
        rw [KX.kS_list]
        refine ite2 (fun h2 => ?_) (fun h2 => ?_)
        · rw [if_pos (of_decide_eq_true h2)] at q'
          exact q'
        · rw [if_neg (fun e => h2 (decide_eq_true e))] at q'
          exact q'
    | nd c l r =>
      obtain ⟨hc, a, u, z, rfl, ha, hl, hr'⟩ := ht
      simp only [dep] at hd
      obtain ⟨m, rfl⟩ : ∃ m, n = m + 1 := ⟨n - 1, by omega⟩
      have c2 := joint_two hc
      refine ⟨_, rfl, a, _, 0, _, rfl, rfl, SqT.of ha, rfl, ?_⟩
      refine ⟨_, rfl, (by show 2 ≤ sizeLine; decide), fun l1 hl1 => ⟨l1, _, rfl, .inl (SqL.of upd_same), rfl, rfl, ?_⟩⟩
      have s1 := same_new (o := .lst [V.str "0", V.str "1"]) hl1
      rw [if_neg Bool.false_ne_true, in_01, show (c == 48 || c == 49) = false by rcases c2 with rfl | rfl <;> rfl]
      refine ⟨_, rfl, iteF ⟨_, rfl, (by show 3 ≤ sizeLine; decide), fun l2 hl2 => ⟨l2, _, rfl, .inl (SqL.of upd_same), rfl, rfl, ?_⟩⟩⟩
      have s2 := s1.trans (same_new (o := .lst [V.str "a", V.str "b", V.str "c"]) hl2)
      rw [if_neg Bool.false_ne_true, KX.in_hands, show hand c = false by rcases c2 with rfl | rfl <;> rfl]
      refine ⟨_, rfl, iteF ?_⟩
      generalize upd (upd H l1 (.lst [V.str "0", V.str "1"])) l2 (.lst [V.str "a", V.str "b", V.str "c"]) = H2 at s2 ⊢
      refine ⟨_, rfl, _, rfl, a, _, 1, _, rfl, rfl, SqT.of (s2 _ _ ha), rfl, u, l, k, rfl, hl.same s2, by omega, fun H3 s3 => ?_⟩
      have s23 := s2.trans s3
      refine ⟨_, rfl, _, rfl, a, _, 2, _, rfl, rfl, SqT.of (s23 _ _ ha), rfl, z, r, k, rfl, hr'.same s23, by omega, fun H4 s4 => ?_⟩
      have s24 := s23.trans s4
      refine ⟨_, _, rfl, ?_⟩
      have q' := fun H' (s : Same H H') => q H' s
      rw [mk] at q'
      generalize mk k l = x at q' ⊢
      generalize mk k r = y at q' ⊢
      have one_dec : ∀ {a b : Nat}, decide (V.str (KX.one a) = V.str (KX.one b)) = (a == b) := KX.dec_one
      have go : ∀ (e least most : Nat) (H6 : Hp), Same H H6 → (if (x == y || y == least) = true then x else if x = least then y else most) = e → (∀ H', Same H H' → Q (.str (KX.one e)) H') →
          (x == y → Q (.str (KX.one x)) H6) ∧ (¬ (x == y) = true → (y == least → Q (.str (KX.one x)) H6) ∧ (¬ (y == least) = true → (x == least → Q (.str (KX.one y)) H6) ∧ (¬ (x == least) = true → Q (.str (KX.one most)) H6))) := by
        intro e least most H6 s6 he hq
        refine ⟨fun c1 => ?_, fun c1 => ⟨fun c2 => ?_, fun c2 => ⟨fun c3 => ?_, fun c3 => ?_⟩⟩⟩
        · rw [if_pos (by rw [c1]; rfl)] at he; subst he; exact hq _ s6
        · rw [if_pos (by rw [c2, Bool.or_true])] at he; subst he; exact hq _ s6
        · rw [if_neg (by simp [c1, c2]), if_pos (by simpa using c3)] at he; subst he; exact hq _ s6
        · rw [if_neg (by simp [c1, c2]), if_neg (by simpa using c3)] at he; subst he; exact hq _ s6
      refine ⟨_, rfl, rfl, _, rfl, ?_⟩
      rcases c2 with rfl | rfl
      · refine iteT ⟨(by show 2 ≤ sizeLine; decide), fun p hp => ⟨p, _, rfl, SqT.of upd_same, rfl, _, _, rfl, _, _, rfl, rfl, ?_⟩⟩
        have s5 := s24.trans (same_new (o := .tup [V.str "0", V.str "1"]) hp)
        generalize upd H4 p (.tup [V.str "0", V.str "1"]) = H5 at s5 ⊢
        obtain ⟨g1, g2⟩ := go _ 48 49 H5 s5 (sum_by x y) q'
        refine ⟨_, rfl, _, rfl, rfl, _, rfl, ?_⟩
        rw [one_dec]
        refine ite2 (fun c1 => iteT ⟨_, rfl, g1 c1⟩) (fun c1 => ?_)
        obtain ⟨g2, g3⟩ := g2 c1
        refine ⟨_, rfl, _, rfl, rfl, _, rfl, ?_⟩
        rw [show decide (V.str (KX.one y) = V.str "0") = (y == 48) from one_dec]
        refine ite2 (fun c2 => ⟨_, rfl, g2 c2⟩) (fun c2 => ?_)
        obtain ⟨g3, g4⟩ := g3 c2
        refine ⟨_, rfl, _, rfl, rfl, _, rfl, ?_⟩
        rw [show decide (V.str (KX.one x) = V.str "0") = (x == 48) from one_dec]
        exact ite2 (fun c3 => ⟨_, rfl, g3 c3⟩) (fun c3 => ⟨_, rfl, g4 c3⟩)
      · refine iteF ⟨(by show 2 ≤ sizeLine; decide), fun p hp => ⟨p, _, rfl, SqT.of upd_same, rfl, _, _, rfl, _, _, rfl, rfl, ?_⟩⟩
        have s5 := s24.trans (same_new (o := .tup [V.str "1", V.str "0"]) hp)
        generalize upd H4 p (.tup [V.str "1", V.str "0"]) = H5 at s5 ⊢
        obtain ⟨g1, g2⟩ := go _ 49 48 H5 s5 (com_by x y) q'
        refine ⟨_, rfl, _, rfl, rfl, _, rfl, ?_⟩
        rw [one_dec]
        refine ite2 (fun c1 => iteT ⟨_, rfl, g1 c1⟩) (fun c1 => ?_)
        obtain ⟨g2, g3⟩ := g2 c1
        refine ⟨_, rfl, _, rfl, rfl, _, rfl, ?_⟩
        rw [show decide (V.str (KX.one y) = V.str "1") = (y == 49) from one_dec]
        refine ite2 (fun c2 => ⟨_, rfl, g2 c2⟩) (fun c2 => ?_)
        obtain ⟨g3, g4⟩ := g3 c2
        refine ⟨_, rfl, _, rfl, rfl, _, rfl, ?_⟩
        rw [show decide (V.str (KX.one x) = V.str "1") = (x == 49) from one_dec]
        exact ite2 (fun c3 => ⟨_, rfl, g3 c3⟩) (fun c3 => ⟨_, rfl, g4 c3⟩)
theorem ok_mark2 (F : FnP K "_law_mark" jMark (He.ga K "_law_mark") fd) (T : TX K mg) : ∀ n, FnOk P w K mg base CX0 (2 + n) (He.ga K "_law_mark") fd ["_law_kind", "_law_shape_here"] (spMark2 n) := by
  intro n
  induction n with
  | zero => exact ok_mark2a F T 0 ⟨fun _ _ _ _ h => h.elim, fun _ _ _ _ _ _ _ _ _ _ _ _ _ h => h.elim⟩
  | succ n ih => exact ok_mark2a F T (n + 1) (by rw [show 1 + (n + 1) = 2 + n by omega]; exact ih)
/-! ### coefficients -/
theorem dim_line {k : List Nat} {m : Nat} (hk : k ≠ PL) (hm : m = 48 ∨ m = 49) : dimM k m = if m = 49 then 1 else 0 := by
  unfold dimM
  rw [if_neg hk]
theorem coef_by {k : List Nat} {t : Tr} (ht : WF t = true) : dimM k (mk k t) = if mk k t = 49 then kLen k else if mk k t = 48 then 0 else 1 := by
  unfold kLen
  by_cases hk : k = PL
  · subst hk
    have h5 := mk_five (k := PL) ht
    unfold dimM
    rw [if_pos rfl, if_pos rfl]
    unfold five at h5
    simp only [Bool.or_eq_true, beq_iff_eq] at h5
    generalize mk PL t = m at h5 ⊢
    have : m = 48 ∨ m = 49 ∨ m = 97 ∨ m = 98 ∨ m = 99 := by omega
    rcases this with rfl | rfl | rfl | rfl | rfl <;> rfl
  · have h2 := DX.mk_bit hk ht
    rw [dim_line hk h2, if_neg hk]
    rcases h2 with e | e <;> rw [e] <;> rfl
def spCoef2 (n : Nat) : Sp := fun vs H Q _ => ∃ (v : V) (t : Tr) (k : List Nat), vs = [.str (KX.kS k), v] ∧ IsSh H v t ∧ dep t ≤ n ∧ ∀ H', Same H H' → Q (.int (dimM k (mk k t) : Nat)) H'
abbrev nCoef2 : List Str := ["_law_kind", "_law_shape_here", "_law_told"]
theorem sc_coef2 : FnScope nCoef2 ["_law_kind", "_law_shape_here"] (defScope (top jCoef)) := ⟨rfl, rfl, rfl, by decide +kernel, rfl, by decide +kernel, by decide +kernel⟩
theorem g_coef2 (T : TX K mg) (n : Nat) : ∃ fd, FnP K "_law_coefficient" jCoef (He.ga K "_law_coefficient") fd ∧ FnOk P w K mg base CX0 (3 + n) (He.ga K "_law_coefficient") fd ["_law_kind", "_law_shape_here"] (spCoef2 n) ∧ Binds K fd ["_law_kind", "_law_shape_here"] [] := by
  obtain ⟨fd, F⟩ := T.def "_law_coefficient" jCoef
  obtain ⟨fdM, FM⟩ := T.def "_law_mark" jMark
  have GM : FnOk P w K mg base CX0 (2 + n) _ fdM ["_law_kind", "_law_shape_here"] (spMark2 n) := ok_mark2 FM T n
  have BM : Binds K fdM ["_law_kind", "_law_shape_here"] [] := FM.bindsN fun _ _ _ _ _ _ us hl => match us, hl with | [_, _], _ => rfl
  refine ⟨fd, F, ?_, F.bindsN fun _ _ _ _ _ _ us hl => match us, hl with | [_, _], _ => rfl⟩
  rw [show 3 + n = (2 + n) + 1 by omega]
  refine F.ok sc_coef2 (fun vs H Q E h => ?_) (fun cdv A outer s H vs Q E hr h => ?_)
  · obtain ⟨v, t, k, rfl, _⟩ := h
    rfl
  · obtain ⟨v, t, k, rfl, ht, hd, q⟩ := h
    have nd := sc_coef2.nd
    have cb := coef_by (k := k) ht.wf
    refine ⟨_, PSs.nox (pss_cons (ps_set (i := 2) nd rfl (.inl rfl) (pe_call GM hr (by rfl) (T.df "_law_mark" jMark) FM.kp BM .nil pass0 (pa_cons (pv 0) (pa_cons (pv 1) pa_nil)))) (pss_cons (ps_if (pt_cmpR op_eq (pv 2) pe_str (nomark _)) (pss_one (ps_ret (pe_ifExp (pt_cmpR op_eq (pv 0) pe_str (nomark _)) pe_int pe_int))) pss_nil) (pss_one (ps_ret (pe_callTy (r := fun xs H Q => (∃ i, xs = [.int i] ∧ Q (.int i) H) ∨ ∃ k, xs = [.bl k] ∧ Q (.int (if k then 1 else 0)) H) call_int1 (by rfl) (T.fr "int") boot_int (pa_cons (pe_cmpR op_ne (pv 2) pe_str (nomark _)) pa_nil)))))), ?_⟩
    refine ⟨_, rfl, _, rfl, v, t, k, rfl, ht, hd, fun H1 s1 => ?_⟩
    have q' := q H1 s1
    rw [cb] at q'
    refine ⟨_, rfl, rfl, _, rfl, ?_⟩
    rw [show decide (V.str (KX.one (mk k t)) = V.str "1") = (mk k t == 49) from KX.dec_one]
    refine ite2 (fun c => ?_) (fun c => ?_)
    · rw [if_pos (by simpa using c)] at q'
      refine ⟨_, rfl, rfl, _, rfl, ?_⟩
      rw [KX.kS_pl]
      unfold kLen at q'
      refine ite2 (fun h => ?_) (fun h => ?_)
      · rw [if_pos (of_decide_eq_true h)] at q'
        exact q'
      · rw [if_neg (fun e => h (decide_eq_true e))] at q'
        exact q'
    · rw [if_neg (by simpa using c)] at q'
      refine ⟨_, rfl, rfl, .inr ⟨_, rfl, ?_⟩⟩
      rw [show decide (V.str (KX.one (mk k t)) = V.str "0") = (mk k t == 48) from KX.dec_one]
      by_cases e : mk k t = 48
      · rw [if_pos e] at q'
        rw [show (mk k t == 48) = true by simpa using e]
        exact q'
      · rw [if_neg e] at q'
        rw [show (mk k t == 48) = false by simpa using e]
        exact q'
def spPc (K : PySem.W.Frag) (n : Nat) : Sp := fun vs H Q _ => ∃ (x : Addr) (t : Tr) (k : List Nat), vs = [.ref x, .str (KX.kS k)] ∧ KX.IsTr K H x t ∧ dep t ≤ n ∧ ∀ H', Same H H' → Q (.int (dimM k (mk k t) : Nat)) H'
abbrev nPc : List Str := ["word", "kind", "told"]
theorem sc_pc : FnScope nPc ["word", "kind"] (defScope (top iCoef)) := ⟨rfl, rfl, rfl, by decide +kernel, rfl, by decide +kernel, by decide +kernel⟩
theorem g_coef (T : TX K mg) (n : Nat) : ∃ fd, FnP K "coefficient" iCoef (He.ga K "coefficient") fd ∧ FnOk P w K mg base CX0 (5 + n) (He.ga K "coefficient") fd ["word", "kind"] (spPc K n) ∧ Binds K fd ["word", "kind"] [] := by
  obtain ⟨fd, F⟩ := T.def "coefficient" iCoef
  obtain ⟨_, _, _, _, _, _, Z⟩ := g_mkf T
  obtain ⟨fdM, FM⟩ := T.def "mark" iMark
  have GM : FnOk P w K mg base CX0 (4 + n) _ fdM ["word", "kind"] (KX.spMark K n) := KX.ok_mark FM (wtxt T) Z n
  have BM : Binds K fdM ["word", "kind"] [] := FM.bindsN fun _ _ _ _ _ _ us hl => match us, hl with | [_, _], _ => rfl
  obtain ⟨_, FL, GL, BL⟩ := g_klen (P := P) (w := w) (base := base) T
  refine ⟨fd, F, ?_, F.bindsN fun _ _ _ _ _ _ us hl => match us, hl with | [_, _], _ => rfl⟩
  rw [show 5 + n = (4 + n) + 1 by omega]
  refine F.ok sc_pc (fun vs H Q E h => ?_) (fun cdv A outer s H vs Q E hr h => ?_)
  · obtain ⟨x, t, k, rfl, _⟩ := h
    rfl
  · obtain ⟨x, t, k, rfl, ht, hd, q⟩ := h
    have nd := sc_pc.nd
    have hr1 : Room 1 _ := hr.mono (by omega)
    have cb := coef_by (k := k) ht.wf
    refine ⟨_, PSs.nox (pss_cons (ps_set (i := 2) nd rfl (.inl rfl) (pe_call GM hr (by rfl) (T.df "mark" iMark) FM.kp BM .nil pass0 (pa_cons (pv 0) (pa_cons (pv 1) pa_nil)))) (pss_cons (ps_if (pt_cmpR op_eq (pv 2) pe_str (nomark _)) (pss_one (ps_ret pe_int)) pss_nil) (pss_one (ps_ret (pe_ifExp (pt_cmpR op_eq (pv 2) pe_str (nomark _)) (pe_call GL hr1 (by rfl) (T.df "kind_length" iKLen) FL.kp BL .nil pass0 (pa_cons (pv 1) pa_nil)) pe_int))))), ?_⟩
    refine ⟨_, rfl, _, rfl, x, t, k, rfl, ht, hd, fun H1 s1 => ?_⟩
    have q' := q H1 s1
    rw [cb] at q'
    refine ⟨_, rfl, rfl, _, rfl, ?_⟩
    rw [show decide (V.str (KX.one (mk k t)) = V.str "0") = (mk k t == 48) from KX.dec_one]
    refine ite2 (fun c => ?_) (fun c => ?_)
    · have c' : mk k t = 48 := by simpa using c
      rw [if_neg (by omega), if_pos c'] at q'
      exact q'
    · have c' : mk k t ≠ 48 := by simpa using c
      refine ⟨_, rfl, rfl, _, rfl, ?_⟩
      rw [show decide (V.str (KX.one (mk k t)) = V.str "1") = (mk k t == 49) from KX.dec_one]
      refine ite2 (fun c2 => ?_) (fun c2 => ?_)
      · rw [if_pos (by simpa using c2)] at q'
        exact ⟨_, rfl, k, rfl, q'⟩
      · rw [if_neg (by simpa using c2), if_neg c'] at q'
        exact q'
def coefD (t : Tr) : List Nat → V := fun k => .int (dimM k (mk k t) : Nat)
def spPcs (K : PySem.W.Frag) (n : Nat) : Sp := fun vs H Q _ => ∃ (x : Addr) (t : Tr), vs = [.ref x] ∧ KX.IsTr K H x t ∧ dep t ≤ n ∧ ∀ H' d, Same H H' → H d = none → H' d = some (.dK (dictK (coefD t))) → Q (.ref d) H'
abbrev nPcs : List Str := ["word", "kind"]
theorem sc_pcs : FnScope nPcs ["word"] (defScope (top iCoefs)) := ⟨rfl, rfl, rfl, by decide +kernel, rfl, by decide +kernel, by decide +kernel⟩
theorem g_coefs (T : TX K mg) (n : Nat) : ∃ fd, FnP K "coefficients" iCoefs (He.ga K "coefficients") fd ∧ FnOk P w K mg base CX0 (6 + n) (He.ga K "coefficients") fd ["word"] (spPcs K n) ∧ Binds K fd ["word"] [] := by
  obtain ⟨fd, F⟩ := T.def "coefficients" iCoefs
  obtain ⟨_, FZ, GZ, BZ⟩ := g_coef (P := P) (w := w) (base := base) T n
  refine ⟨fd, F, ?_, F.bindsN fun _ _ _ _ _ _ us hl => match us, hl with | [_], _ => rfl⟩
  rw [show 6 + n = (5 + n) + 1 by omega]
  refine F.ok sc_pcs (fun vs H Q E h => ?_) (fun cdv A outer s H vs Q E hr h => ?_)
  · obtain ⟨x, t, rfl, _⟩ := h
    rfl
  · obtain ⟨x, t, rfl, hx, hd, q⟩ := h
    have nd := sc_pcs.nd
    refine ⟨_, PSs.nox (pss_one (ps_ret (pe_dc (own := [("kind", 1)]) (g := gName 1) (tt := tYes) rfl nd (pi_tup (pe_glob (v := .ref (He.ga K "KINDS")) (by rfl) T.g_KINDS rfl)) (blkOk_by (own := [("kind", 1)]) (N := nPcs) (sc := defScope (top iCoefs)) (by decide +kernel)) (fun _ _ _ _ _ => pg_name (i := 1) nd rfl (Or.inl rfl)) (fun _ _ _ _ _ => pts_nil) (fun _ _ _ _ _ => pv 1) (fun _ _ _ _ _ => pe_call GZ hr (by rfl) (T.df "coefficient" iCoef) FZ.kp BZ .nil pass0 (pa_cons (pv 0) (pa_cons (pv 1) pa_nil)))))), ?_⟩
    refine ⟨_, rfl, ⟨_, T.t_KINDS _⟩, fun D hD => dc_tup (K := K) (xs := KX.kindV) (fun i H' => Same H H' ∧ H' D = some (.dK ((dictK (coefD t)).take i))) ⟨same_new hD, upd_same⟩ (fun i H' _ _ => T.t_KINDS H') ?_ ?_⟩
    · rintro i v H1 hv ⟨sm, hDl⟩
      obtain ⟨k, hk, rfl⟩ := KX.kind_at hv
      refine ⟨rfl, yes_if ?_⟩
      refine ⟨_, rfl, _, rfl, _, rfl, x, t, k, rfl, hx.same sm, hd, fun H2 s2 => ⟨_, Sum.inr (KX.kS k), rfl, s2 _ _ hDl, lt_line (Nat.le_trans (List.length_take_le' _ _) (by show 9 ≤ 100000; decide)), Same.grow (sm.trans s2) hD, ?_⟩⟩
      rw [upd_same]
      show some (HO.dK (putK _ _ (coefD t k))) = _
      rw [dictK_put (coefD t) hk]
    · rintro H1 ⟨sm, hDl⟩
      exact q H1 D sm hD hDl
end
end KV

set_option Elab.async false
set_option linter.all false
set_option maxRecDepth 100000
set_option maxHeartbeats 4000000
/-! # values, sets, numbers counted -/
namespace KV
open PySem PySem.Spec PyProof.Rows L2 VX RX
section
variable {P : Program} {w : World} {K : PySem.W.Frag} {mg : Str → Option Value} {base : Heap} {f : Addr} {fd : FuncData}
open RX KW
/-- the hands' keys -/
def kDk (i : Nat) : L2.Key := Sum.inr (if i = 0 then "a" else if i = 1 then "b" else "c")
/-- a dict with a value for each hand, so far -/
def kD (ds : List Addr) : List (L2.Key × V) := (List.zip [kDk 0, kDk 1, kDk 2] ds).map fun q => (q.1, V.ref q.2)
theorem kD_put : ∀ {ds : List Addr} {d : Addr}, ds.length < 3 → putK (kD ds) (kDk ds.length) (.ref d) = kD (ds ++ [d])
  | [], _, _ => rfl
  | [_], _, _ => rfl
  | [_, _], _, _ => rfl
  | _ :: _ :: _ :: _, _, h => absurd h (by simp)
theorem kD_get {d0 d1 d2 : Addr} : ∀ i < 3, valV (kD [d0, d1, d2]) (kDk i) = some (.ref (if i = 0 then d0 else if i = 1 then d1 else d2))
  | 0, _ => rfl
  | 1, _ => rfl
  | 2, _ => rfl
/-- dicts of all vectors -/
inductive AreTold (H : Hp) (p : Int) (n : Nat) : List Addr → List (List (List Int)) → Prop
  | nil : AreTold H p n [] []
  | cons {d : Addr} {B l : List (List Int)} {ds : List Addr} {Bs : List (List (List Int))} : H d = some (.dT (kvsOf l)) → Told p n B l → AreTold H p n ds Bs → AreTold H p n (d :: ds) (B :: Bs)
theorem AreTold.same {H H' : Hp} (s : Same H H') {p : Int} {n : Nat} : ∀ {ds : List Addr} {Bs : List (List (List Int))}, AreTold H p n ds Bs → AreTold H' p n ds Bs
  | _, _, .nil => .nil
  | _, _, .cons h t r => .cons (s _ _ h) t (r.same s)
theorem AreTold.kept {H H' : Hp} {b : Addr} (k : Kept b H H') (hb : ∃ xs, H b = some (.lst xs)) {p : Int} {n : Nat} : ∀ {ds : List Addr} {Bs : List (List (List Int))}, AreTold H p n ds Bs → AreTold H' p n ds Bs
  | _, _, .nil => .nil
  | _, _, .cons h t r => .cons (k _ _ h fun e => by
      obtain ⟨xs, hx⟩ := hb
      rw [e, hx] at h
      cases h) t (AreTold.kept k hb r)
theorem AreTold.length {H : Hp} {p : Int} {n : Nat} : ∀ {ds : List Addr} {Bs : List (List (List Int))}, AreTold H p n ds Bs → ds.length = Bs.length
  | _, _, .nil => rfl
  | _, _, .cons _ _ r => congrArg (· + 1) r.length
theorem AreTold.snoc {H : Hp} {p : Int} {n : Nat} {d : Addr} {B l : List (List Int)} (h : H d = some (.dT (kvsOf l))) (t : Told p n B l) : ∀ {ds : List Addr} {Bs : List (List (List Int))}, AreTold H p n ds Bs → AreTold H p n (ds ++ [d]) (Bs ++ [B])
  | _, _, .nil => .cons h t .nil
  | _, _, .cons h' t' r => .cons h' t' (r.snoc h t)
theorem AreTold.updD {H : Hp} {p : Int} {n : Nat} {d : Addr} {ks ls : List (L2.Key × V)} (hd : H d = some (.dK ks)) : ∀ {ds : List Addr} {Bs : List (List (List Int))}, AreTold H p n ds Bs → AreTold (upd H d (.dK ls)) p n ds Bs
  | _, _, .nil => .nil
  | _, _, .cons h t r => .cons (by rw [upd_ne (fun e => by rw [e, hd] at h; cases h)]; exact h) t (AreTold.updD hd r)
theorem rows_keptD {H H' : Hp} {d : Addr} {ks : List (L2.Key × V)} : ∀ {as : List Addr} {rs : List (List Int)}, AreRows H as rs → Kept d H H' → H d = some (.dK ks) → AreRows H' as rs
  | _, _, .nil, _, _ => .nil
  | _, _, .cons h t, k, hd => .cons (k _ _ h fun e => by
      unfold IsRow at h
      rw [e, hd] at h
      cases h) (rows_keptD t k hd)
theorem kD_len : ∀ {ds : List Addr}, ds.length ≤ 3 → (kD ds).length = ds.length
  | [], _ => rfl
  | [_], _ => rfl
  | [_, _], _ => rfl
  | [_, _, _], _ => rfl
  | _ :: _ :: _ :: _ :: _, h => absurd h (by simp)
/-- the hands' spaces, told -/
def HandsD (H : Hp) (e : Addr) (p : Int) (n : Nat) (A B C : List (List Int)) : Prop := ∃ d0 d1 d2 l0 l1 l2, H e = some (.dK (kD [d0, d1, d2])) ∧ H d0 = some (.dT (kvsOf l0)) ∧ H d1 = some (.dT (kvsOf l1)) ∧ H d2 = some (.dT (kvsOf l2)) ∧ Told p n A l0 ∧ Told p n B l1 ∧ Told p n C l2
theorem HandsD.same {H H' : Hp} (s : Same H H') {e : Addr} {p : Int} {n : Nat} {A B C : List (List Int)} : HandsD H e p n A B C → HandsD H' e p n A B C := fun ⟨d0, d1, d2, l0, l1, l2, h, h0, h1, h2, t⟩ => ⟨d0, d1, d2, l0, l1, l2, s _ _ h, s _ _ h0, s _ _ h1, s _ _ h2, t⟩
theorem unit_rows {p : Int} {n : Nat} (hp : 2 ≤ p) : ∀ r ∈ unitL n, Row p n r := fun r m => by
  refine ⟨unitL_len r m, fun x hx => ?_⟩
  unfold unitL unitR at m
  obtain ⟨i, _, rfl⟩ := List.mem_map.mp m
  obtain ⟨j, _, rfl⟩ := List.mem_map.mp hx
  split <;> omega
/-! ### _law_worth -/
def spWorth (N : Nat) : Sp := fun vs H Q _ => ∃ (e : Addr) (v : V) (t : Tr) (p : Int) (n : Nat) (A B C : List (List Int)), vs = [.int p, .int (n : Nat), .ref e, v] ∧ IsSh H v t ∧ dep t ≤ N ∧ HandsD H e p n A B C ∧ isP p = true ∧ n ≤ 12 ∧ p ^ n ≤ 1000000 ∧ Rref p n A ∧ Rref p n B ∧ Rref p n C ∧
  ∀ H' d l, Same H H' → H' d = some (.dT (kvsOf l)) → Told p n (valB p n A B C t) l → Q (.ref d) H'
def spWorthL : Nat → Sp
  | 0 => fun _ _ _ _ => False
  | n + 1 => spWorth n
abbrev nWorth : List Str := ["_law_prime", "_law_length_here", "_law_hands", "_law_shape_here", "_law_sign", "_law_one", "_law_other", "_law_k"]
theorem sc_worth : FnScope nWorth ["_law_prime", "_law_length_here", "_law_hands", "_law_shape_here"] (defScope (top jWorth)) := ⟨rfl, rfl, rfl, by decide +kernel, rfl, by decide +kernel, by decide +kernel⟩
theorem ok_worth1 (F : FnP K "_law_worth" jWorth (He.ga K "_law_worth") fd) (T : TX K mg) (N : Nat) (GR : FnOk P w K mg base CX0 (2 + N) (He.ga K "_law_worth") fd ["_law_prime", "_law_length_here", "_law_hands", "_law_shape_here"] (spWorthL N)) :
    FnOk P w K mg base CX0 (3 + N) (He.ga K "_law_worth") fd ["_law_prime", "_law_length_here", "_law_hands", "_law_shape_here"] (spWorth N) := by
  have BR : Binds K fd ["_law_prime", "_law_length_here", "_law_hands", "_law_shape_here"] [] := F.bindsN fun _ _ _ _ _ _ us hl => match us, hl with | [_, _, _, _], _ => rfl
  obtain ⟨_, FS, GS, BS⟩ := g_span2 (P := P) (w := w) (base := base) T
  obtain ⟨_, FU, GU, BU⟩ := g_sum2 (P := P) (w := w) (base := base) T
  obtain ⟨_, FC, GC, BC⟩ := g_cut2 (P := P) (w := w) (base := base) T
  obtain ⟨_, FN, GN, BN⟩ := g_unit2 (P := P) (w := w) (base := base) T
  rw [show 3 + N = (2 + N) + 1 by omega]
  refine F.ok sc_worth (fun vs H Q E h => ?_) (fun cdv A outer s H vs Q E hr h => ?_)
  · obtain ⟨e, v, t, p, n, A, B, C, rfl, _⟩ := h
    rfl
  · obtain ⟨e, v, t, p, n, A', B, C, rfl, ht, hd, hS, hp, hn, hpn, RA, RB, RC, k⟩ := h
    have nd := sc_worth.nd
    have hu := hu_of hr
    have hr1 : Room 1 _ := hr.mono (by omega)
    have hr2 : Room 2 _ := hr.mono (by omega)
    have II := invF_ok hp
    refine ⟨_, PSs.nox (pss_cons (ps_set (i := 4) nd rfl (.inl rfl) (pe_ix ix_tup (pv 3) pe_int (fun _ _ => rfl))) (pss_cons (ps_if (pt_cmp (pc_din hu (pv 4) (pv 2)) rfl) (pss_one (ps_ret (pe_dget hu (pv 2) (pv 4) (fun _ _ => rfl)))) pss_nil) (pss_cons (ps_if (pt_cmpR op_eq (pv 4) pe_str (nomark _)) (pss_one (ps_ret (pe_call GS hr2 (by rfl) (T.df "_law_span" jSpan) FS.kp BS .nil pass0 (pa_cons (pv 0) (pa_cons (pv 1) (pa_cons (pe_lst pa_nil) pa_nil)))))) pss_nil) (pss_cons (ps_if (pt_cmpR op_eq (pv 4) pe_str (nomark _)) (pss_one (ps_ret (pe_call GS hr2 (by rfl) (T.df "_law_span" jSpan) FS.kp BS .nil pass0 (pa_cons (pv 0) (pa_cons (pv 1) (pa_cons (pe_lc (own := [("_law_k", 7)]) (g := gName 7) (by rfl) nd (pi_range1 (by rfl) (T.fr "range") (pa_cons (pv 1) pa_nil)) (blkOk_by (own := [("_law_k", 7)]) (N := nWorth) (sc := defScope (top jWorth)) (by decide +kernel)) (fun _ _ _ _ _ => pg_name (i := 7) nd rfl (Or.inl rfl)) (fun _ _ _ _ _ => pts_nil) (fun _ _ _ _ _ => pe_call GN hr1 (by rfl) (T.df "_law_unit" jUnit) FN.kp BN .nil pass0 (pa_cons (pv 1) (pa_cons (pv 7) pa_nil)))) pa_nil)))))) pss_nil) (pss_cons (ps_par (i := 5) (j := 6) rfl nd rfl rfl (by decide) rfl rfl (pa_cons (pe_call GR hr (by rfl) (T.df "_law_worth" jWorth) F.kp BR .nil pass0 (pa_cons (pv 0) (pa_cons (pv 1) (pa_cons (pv 2) (pa_cons (pe_ix ix_tup (pv 3) pe_int (fun _ _ => rfl)) pa_nil))))) (pa_cons (pe_call GR hr (by rfl) (T.df "_law_worth" jWorth) F.kp BR .nil pass0 (pa_cons (pv 0) (pa_cons (pv 1) (pa_cons (pv 2) (pa_cons (pe_ix ix_tup (pv 3) pe_int (fun _ _ => rfl)) pa_nil))))) pa_nil)) rfl) (pss_one (ps_ret (pe_ifExp (pt_cmpR op_eq (pv 4) pe_str (nomark _)) (pe_call GU hr2 (by rfl) (T.df "_law_sum" jSum) FU.kp BU .nil pass0 (pa_cons (pv 0) (pa_cons (pv 5) (pa_cons (pv 6) pa_nil)))) (pe_call GC hr1 (by rfl) (T.df "_law_cut" jCut) FC.kp BC .nil pass0 (pa_cons (pv 5) (pa_cons (pv 6) pa_nil))))))))))), ?_⟩
    obtain ⟨d0, d1, d2, l0, l1, l2, he, h0, h1, h2, t0, t1, t2⟩ := hS
    cases t with
    | lf c =>
      obtain ⟨hc, a, rfl, ha⟩ := ht
      refine ⟨_, rfl, a, _, 0, _, rfl, rfl, SqT.of ha, rfl, ?_⟩
      rcases leaf5 hc with rfl | rfl | rfl | rfl | rfl
      · refine ⟨_, rfl, _, rfl, e, _, rfl, DGet.k (k := kDk 0) he, _, rfl, ?_⟩
        rw [kD_get 0 (by decide)]
        refine iteT ⟨_, rfl, _, rfl, e, _, rfl, .inl ⟨_, kDk 0, .inl he, rfl, (kD_get 0 (by decide)).symm⟩, ?_⟩
        exact k H d0 l0 (Same.refl _) h0 t0
      · refine ⟨_, rfl, _, rfl, e, _, rfl, DGet.k (k := kDk 1) he, _, rfl, ?_⟩
        rw [kD_get 1 (by decide)]
        refine iteT ⟨_, rfl, _, rfl, e, _, rfl, .inl ⟨_, kDk 1, .inl he, rfl, (kD_get 1 (by decide)).symm⟩, ?_⟩
        exact k H d1 l1 (Same.refl _) h1 t1
      · refine ⟨_, rfl, _, rfl, e, _, rfl, DGet.k (k := kDk 2) he, _, rfl, ?_⟩
        rw [kD_get 2 (by decide)]
        refine iteT ⟨_, rfl, _, rfl, e, _, rfl, .inl ⟨_, kDk 2, .inl he, rfl, (kD_get 2 (by decide)).symm⟩, ?_⟩
        exact k H d2 l2 (Same.refl _) h2 t2
      · refine ⟨_, rfl, _, rfl, e, _, rfl, DGet.k (k := Sum.inr "0") he, _, rfl, iteF ?_⟩
        refine ⟨_, rfl, rfl, _, rfl, iteT ?_⟩
        refine ⟨_, rfl, _, rfl, (by show 0 ≤ sizeLine; decide), fun l hl => ?_⟩
        have s1 := same_new (o := .lst []) hl
        exact ⟨p, n, l, [], [], rfl, upd_same, .nil, (fun _ h => nomatch h), hp, hn, hpn, fun H' e' L s2 _ he' hT => k H' e' L (s1.trans s2) he' hT⟩
      · refine ⟨_, rfl, _, rfl, e, _, rfl, DGet.k (k := Sum.inr "1") he, _, rfl, iteF ?_⟩
        refine ⟨_, rfl, rfl, _, rfl, iteF ?_⟩
        refine ⟨_, rfl, rfl, _, rfl, iteT ?_⟩
        have eN : ((n : Nat) : Int).toNat = n := Int.toNat_natCast n
        refine ⟨_, rfl, _, rfl, _, rfl, n, rfl, by omega, by omega, fun D hD => lc_it (walk_range (lo := 0) (n := ((n : Nat) : Int).toNat)) (fun i H' => Same H H' ∧ ∃ as, H' D = some (.lst (as.map V.ref)) ∧ as.length = i ∧ AreRows H' as ((List.range i).map (unitR n))) ⟨same_new hD, [], upd_same, rfl, .nil⟩ (fun _ _ _ _ => trivial) ?_ ?_⟩
        · rintro i v Ha Hb hi ⟨s1, as, has, hal, har⟩ ⟨rfl, rfl⟩
          rw [eN] at hi
          refine ⟨rfl, yes_if ?_⟩
          refine ⟨_, rfl, _, rfl, n, i, (by show [V.int (n : Nat), V.int (0 + (i : Int))] = _; rw [Int.zero_add]), by omega, fun H3 c s3 hc0 hc => ?_⟩
          have has3 := s3 _ _ has
          refine ⟨as.map V.ref, has3, lt_line (by rw [List.length_map]; omega), Same.grow (s1.trans s3) hD, as ++ [c], by rw [upd_same, List.map_append]; rfl, by rw [List.length_append, List.length_singleton, hal], ?_⟩
          rw [List.range_succ, List.map_append]
          exact ((har.same s3).append (.cons hc .nil)).upd has3
        rintro H1 ⟨s1, as, has, hal, har⟩
        rw [eN] at har
        exact ⟨p, n, D, as, unitL n, rfl, has, har, unit_rows II.two, hp, hn, hpn, fun H' e' L s2 _ he' hT => k H' e' L (s1.trans s2) he' hT⟩
    | nd c l r =>
      obtain ⟨hc, a, u, z, rfl, ha, hl, hr'⟩ := ht
      simp only [dep] at hd
      obtain ⟨m, rfl⟩ : ∃ m, N = m + 1 := ⟨N - 1, by omega⟩
      refine ⟨_, rfl, a, _, 0, _, rfl, rfl, SqT.of ha, rfl, ?_⟩
      have no : ∀ c', c' = 43 ∨ c' = 38 → valV (kD [d0, d1, d2]) (Sum.inr (KX.one c')) = none := fun c' h => by rcases h with rfl | rfl <;> rfl
      refine ⟨_, rfl, _, rfl, e, _, rfl, DGet.k (k := Sum.inr (KX.one c)) he, _, rfl, ?_⟩
      rw [no c (joint_two hc)]
      refine iteF ⟨_, rfl, rfl, _, rfl, ?_⟩
      rw [show decide (V.str (KX.one c) = V.str "0") = false by rcases joint_two hc with rfl | rfl <;> rfl]
      refine iteF ⟨_, rfl, rfl, _, rfl, ?_⟩
      rw [show decide (V.str (KX.one c) = V.str "1") = false by rcases joint_two hc with rfl | rfl <;> rfl]
      refine iteF ?_
      have hS : HandsD H e p n A' B C := ⟨d0, d1, d2, l0, l1, l2, he, h0, h1, h2, t0, t1, t2⟩
      refine ⟨_, rfl, _, rfl, _, rfl, _, rfl, a, _, 1, _, rfl, rfl, SqT.of ha, rfl, e, u, l, p, n, A', B, C, rfl, hl, by omega, hS, hp, hn, hpn, RA, RB, RC, fun H1 e1 m1 s1 he1 T1 => ?_⟩
      refine ⟨_, rfl, _, rfl, _, rfl, _, rfl, a, _, 2, _, rfl, rfl, SqT.of (s1 _ _ ha), rfl, e, z, r, p, n, A', B, C, rfl, hr'.same s1, by omega, hS.same s1, hp, hn, hpn, RA, RB, RC, fun H2 e2 m2 s2 he2 T2 => ?_⟩
      have s12 := s1.trans s2
      have R1 := valB_rref hp RA RB RC l
      have R2 := valB_rref hp RA RB RC r
      refine ⟨_, _, rfl, _, rfl, rfl, ?_⟩
      rcases joint_two hc with rfl | rfl
      · refine ⟨true, by decide, iteT ?_⟩
        exact ⟨_, rfl, _, rfl, _, rfl, p, n, e1, e2, _, _, m1, m2, rfl, s2 _ _ he1, he2, hp, hn, hpn, R1, R2, T1, T2, fun H3 e3 L3 s3 he3 T3 => k H3 e3 _ (s12.trans s3) he3 T3⟩
      · refine ⟨false, by decide, iteF ?_⟩
        exact ⟨_, rfl, _, rfl, e1, e2, m1, m2, rfl, s2 _ _ he1, he2, T1.nd, told_len II R1 T1 hpn, fun H3 e3 s3 _ he3 => k H3 e3 _ (s12.trans s3) he3 (told_both II R1 R2 T1 T2)⟩
theorem ok_worth (F : FnP K "_law_worth" jWorth (He.ga K "_law_worth") fd) (T : TX K mg) : ∀ N, FnOk P w K mg base CX0 (3 + N) (He.ga K "_law_worth") fd ["_law_prime", "_law_length_here", "_law_hands", "_law_shape_here"] (spWorth N) := by
  intro N
  induction N with
  | zero => exact ok_worth1 F T 0 ⟨fun _ _ _ _ h => h.elim, fun _ _ _ _ _ _ _ _ _ _ _ _ _ h => h.elim⟩
  | succ N ih => exact ok_worth1 F T (N + 1) (by rw [show 2 + (N + 1) = 3 + N by omega]; exact ih)
/-! ### _law_sets -/
/-- rows of each hand -/
def RowsD (H : Hp) (e : Addr) (p : Int) (n : Nat) (ra rb rc : List (List Int)) : Prop := ∃ (a b c : Addr) (as bs cs : List Addr), H e = some (.dK (kD [a, b, c])) ∧ H a = some (.lst (as.map V.ref)) ∧ H b = some (.lst (bs.map V.ref)) ∧ H c = some (.lst (cs.map V.ref)) ∧ AreRows H as ra ∧ AreRows H bs rb ∧ AreRows H cs rc ∧ (∀ r ∈ ra, Row p n r) ∧ (∀ r ∈ rb, Row p n r) ∧ (∀ r ∈ rc, Row p n r)
theorem RowsD.same {H H' : Hp} (s : Same H H') {e : Addr} {p : Int} {n : Nat} {ra rb rc : List (List Int)} : RowsD H e p n ra rb rc → RowsD H' e p n ra rb rc := fun ⟨a, b, c, as, bs, cs, h, h1, h2, h3, k1, k2, k3, r⟩ => ⟨a, b, c, as, bs, cs, s _ _ h, s _ _ h1, s _ _ h2, s _ _ h3, k1.same s, k2.same s, k3.same s, r⟩
def spSets2 : Sp := fun vs H Q _ => ∃ (p : Int) (n : Nat) (e : Addr) (ra rb rc : List (List Int)), vs = [.int p, .int (n : Nat), .ref e] ∧ RowsD H e p n ra rb rc ∧ isP p = true ∧ n ≤ 12 ∧ p ^ n ≤ 1000000 ∧
  ∀ H' d, Same H H' → H d = none → HandsD H' d p n (Bs p ra) (Bs p rb) (Bs p rc) → Q (.ref d) H'
abbrev nSets2 : List Str := ["_law_prime", "_law_length_here", "_law_rows_here", "_law_found", "_law_hand"]
theorem sc_sets2 : FnScope nSets2 ["_law_prime", "_law_length_here", "_law_rows_here"] (defScope (top jSets)) := ⟨rfl, rfl, rfl, by decide +kernel, rfl, by decide +kernel, by decide +kernel⟩
theorem g_sets2 (T : TX K mg) : ∃ fd, FnP K "_law_sets" jSets (He.ga K "_law_sets") fd ∧ FnOk P w K mg base CX0 3 (He.ga K "_law_sets") fd ["_law_prime", "_law_length_here", "_law_rows_here"] spSets2 ∧ Binds K fd ["_law_prime", "_law_length_here", "_law_rows_here"] [] := by
  obtain ⟨fd, F⟩ := T.def "_law_sets" jSets
  obtain ⟨_, FS, GS, BS⟩ := g_span2 (P := P) (w := w) (base := base) T
  refine ⟨fd, F, F.ok sc_sets2 (fun vs H Q E h => ?_) (fun cdv A outer s H vs Q E hr h => ?_), F.bindsN fun _ _ _ _ _ _ us hl => match us, hl with | [_, _, _], _ => rfl⟩
  · obtain ⟨p, n, e, ra, rb, rc, rfl, _⟩ := h
    rfl
  · obtain ⟨p, n, e, ra, rb, rc, rfl, hR, hp, hn, hpn, k⟩ := h
    have nd := sc_sets2.nd
    have hu := hu_of hr
    have hr2 : Room 2 _ := hr
    refine ⟨_, PSs.nox (pss_cons (ps_set (i := 3) nd rfl (.inl rfl) pe_dnewK) (pss_cons (ps_for PassesOwn.never rfl (pi_list (pe_lst (pa_cons pe_str (pa_cons pe_str (pa_cons pe_str pa_nil))))) (pg_name (i := 4) nd rfl (.inl rfl)) (pss_one (ps_dput hu (pv 3) (pv 4) (pe_call GS hr2 (by rfl) (T.df "_law_span" jSpan) FS.kp BS .nil pass0 (pa_cons (pv 0) (pa_cons (pv 1) (pa_cons (pe_dget hu (pv 2) (pv 4) (fun _ _ => rfl)) pa_nil)))) rfl))) (pss_one (ps_ret (pv 3))))), ?_⟩
    obtain ⟨a, b, c, as, bs, cs, he, ha, hb, hc, k1, k2, k3, r1, r2, r3⟩ := hR
    refine fun d hd => ?_
    have s0 := same_new (o := .dK []) hd
    have d0 : upd H d (.dK []) d = some (.dK (kD [])) := upd_same
    generalize upd H d (.dK []) = H1 at s0 d0 ⊢
    refine ⟨(by show 3 ≤ sizeLine; decide), fun L hL => ?_⟩
    have s1 := same_new (o := .lst [V.str "a", V.str "b", V.str "c"]) hL
    have lL : upd H1 L (.lst [V.str "a", V.str "b", V.str "c"]) L = some (.lst [V.str "a", V.str "b", V.str "c"]) := upd_same
    have d1 := s1 _ _ d0
    have s01 := s0.trans s1
    generalize upd H1 L (.lst [V.str "a", V.str "b", V.str "c"]) = H2 at s01 lL d1 ⊢
    refine ⟨L, rfl, ⟨_, SqL.of lL⟩, for_list (xs := [V.str "a", V.str "b", V.str "c"]) (fun i σ H' => ∃ (ds : List Addr) (z4 : Option V), σ = [some (.int p), some (.int (n : Nat)), some (.ref e), some (.ref d), z4] ∧ Kept d H2 H' ∧ H' d = some (.dK (kD ds)) ∧ AreTold H' p n ds ([Bs p ra, Bs p rb, Bs p rc].take i) ∧ ds.length = i) ⟨[], none, rfl, Kept.refl, d1, .nil, rfl⟩ (fun i σ H' _ z => let ⟨_, _, _, kp, _⟩ := z; SqL.of (kp _ _ lL (fun q => by rw [q, d1] at lL; cases lL))) ?_ ?_⟩
    · rintro i x σ H3 hx ⟨ds, z4, rfl, kp, hd3, hT, hlen⟩
      have nde : ∀ {c : Addr} {o : HO}, H c = some o → c ≠ d := fun h q => by rw [q, hd] at h; cases h
      have he3 := kp _ _ (s01 _ _ he) (nde he)
      have hi : i < 3 := (List.getElem?_eq_some_iff.mp hx).1
      have key : ∃ (la : Addr) (xs : List Addr) (rs : List (List Int)), H la = some (.lst (xs.map V.ref)) ∧ AreRows H xs rs ∧ (∀ r ∈ rs, Row p n r) ∧ x = kV (kDk i) ∧ valV (kD [a, b, c]) (kDk i) = some (.ref la) ∧ [Bs p ra, Bs p rb, Bs p rc].take (i + 1) = [Bs p ra, Bs p rb, Bs p rc].take i ++ [Bs p rs] := by
        match i, hi, hx with
        | 0, _, hx => exact ⟨a, as, ra, ha, k1, r1, (Option.some.inj hx).symm, rfl, rfl⟩
        | 1, _, hx => exact ⟨b, bs, rb, hb, k2, r2, (Option.some.inj hx).symm, rfl, rfl⟩
        | 2, _, hx => exact ⟨c, cs, rc, hc, k3, r3, (Option.some.inj hx).symm, rfl, rfl⟩
      obtain ⟨la, xs, rs, hla, hxs, hrs, ex, ev, et⟩ := key
      have kx : AreRows H3 xs rs := rows_keptD (hxs.same s01) kp d1
      refine ⟨_, rfl, _, rfl, _, rfl, _, rfl, e, .ref la, rfl, .inl ⟨_, kDk i, .inl he3, ex, ev.symm⟩, p, n, la, xs, rs, rfl, kp _ _ (s01 _ _ hla) (nde hla), kx, hrs, hp, hn, hpn, fun H4 g l s4 hg0 hg hTg => ?_⟩
      have hd4 := s4 _ _ hd3
      refine ⟨_, rfl, _, rfl, d, _, rfl, .inl ⟨kD ds, kDk i, hd4, ex, ?_, rfl⟩, ?_⟩
      · rw [kD_len (by omega)]
        exact lt_line (by omega)
      have gd : g ≠ d := fun q => by rw [q, hd3] at hg0; cases hg0
      refine ⟨ds ++ [g], _, rfl, fun c' o z nn => by rw [upd_ne nn]; exact s4 _ _ (kp _ _ z nn), ?_, ?_, by rw [List.length_append, List.length_singleton, hlen]⟩
      · rw [upd_same, ← hlen, kD_put (by omega)]
      · rw [et]
        exact ((hT.same s4).snoc hg hTg).updD hd4
    · rintro σ H3 ⟨ds, z4, rfl, kp, hd3, hT, hlen⟩
      match ds, hlen, hT, hd3 with
      | [g0, g1, g2], _, .cons h0 t0 (.cons h1 t1 (.cons h2 t2 .nil)), hd3 =>
        refine ⟨_, rfl, k H3 d (fun c' o z => kp _ _ (s01 _ _ z) (ne_of_none z hd)) hd ⟨g0, g1, g2, _, _, _, hd3, h0, h1, h2, t0, t1, t2⟩⟩
end
end KV

set_option Elab.async false
set_option linter.all false
set_option maxRecDepth 100000
set_option maxHeartbeats 4000000
/-! # shapes of the nine numbers, counted -/
namespace KV
open PySem PySem.Spec PyProof.Rows L2 VX RX
section
variable {P : Program} {w : World} {K : PySem.W.Frag} {mg : Str → Option Value} {base : Heap} {f : Addr} {fd : FuncData}
open RX KW
theorem leafSh {H : Hp} {p : Addr} {c : Nat} (hc : leafC c = true) (_hp : H p = none) : IsSh (upd H p (.tup [.str (KX.one c)])) (.ref p) (.lf c) := ⟨hc, p, rfl, upd_same⟩
theorem nodeSh {H : Hp} {p : Addr} {c : Nat} {u z : V} {l r : Tr} (hc : jointC c = true) (hu : IsSh H u l) (hz : IsSh H z r) (hp : H p = none) : IsSh (upd H p (.tup [.str (KX.one c), u, z])) (.ref p) (.nd c l r) :=
  ⟨hc, p, u, z, rfl, upd_same, hu.same (same_new hp), hz.same (same_new hp)⟩
theorem pairSh {H : Hp} {p : Addr} {a b : V} (_hp : H p = none) : upd H p (.tup [a, b]) p = some (.tup [a, b]) := upd_same
theorem tup_keptD {H H' : Hp} {d p : Addr} {ks : List (L2.Key × V)} {xs : List V} (k : Kept d H H') (hd : H d = some (.dK ks)) (h : H p = some (.tup xs)) : H' p = some (.tup xs) := k _ _ h fun e => by rw [e, hd] at h; cases h
theorem IsSh.keptD {H H' : Hp} {d : Addr} {ks : List (L2.Key × V)} : ∀ {t : Tr} {v : V}, IsSh H v t → Kept d H H' → H d = some (.dK ks) → IsSh H' v t
  | .lf c, _, h, k, hd => by
    obtain ⟨j, a, e, h1⟩ := h
    exact ⟨j, a, e, tup_keptD k hd h1⟩
  | .nd c l r, _, h, k, hd => by
    obtain ⟨j, a, u, z, e, h1, h2, h3⟩ := h
    exact ⟨j, a, u, z, e, tup_keptD k hd h1, h2.keptD k hd, h3.keptD k hd⟩
def spShapes : Sp := fun vs H Q _ => vs = [] ∧ ∀ H' d ks, Same H H' → H' d = some (.dK ks) → (∀ i < 9, ∃ t u v, valV ks (Sum.inr (KX.kS (kA i))) = some (.ref t) ∧ H' t = some (.tup [u, v]) ∧ IsSh H' u (outT i) ∧ IsSh H' v (innT i)) → Q (.ref d) H'
abbrev nShapes : List Str := ["_law_a", "_law_b", "_law_c", "_law_three", "_law_found"]
theorem sc_shapes : FnScope nShapes [] (defScope (top jShapes)) := ⟨rfl, rfl, rfl, by decide +kernel, rfl, by decide +kernel, by decide +kernel⟩
theorem g_shapes (T : TX K mg) : ∃ fd, FnP K "_law_shapes" jShapes (He.ga K "_law_shapes") fd ∧ FnOk P w K mg base CX0 1 (He.ga K "_law_shapes") fd [] spShapes ∧ Binds K fd [] [] := by
  obtain ⟨fd, F⟩ := T.def "_law_shapes" jShapes
  refine ⟨fd, F, F.ok sc_shapes (fun vs H Q E h => ?_) (fun cdv A outer s H vs Q E hr h => ?_), F.bindsN fun _ _ _ _ _ _ us hl => match us, hl with | [], _ => rfl⟩
  · obtain ⟨rfl, _⟩ := h
    rfl
  · obtain ⟨rfl, k⟩ := h
    have nd := sc_shapes.nd
    have hu := hu_of hr
    refine ⟨_, PSs.nox (pss_cons (ps_asg (pe_tup (pa_cons (pe_tup (pa_cons pe_str pa_nil)) (pa_cons (pe_tup (pa_cons pe_str pa_nil)) (pa_cons (pe_tup (pa_cons pe_str pa_nil)) pa_nil)))) (pg_tup (by rfl) (pgs_cons (pg_name (i := 0) nd rfl (.inl rfl)) (pgs_cons (pg_name (i := 1) nd rfl (.inl rfl)) (pgs_cons (pg_name (i := 2) nd rfl (.inl rfl)) pgs_nil))))) (pss_cons (ps_set (i := 3) nd rfl (.inl rfl) (pe_tup (pa_cons pe_str (pa_cons (pe_tup (pa_cons pe_str (pa_cons (pv 0) (pa_cons (pv 1) pa_nil)))) (pa_cons (pv 2) pa_nil))))) (pss_cons (ps_set (i := 4) nd rfl (.inl rfl) pe_dnewK) (pss_cons (ps_dput hu (pv 4) (pe_str) (pe_tup (pa_cons (pe_tup (pa_cons pe_str pa_nil)) (pa_cons (pe_tup (pa_cons pe_str (pa_cons (pe_tup (pa_cons pe_str (pa_cons (pv 0) (pa_cons (pv 1) pa_nil)))) (pa_cons (pv 2) pa_nil)))) pa_nil))) rfl) (pss_cons (ps_dput hu (pv 4) (pe_str) (pe_tup (pa_cons (pv 0) (pa_cons (pe_tup (pa_cons pe_str (pa_cons (pv 0) (pa_cons (pe_tup (pa_cons pe_str (pa_cons (pv 1) (pa_cons (pv 2) pa_nil)))) pa_nil)))) pa_nil))) rfl) (pss_cons (ps_dput hu (pv 4) (pe_str) (pe_tup (pa_cons (pv 1) (pa_cons (pe_tup (pa_cons pe_str (pa_cons (pv 1) (pa_cons (pe_tup (pa_cons pe_str (pa_cons (pv 0) (pa_cons (pv 2) pa_nil)))) pa_nil)))) pa_nil))) rfl) (pss_cons (ps_dput hu (pv 4) (pe_str) (pe_tup (pa_cons (pv 2) (pa_cons (pe_tup (pa_cons pe_str (pa_cons (pv 2) (pa_cons (pe_tup (pa_cons pe_str (pa_cons (pv 0) (pa_cons (pv 1) pa_nil)))) pa_nil)))) pa_nil))) rfl) (pss_cons (ps_dput hu (pv 4) (pe_str) (pe_tup (pa_cons (pe_tup (pa_cons pe_str (pa_cons (pv 0) (pa_cons (pv 1) pa_nil)))) (pa_cons (pv 3) pa_nil))) rfl) (pss_cons (ps_dput hu (pv 4) (pe_str) (pe_tup (pa_cons (pe_tup (pa_cons pe_str (pa_cons (pv 0) (pa_cons (pv 2) pa_nil)))) (pa_cons (pv 3) pa_nil))) rfl) (pss_cons (ps_dput hu (pv 4) (pe_str) (pe_tup (pa_cons (pe_tup (pa_cons pe_str (pa_cons (pv 1) (pa_cons (pv 2) pa_nil)))) (pa_cons (pv 3) pa_nil))) rfl) (pss_cons (ps_dput hu (pv 4) (pe_str) (pe_tup (pa_cons (pv 3) (pa_cons (pe_tup (pa_cons pe_str pa_nil)) pa_nil))) rfl) (pss_cons (ps_dput hu (pv 4) (pe_str) (pe_tup (pa_cons (pe_tup (pa_cons pe_str (pa_cons (pv 0) (pa_cons (pe_tup (pa_cons pe_str (pa_cons (pv 1) (pa_cons (pv 2) pa_nil)))) pa_nil)))) (pa_cons (pe_tup (pa_cons pe_str (pa_cons (pe_tup (pa_cons pe_str (pa_cons (pv 0) (pa_cons (pv 1) pa_nil)))) (pa_cons (pe_tup (pa_cons pe_str (pa_cons (pv 0) (pa_cons (pv 2) pa_nil)))) pa_nil)))) pa_nil))) rfl) (pss_one (ps_ret (pv 4))))))))))))))), ?_⟩
    refine ⟨(by show 1 ≤ sizeLine; decide), fun p1 h1 => ?_⟩
    have s1 := same_new (o := .tup [V.str "a"]) h1
    have f1 : IsSh (upd H p1 (.tup [V.str "a"])) (.ref p1) (.lf 97) := leafSh (c := 97) (by decide) h1
    have S := s1
    generalize upd H p1 (.tup [V.str "a"]) = G1 at s1 f1 S ⊢
    refine ⟨(by show 1 ≤ sizeLine; decide), fun p2 h2 => ?_⟩
    have s2 := same_new (o := .tup [V.str "b"]) h2
    have f2 : IsSh (upd G1 p2 (.tup [V.str "b"])) (.ref p2) (.lf 98) := leafSh (c := 98) (by decide) h2
    have S := S.trans s2
    generalize upd G1 p2 (.tup [V.str "b"]) = G2 at s2 f2 S ⊢
    have f1 := f1.same s2
    refine ⟨(by show 1 ≤ sizeLine; decide), fun p3 h3 => ?_⟩
    have s3 := same_new (o := .tup [V.str "c"]) h3
    have f3 : IsSh (upd G2 p3 (.tup [V.str "c"])) (.ref p3) (.lf 99) := leafSh (c := 99) (by decide) h3
    have S := S.trans s3
    generalize upd G2 p3 (.tup [V.str "c"]) = G3 at s3 f3 S ⊢
    have f1 := f1.same s3
    have f2 := f2.same s3
    refine ⟨(by show 3 ≤ sizeLine; decide), fun p4 h4 => ⟨p4, _, rfl, SqT.of upd_same, rfl, _, _, rfl, _, _, rfl, _, _, rfl, rfl, ?_⟩⟩
    have s4 := same_new (o := .tup [V.ref p1, V.ref p2, V.ref p3]) h4
    have S := S.trans s4
    generalize upd G3 p4 (.tup [V.ref p1, V.ref p2, V.ref p3]) = G4 at s4 S ⊢
    have f1 := f1.same s4
    have f2 := f2.same s4
    have f3 := f3.same s4
    refine ⟨_, rfl, _, rfl, (by show 3 ≤ sizeLine; decide), fun p5 h5 => ?_⟩
    have s5 := same_new (o := .tup [V.str "&", V.ref p1, V.ref p2]) h5
    have f5 : IsSh (upd G4 p5 (.tup [V.str "&", V.ref p1, V.ref p2])) (.ref p5) (.nd 38 (.lf 97) (.lf 98)) := nodeSh (c := 38) (by decide) f1 f2 h5
    have S := S.trans s5
    generalize upd G4 p5 (.tup [V.str "&", V.ref p1, V.ref p2]) = G5 at s5 f5 S ⊢
    have f1 := f1.same s5
    have f2 := f2.same s5
    have f3 := f3.same s5
    refine ⟨_, rfl, (by show 3 ≤ sizeLine; decide), fun p6 h6 => ?_⟩
    have s6 := same_new (o := .tup [V.str "&", V.ref p5, V.ref p3]) h6
    have f6 : IsSh (upd G5 p6 (.tup [V.str "&", V.ref p5, V.ref p3])) (.ref p6) (.nd 38 (.nd 38 (.lf 97) (.lf 98)) (.lf 99)) := nodeSh (c := 38) (by decide) f5 f3 h6
    have S := S.trans s6
    generalize upd G5 p6 (.tup [V.str "&", V.ref p5, V.ref p3]) = G6 at s6 f6 S ⊢
    have f1 := f1.same s6
    have f2 := f2.same s6
    have f3 := f3.same s6
    have f5 := f5.same s6
    refine fun dd hd0 => ?_
    have hdd : H dd = none := none_back S hd0
    have sd := same_new (o := .dK []) hd0
    have fd : upd G6 dd (.dK []) dd = some (.dK ([] : List (L2.Key × V))) := upd_same
    have S := S.trans sd
    generalize upd G6 dd (.dK []) = E0 at sd fd S ⊢
    have f1 := f1.same sd
    have f2 := f2.same sd
    have f3 := f3.same sd
    have f5 := f5.same sd
    have f6 := f6.same sd
    refine ⟨(by show 1 ≤ sizeLine; decide), fun p7 h7 => ?_⟩
    have s7 := same_new (o := .tup [V.str "1"]) h7
    have f7 : IsSh (upd E0 p7 (.tup [V.str "1"])) (.ref p7) (.lf 49) := leafSh (c := 49) (by decide) h7
    have S := S.trans s7
    generalize upd E0 p7 (.tup [V.str "1"]) = G7 at s7 f7 S ⊢
    have f1 := f1.same s7
    have f2 := f2.same s7
    have f3 := f3.same s7
    have f5 := f5.same s7
    have f6 := f6.same s7
    have fd := s7 _ _ fd
    refine ⟨_, rfl, _, rfl, (by show 3 ≤ sizeLine; decide), fun p8 h8 => ?_⟩
    have s8 := same_new (o := .tup [V.str "+", V.ref p1, V.ref p2]) h8
    have f8 : IsSh (upd G7 p8 (.tup [V.str "+", V.ref p1, V.ref p2])) (.ref p8) (.nd 43 (.lf 97) (.lf 98)) := nodeSh (c := 43) (by decide) f1 f2 h8
    have S := S.trans s8
    generalize upd G7 p8 (.tup [V.str "+", V.ref p1, V.ref p2]) = G8 at s8 f8 S ⊢
    have f1 := f1.same s8
    have f2 := f2.same s8
    have f3 := f3.same s8
    have f5 := f5.same s8
    have f6 := f6.same s8
    have fd := s8 _ _ fd
    have f7 := f7.same s8
    refine ⟨_, rfl, (by show 3 ≤ sizeLine; decide), fun p9 h9 => ?_⟩
    have s9 := same_new (o := .tup [V.str "+", V.ref p8, V.ref p3]) h9
    have f9 : IsSh (upd G8 p9 (.tup [V.str "+", V.ref p8, V.ref p3])) (.ref p9) (.nd 43 (.nd 43 (.lf 97) (.lf 98)) (.lf 99)) := nodeSh (c := 43) (by decide) f8 f3 h9
    have S := S.trans s9
    generalize upd G8 p9 (.tup [V.str "+", V.ref p8, V.ref p3]) = G9 at s9 f9 S ⊢
    have f1 := f1.same s9
    have f2 := f2.same s9
    have f3 := f3.same s9
    have f5 := f5.same s9
    have f6 := f6.same s9
    have fd := s9 _ _ fd
    have f7 := f7.same s9
    have f8 := f8.same s9
    refine ⟨(by show 2 ≤ sizeLine; decide), fun p10 h10 => ?_⟩
    have s10 := same_new (o := .tup [V.ref p7, V.ref p9]) h10
    have f10 : (upd G9 p10 (.tup [V.ref p7, V.ref p9])) p10 = some (.tup [V.ref p7, V.ref p9]) := pairSh h10 (a := V.ref p7) (b := V.ref p9)
    have S := S.trans s10
    generalize upd G9 p10 (.tup [V.ref p7, V.ref p9]) = G10 at s10 f10 S ⊢
    have f1 := f1.same s10
    have f2 := f2.same s10
    have f3 := f3.same s10
    have f5 := f5.same s10
    have f6 := f6.same s10
    have fd := s10 _ _ fd
    have f7 := f7.same s10
    have f8 := f8.same s10
    have f9 := f9.same s10
    refine ⟨_, rfl, dd, _, rfl, DPut.k (k := Sum.inr "") fd (lt_line (by show 0 ≤ 100000; decide)), ?_⟩
    have ud : Kept dd G10 (upd G10 dd (.dK (putK ([] : List (L2.Key × V)) (Sum.inr "") (.ref p10)))) := fun c o z nn => by rw [upd_ne nn]; exact z
    have fd2 : upd G10 dd (.dK (putK ([] : List (L2.Key × V)) (Sum.inr "") (.ref p10))) dd = some (.dK [(Sum.inr "", V.ref p10)]) := upd_same
    have S : Same H (upd G10 dd (.dK (putK ([] : List (L2.Key × V)) (Sum.inr "") (.ref p10)))) := fun c o z => by rw [upd_ne (ne_of_none z hdd)]; exact S _ _ z
    generalize upd G10 dd (.dK (putK ([] : List (L2.Key × V)) (Sum.inr "") (.ref p10))) = E1 at ud fd2 S ⊢
    have f1 := f1.keptD ud fd
    have f2 := f2.keptD ud fd
    have f3 := f3.keptD ud fd
    have f5 := f5.keptD ud fd
    have f6 := f6.keptD ud fd
    have f7 := f7.keptD ud fd
    have f8 := f8.keptD ud fd
    have f9 := f9.keptD ud fd
    have f10 := tup_keptD ud fd f10
    have fd := fd2
    clear fd2
    refine ⟨_, rfl, _, rfl, _, rfl, _, rfl, (by show 3 ≤ sizeLine; decide), fun p11 h11 => ?_⟩
    have s11 := same_new (o := .tup [V.str "+", V.ref p2, V.ref p3]) h11
    have f11 : IsSh (upd E1 p11 (.tup [V.str "+", V.ref p2, V.ref p3])) (.ref p11) (.nd 43 (.lf 98) (.lf 99)) := nodeSh (c := 43) (by decide) f2 f3 h11
    have S := S.trans s11
    generalize upd E1 p11 (.tup [V.str "+", V.ref p2, V.ref p3]) = G11 at s11 f11 S ⊢
    have f1 := f1.same s11
    have f2 := f2.same s11
    have f3 := f3.same s11
    have f5 := f5.same s11
    have f6 := f6.same s11
    have fd := s11 _ _ fd
    have f7 := f7.same s11
    have f8 := f8.same s11
    have f9 := f9.same s11
    have f10 := s11 _ _ f10
    refine ⟨(by show 3 ≤ sizeLine; decide), fun p12 h12 => ?_⟩
    have s12 := same_new (o := .tup [V.str "&", V.ref p1, V.ref p11]) h12
    have f12 : IsSh (upd G11 p12 (.tup [V.str "&", V.ref p1, V.ref p11])) (.ref p12) (.nd 38 (.lf 97) (.nd 43 (.lf 98) (.lf 99))) := nodeSh (c := 38) (by decide) f1 f11 h12
    have S := S.trans s12
    generalize upd G11 p12 (.tup [V.str "&", V.ref p1, V.ref p11]) = G12 at s12 f12 S ⊢
    have f1 := f1.same s12
    have f2 := f2.same s12
    have f3 := f3.same s12
    have f5 := f5.same s12
    have f6 := f6.same s12
    have fd := s12 _ _ fd
    have f7 := f7.same s12
    have f8 := f8.same s12
    have f9 := f9.same s12
    have f10 := s12 _ _ f10
    have f11 := f11.same s12
    refine ⟨(by show 2 ≤ sizeLine; decide), fun p13 h13 => ?_⟩
    have s13 := same_new (o := .tup [V.ref p1, V.ref p12]) h13
    have f13 : (upd G12 p13 (.tup [V.ref p1, V.ref p12])) p13 = some (.tup [V.ref p1, V.ref p12]) := pairSh h13 (a := V.ref p1) (b := V.ref p12)
    have S := S.trans s13
    generalize upd G12 p13 (.tup [V.ref p1, V.ref p12]) = G13 at s13 f13 S ⊢
    have f1 := f1.same s13
    have f2 := f2.same s13
    have f3 := f3.same s13
    have f5 := f5.same s13
    have f6 := f6.same s13
    have fd := s13 _ _ fd
    have f7 := f7.same s13
    have f8 := f8.same s13
    have f9 := f9.same s13
    have f10 := s13 _ _ f10
    have f11 := f11.same s13
    have f12 := f12.same s13
    refine ⟨_, rfl, dd, _, rfl, DPut.k (k := Sum.inr "a") fd (lt_line (by show 1 ≤ 100000; decide)), ?_⟩
    have ud : Kept dd G13 (upd G13 dd (.dK (putK ([(Sum.inr "", V.ref p10)] : List (L2.Key × V)) (Sum.inr "a") (.ref p13)))) := fun c o z nn => by rw [upd_ne nn]; exact z
    have fd2 : upd G13 dd (.dK (putK ([(Sum.inr "", V.ref p10)] : List (L2.Key × V)) (Sum.inr "a") (.ref p13))) dd = some (.dK [(Sum.inr "", V.ref p10), (Sum.inr "a", V.ref p13)]) := upd_same
    have S : Same H (upd G13 dd (.dK (putK ([(Sum.inr "", V.ref p10)] : List (L2.Key × V)) (Sum.inr "a") (.ref p13)))) := fun c o z => by rw [upd_ne (ne_of_none z hdd)]; exact S _ _ z
    generalize upd G13 dd (.dK (putK ([(Sum.inr "", V.ref p10)] : List (L2.Key × V)) (Sum.inr "a") (.ref p13))) = E2 at ud fd2 S ⊢
    have f1 := f1.keptD ud fd
    have f2 := f2.keptD ud fd
    have f3 := f3.keptD ud fd
    have f5 := f5.keptD ud fd
    have f6 := f6.keptD ud fd
    have f7 := f7.keptD ud fd
    have f8 := f8.keptD ud fd
    have f9 := f9.keptD ud fd
    have f10 := tup_keptD ud fd f10
    have f11 := f11.keptD ud fd
    have f12 := f12.keptD ud fd
    have f13 := tup_keptD ud fd f13
    have fd := fd2
    clear fd2
    refine ⟨_, rfl, _, rfl, _, rfl, _, rfl, (by show 3 ≤ sizeLine; decide), fun p14 h14 => ?_⟩
    have s14 := same_new (o := .tup [V.str "+", V.ref p1, V.ref p3]) h14
    have f14 : IsSh (upd E2 p14 (.tup [V.str "+", V.ref p1, V.ref p3])) (.ref p14) (.nd 43 (.lf 97) (.lf 99)) := nodeSh (c := 43) (by decide) f1 f3 h14
    have S := S.trans s14
    generalize upd E2 p14 (.tup [V.str "+", V.ref p1, V.ref p3]) = G14 at s14 f14 S ⊢
    have f1 := f1.same s14
    have f2 := f2.same s14
    have f3 := f3.same s14
    have f5 := f5.same s14
    have f6 := f6.same s14
    have fd := s14 _ _ fd
    have f7 := f7.same s14
    have f8 := f8.same s14
    have f9 := f9.same s14
    have f10 := s14 _ _ f10
    have f11 := f11.same s14
    have f12 := f12.same s14
    have f13 := s14 _ _ f13
    refine ⟨(by show 3 ≤ sizeLine; decide), fun p15 h15 => ?_⟩
    have s15 := same_new (o := .tup [V.str "&", V.ref p2, V.ref p14]) h15
    have f15 : IsSh (upd G14 p15 (.tup [V.str "&", V.ref p2, V.ref p14])) (.ref p15) (.nd 38 (.lf 98) (.nd 43 (.lf 97) (.lf 99))) := nodeSh (c := 38) (by decide) f2 f14 h15
    have S := S.trans s15
    generalize upd G14 p15 (.tup [V.str "&", V.ref p2, V.ref p14]) = G15 at s15 f15 S ⊢
    have f1 := f1.same s15
    have f2 := f2.same s15
    have f3 := f3.same s15
    have f5 := f5.same s15
    have f6 := f6.same s15
    have fd := s15 _ _ fd
    have f7 := f7.same s15
    have f8 := f8.same s15
    have f9 := f9.same s15
    have f10 := s15 _ _ f10
    have f11 := f11.same s15
    have f12 := f12.same s15
    have f13 := s15 _ _ f13
    have f14 := f14.same s15
    refine ⟨(by show 2 ≤ sizeLine; decide), fun p16 h16 => ?_⟩
    have s16 := same_new (o := .tup [V.ref p2, V.ref p15]) h16
    have f16 : (upd G15 p16 (.tup [V.ref p2, V.ref p15])) p16 = some (.tup [V.ref p2, V.ref p15]) := pairSh h16 (a := V.ref p2) (b := V.ref p15)
    have S := S.trans s16
    generalize upd G15 p16 (.tup [V.ref p2, V.ref p15]) = G16 at s16 f16 S ⊢
    have f1 := f1.same s16
    have f2 := f2.same s16
    have f3 := f3.same s16
    have f5 := f5.same s16
    have f6 := f6.same s16
    have fd := s16 _ _ fd
    have f7 := f7.same s16
    have f8 := f8.same s16
    have f9 := f9.same s16
    have f10 := s16 _ _ f10
    have f11 := f11.same s16
    have f12 := f12.same s16
    have f13 := s16 _ _ f13
    have f14 := f14.same s16
    have f15 := f15.same s16
    refine ⟨_, rfl, dd, _, rfl, DPut.k (k := Sum.inr "b") fd (lt_line (by show 2 ≤ 100000; decide)), ?_⟩
    have ud : Kept dd G16 (upd G16 dd (.dK (putK ([(Sum.inr "", V.ref p10), (Sum.inr "a", V.ref p13)] : List (L2.Key × V)) (Sum.inr "b") (.ref p16)))) := fun c o z nn => by rw [upd_ne nn]; exact z
    have fd2 : upd G16 dd (.dK (putK ([(Sum.inr "", V.ref p10), (Sum.inr "a", V.ref p13)] : List (L2.Key × V)) (Sum.inr "b") (.ref p16))) dd = some (.dK [(Sum.inr "", V.ref p10), (Sum.inr "a", V.ref p13), (Sum.inr "b", V.ref p16)]) := upd_same
    have S : Same H (upd G16 dd (.dK (putK ([(Sum.inr "", V.ref p10), (Sum.inr "a", V.ref p13)] : List (L2.Key × V)) (Sum.inr "b") (.ref p16)))) := fun c o z => by rw [upd_ne (ne_of_none z hdd)]; exact S _ _ z
    generalize upd G16 dd (.dK (putK ([(Sum.inr "", V.ref p10), (Sum.inr "a", V.ref p13)] : List (L2.Key × V)) (Sum.inr "b") (.ref p16))) = E3 at ud fd2 S ⊢
    have f1 := f1.keptD ud fd
    have f2 := f2.keptD ud fd
    have f3 := f3.keptD ud fd
    have f5 := f5.keptD ud fd
    have f6 := f6.keptD ud fd
    have f7 := f7.keptD ud fd
    have f8 := f8.keptD ud fd
    have f9 := f9.keptD ud fd
    have f10 := tup_keptD ud fd f10
    have f11 := f11.keptD ud fd
    have f12 := f12.keptD ud fd
    have f13 := tup_keptD ud fd f13
    have f14 := f14.keptD ud fd
    have f15 := f15.keptD ud fd
    have f16 := tup_keptD ud fd f16
    have fd := fd2
    clear fd2
    refine ⟨_, rfl, _, rfl, _, rfl, _, rfl, (by show 3 ≤ sizeLine; decide), fun p17 h17 => ?_⟩
    have s17 := same_new (o := .tup [V.str "+", V.ref p1, V.ref p2]) h17
    have f17 : IsSh (upd E3 p17 (.tup [V.str "+", V.ref p1, V.ref p2])) (.ref p17) (.nd 43 (.lf 97) (.lf 98)) := nodeSh (c := 43) (by decide) f1 f2 h17
    have S := S.trans s17
    generalize upd E3 p17 (.tup [V.str "+", V.ref p1, V.ref p2]) = G17 at s17 f17 S ⊢
    have f1 := f1.same s17
    have f2 := f2.same s17
    have f3 := f3.same s17
    have f5 := f5.same s17
    have f6 := f6.same s17
    have fd := s17 _ _ fd
    have f7 := f7.same s17
    have f8 := f8.same s17
    have f9 := f9.same s17
    have f10 := s17 _ _ f10
    have f11 := f11.same s17
    have f12 := f12.same s17
    have f13 := s17 _ _ f13
    have f14 := f14.same s17
    have f15 := f15.same s17
    have f16 := s17 _ _ f16
    refine ⟨(by show 3 ≤ sizeLine; decide), fun p18 h18 => ?_⟩
    have s18 := same_new (o := .tup [V.str "&", V.ref p3, V.ref p17]) h18
    have f18 : IsSh (upd G17 p18 (.tup [V.str "&", V.ref p3, V.ref p17])) (.ref p18) (.nd 38 (.lf 99) (.nd 43 (.lf 97) (.lf 98))) := nodeSh (c := 38) (by decide) f3 f17 h18
    have S := S.trans s18
    generalize upd G17 p18 (.tup [V.str "&", V.ref p3, V.ref p17]) = G18 at s18 f18 S ⊢
    have f1 := f1.same s18
    have f2 := f2.same s18
    have f3 := f3.same s18
    have f5 := f5.same s18
    have f6 := f6.same s18
    have fd := s18 _ _ fd
    have f7 := f7.same s18
    have f8 := f8.same s18
    have f9 := f9.same s18
    have f10 := s18 _ _ f10
    have f11 := f11.same s18
    have f12 := f12.same s18
    have f13 := s18 _ _ f13
    have f14 := f14.same s18
    have f15 := f15.same s18
    have f16 := s18 _ _ f16
    have f17 := f17.same s18
    refine ⟨(by show 2 ≤ sizeLine; decide), fun p19 h19 => ?_⟩
    have s19 := same_new (o := .tup [V.ref p3, V.ref p18]) h19
    have f19 : (upd G18 p19 (.tup [V.ref p3, V.ref p18])) p19 = some (.tup [V.ref p3, V.ref p18]) := pairSh h19 (a := V.ref p3) (b := V.ref p18)
    have S := S.trans s19
    generalize upd G18 p19 (.tup [V.ref p3, V.ref p18]) = G19 at s19 f19 S ⊢
    have f1 := f1.same s19
    have f2 := f2.same s19
    have f3 := f3.same s19
    have f5 := f5.same s19
    have f6 := f6.same s19
    have fd := s19 _ _ fd
    have f7 := f7.same s19
    have f8 := f8.same s19
    have f9 := f9.same s19
    have f10 := s19 _ _ f10
    have f11 := f11.same s19
    have f12 := f12.same s19
    have f13 := s19 _ _ f13
    have f14 := f14.same s19
    have f15 := f15.same s19
    have f16 := s19 _ _ f16
    have f17 := f17.same s19
    have f18 := f18.same s19
    refine ⟨_, rfl, dd, _, rfl, DPut.k (k := Sum.inr "c") fd (lt_line (by show 3 ≤ 100000; decide)), ?_⟩
    have ud : Kept dd G19 (upd G19 dd (.dK (putK ([(Sum.inr "", V.ref p10), (Sum.inr "a", V.ref p13), (Sum.inr "b", V.ref p16)] : List (L2.Key × V)) (Sum.inr "c") (.ref p19)))) := fun c o z nn => by rw [upd_ne nn]; exact z
    have fd2 : upd G19 dd (.dK (putK ([(Sum.inr "", V.ref p10), (Sum.inr "a", V.ref p13), (Sum.inr "b", V.ref p16)] : List (L2.Key × V)) (Sum.inr "c") (.ref p19))) dd = some (.dK [(Sum.inr "", V.ref p10), (Sum.inr "a", V.ref p13), (Sum.inr "b", V.ref p16), (Sum.inr "c", V.ref p19)]) := upd_same
    have S : Same H (upd G19 dd (.dK (putK ([(Sum.inr "", V.ref p10), (Sum.inr "a", V.ref p13), (Sum.inr "b", V.ref p16)] : List (L2.Key × V)) (Sum.inr "c") (.ref p19)))) := fun c o z => by rw [upd_ne (ne_of_none z hdd)]; exact S _ _ z
    generalize upd G19 dd (.dK (putK ([(Sum.inr "", V.ref p10), (Sum.inr "a", V.ref p13), (Sum.inr "b", V.ref p16)] : List (L2.Key × V)) (Sum.inr "c") (.ref p19))) = E4 at ud fd2 S ⊢
    have f1 := f1.keptD ud fd
    have f2 := f2.keptD ud fd
    have f3 := f3.keptD ud fd
    have f5 := f5.keptD ud fd
    have f6 := f6.keptD ud fd
    have f7 := f7.keptD ud fd
    have f8 := f8.keptD ud fd
    have f9 := f9.keptD ud fd
    have f10 := tup_keptD ud fd f10
    have f11 := f11.keptD ud fd
    have f12 := f12.keptD ud fd
    have f13 := tup_keptD ud fd f13
    have f14 := f14.keptD ud fd
    have f15 := f15.keptD ud fd
    have f16 := tup_keptD ud fd f16
    have f17 := f17.keptD ud fd
    have f18 := f18.keptD ud fd
    have f19 := tup_keptD ud fd f19
    have fd := fd2
    clear fd2
    refine ⟨_, rfl, _, rfl, (by show 3 ≤ sizeLine; decide), fun p20 h20 => ?_⟩
    have s20 := same_new (o := .tup [V.str "&", V.ref p1, V.ref p2]) h20
    have f20 : IsSh (upd E4 p20 (.tup [V.str "&", V.ref p1, V.ref p2])) (.ref p20) (.nd 38 (.lf 97) (.lf 98)) := nodeSh (c := 38) (by decide) f1 f2 h20
    have S := S.trans s20
    generalize upd E4 p20 (.tup [V.str "&", V.ref p1, V.ref p2]) = G20 at s20 f20 S ⊢
    have f1 := f1.same s20
    have f2 := f2.same s20
    have f3 := f3.same s20
    have f5 := f5.same s20
    have f6 := f6.same s20
    have fd := s20 _ _ fd
    have f7 := f7.same s20
    have f8 := f8.same s20
    have f9 := f9.same s20
    have f10 := s20 _ _ f10
    have f11 := f11.same s20
    have f12 := f12.same s20
    have f13 := s20 _ _ f13
    have f14 := f14.same s20
    have f15 := f15.same s20
    have f16 := s20 _ _ f16
    have f17 := f17.same s20
    have f18 := f18.same s20
    have f19 := s20 _ _ f19
    refine ⟨_, rfl, (by show 2 ≤ sizeLine; decide), fun p21 h21 => ?_⟩
    have s21 := same_new (o := .tup [V.ref p20, V.ref p6]) h21
    have f21 : (upd G20 p21 (.tup [V.ref p20, V.ref p6])) p21 = some (.tup [V.ref p20, V.ref p6]) := pairSh h21 (a := V.ref p20) (b := V.ref p6)
    have S := S.trans s21
    generalize upd G20 p21 (.tup [V.ref p20, V.ref p6]) = G21 at s21 f21 S ⊢
    have f1 := f1.same s21
    have f2 := f2.same s21
    have f3 := f3.same s21
    have f5 := f5.same s21
    have f6 := f6.same s21
    have fd := s21 _ _ fd
    have f7 := f7.same s21
    have f8 := f8.same s21
    have f9 := f9.same s21
    have f10 := s21 _ _ f10
    have f11 := f11.same s21
    have f12 := f12.same s21
    have f13 := s21 _ _ f13
    have f14 := f14.same s21
    have f15 := f15.same s21
    have f16 := s21 _ _ f16
    have f17 := f17.same s21
    have f18 := f18.same s21
    have f19 := s21 _ _ f19
    have f20 := f20.same s21
    refine ⟨_, rfl, dd, _, rfl, DPut.k (k := Sum.inr "ab") fd (lt_line (by show 4 ≤ 100000; decide)), ?_⟩
    have ud : Kept dd G21 (upd G21 dd (.dK (putK ([(Sum.inr "", V.ref p10), (Sum.inr "a", V.ref p13), (Sum.inr "b", V.ref p16), (Sum.inr "c", V.ref p19)] : List (L2.Key × V)) (Sum.inr "ab") (.ref p21)))) := fun c o z nn => by rw [upd_ne nn]; exact z
    have fd2 : upd G21 dd (.dK (putK ([(Sum.inr "", V.ref p10), (Sum.inr "a", V.ref p13), (Sum.inr "b", V.ref p16), (Sum.inr "c", V.ref p19)] : List (L2.Key × V)) (Sum.inr "ab") (.ref p21))) dd = some (.dK [(Sum.inr "", V.ref p10), (Sum.inr "a", V.ref p13), (Sum.inr "b", V.ref p16), (Sum.inr "c", V.ref p19), (Sum.inr "ab", V.ref p21)]) := upd_same
    have S : Same H (upd G21 dd (.dK (putK ([(Sum.inr "", V.ref p10), (Sum.inr "a", V.ref p13), (Sum.inr "b", V.ref p16), (Sum.inr "c", V.ref p19)] : List (L2.Key × V)) (Sum.inr "ab") (.ref p21)))) := fun c o z => by rw [upd_ne (ne_of_none z hdd)]; exact S _ _ z
    generalize upd G21 dd (.dK (putK ([(Sum.inr "", V.ref p10), (Sum.inr "a", V.ref p13), (Sum.inr "b", V.ref p16), (Sum.inr "c", V.ref p19)] : List (L2.Key × V)) (Sum.inr "ab") (.ref p21))) = E5 at ud fd2 S ⊢
    have f1 := f1.keptD ud fd
    have f2 := f2.keptD ud fd
    have f3 := f3.keptD ud fd
    have f5 := f5.keptD ud fd
    have f6 := f6.keptD ud fd
    have f7 := f7.keptD ud fd
    have f8 := f8.keptD ud fd
    have f9 := f9.keptD ud fd
    have f10 := tup_keptD ud fd f10
    have f11 := f11.keptD ud fd
    have f12 := f12.keptD ud fd
    have f13 := tup_keptD ud fd f13
    have f14 := f14.keptD ud fd
    have f15 := f15.keptD ud fd
    have f16 := tup_keptD ud fd f16
    have f17 := f17.keptD ud fd
    have f18 := f18.keptD ud fd
    have f19 := tup_keptD ud fd f19
    have f20 := f20.keptD ud fd
    have f21 := tup_keptD ud fd f21
    have fd := fd2
    clear fd2
    refine ⟨_, rfl, _, rfl, (by show 3 ≤ sizeLine; decide), fun p22 h22 => ?_⟩
    have s22 := same_new (o := .tup [V.str "&", V.ref p1, V.ref p3]) h22
    have f22 : IsSh (upd E5 p22 (.tup [V.str "&", V.ref p1, V.ref p3])) (.ref p22) (.nd 38 (.lf 97) (.lf 99)) := nodeSh (c := 38) (by decide) f1 f3 h22
    have S := S.trans s22
    generalize upd E5 p22 (.tup [V.str "&", V.ref p1, V.ref p3]) = G22 at s22 f22 S ⊢
    have f1 := f1.same s22
    have f2 := f2.same s22
    have f3 := f3.same s22
    have f5 := f5.same s22
    have f6 := f6.same s22
    have fd := s22 _ _ fd
    have f7 := f7.same s22
    have f8 := f8.same s22
    have f9 := f9.same s22
    have f10 := s22 _ _ f10
    have f11 := f11.same s22
    have f12 := f12.same s22
    have f13 := s22 _ _ f13
    have f14 := f14.same s22
    have f15 := f15.same s22
    have f16 := s22 _ _ f16
    have f17 := f17.same s22
    have f18 := f18.same s22
    have f19 := s22 _ _ f19
    have f20 := f20.same s22
    have f21 := s22 _ _ f21
    refine ⟨_, rfl, (by show 2 ≤ sizeLine; decide), fun p23 h23 => ?_⟩
    have s23 := same_new (o := .tup [V.ref p22, V.ref p6]) h23
    have f23 : (upd G22 p23 (.tup [V.ref p22, V.ref p6])) p23 = some (.tup [V.ref p22, V.ref p6]) := pairSh h23 (a := V.ref p22) (b := V.ref p6)
    have S := S.trans s23
    generalize upd G22 p23 (.tup [V.ref p22, V.ref p6]) = G23 at s23 f23 S ⊢
    have f1 := f1.same s23
    have f2 := f2.same s23
    have f3 := f3.same s23
    have f5 := f5.same s23
    have f6 := f6.same s23
    have fd := s23 _ _ fd
    have f7 := f7.same s23
    have f8 := f8.same s23
    have f9 := f9.same s23
    have f10 := s23 _ _ f10
    have f11 := f11.same s23
    have f12 := f12.same s23
    have f13 := s23 _ _ f13
    have f14 := f14.same s23
    have f15 := f15.same s23
    have f16 := s23 _ _ f16
    have f17 := f17.same s23
    have f18 := f18.same s23
    have f19 := s23 _ _ f19
    have f20 := f20.same s23
    have f21 := s23 _ _ f21
    have f22 := f22.same s23
    refine ⟨_, rfl, dd, _, rfl, DPut.k (k := Sum.inr "ac") fd (lt_line (by show 5 ≤ 100000; decide)), ?_⟩
    have ud : Kept dd G23 (upd G23 dd (.dK (putK ([(Sum.inr "", V.ref p10), (Sum.inr "a", V.ref p13), (Sum.inr "b", V.ref p16), (Sum.inr "c", V.ref p19), (Sum.inr "ab", V.ref p21)] : List (L2.Key × V)) (Sum.inr "ac") (.ref p23)))) := fun c o z nn => by rw [upd_ne nn]; exact z
    have fd2 : upd G23 dd (.dK (putK ([(Sum.inr "", V.ref p10), (Sum.inr "a", V.ref p13), (Sum.inr "b", V.ref p16), (Sum.inr "c", V.ref p19), (Sum.inr "ab", V.ref p21)] : List (L2.Key × V)) (Sum.inr "ac") (.ref p23))) dd = some (.dK [(Sum.inr "", V.ref p10), (Sum.inr "a", V.ref p13), (Sum.inr "b", V.ref p16), (Sum.inr "c", V.ref p19), (Sum.inr "ab", V.ref p21), (Sum.inr "ac", V.ref p23)]) := upd_same
    have S : Same H (upd G23 dd (.dK (putK ([(Sum.inr "", V.ref p10), (Sum.inr "a", V.ref p13), (Sum.inr "b", V.ref p16), (Sum.inr "c", V.ref p19), (Sum.inr "ab", V.ref p21)] : List (L2.Key × V)) (Sum.inr "ac") (.ref p23)))) := fun c o z => by rw [upd_ne (ne_of_none z hdd)]; exact S _ _ z
    generalize upd G23 dd (.dK (putK ([(Sum.inr "", V.ref p10), (Sum.inr "a", V.ref p13), (Sum.inr "b", V.ref p16), (Sum.inr "c", V.ref p19), (Sum.inr "ab", V.ref p21)] : List (L2.Key × V)) (Sum.inr "ac") (.ref p23))) = E6 at ud fd2 S ⊢
    have f1 := f1.keptD ud fd
    have f2 := f2.keptD ud fd
    have f3 := f3.keptD ud fd
    have f5 := f5.keptD ud fd
    have f6 := f6.keptD ud fd
    have f7 := f7.keptD ud fd
    have f8 := f8.keptD ud fd
    have f9 := f9.keptD ud fd
    have f10 := tup_keptD ud fd f10
    have f11 := f11.keptD ud fd
    have f12 := f12.keptD ud fd
    have f13 := tup_keptD ud fd f13
    have f14 := f14.keptD ud fd
    have f15 := f15.keptD ud fd
    have f16 := tup_keptD ud fd f16
    have f17 := f17.keptD ud fd
    have f18 := f18.keptD ud fd
    have f19 := tup_keptD ud fd f19
    have f20 := f20.keptD ud fd
    have f21 := tup_keptD ud fd f21
    have f22 := f22.keptD ud fd
    have f23 := tup_keptD ud fd f23
    have fd := fd2
    clear fd2
    refine ⟨_, rfl, _, rfl, (by show 3 ≤ sizeLine; decide), fun p24 h24 => ?_⟩
    have s24 := same_new (o := .tup [V.str "&", V.ref p2, V.ref p3]) h24
    have f24 : IsSh (upd E6 p24 (.tup [V.str "&", V.ref p2, V.ref p3])) (.ref p24) (.nd 38 (.lf 98) (.lf 99)) := nodeSh (c := 38) (by decide) f2 f3 h24
    have S := S.trans s24
    generalize upd E6 p24 (.tup [V.str "&", V.ref p2, V.ref p3]) = G24 at s24 f24 S ⊢
    have f1 := f1.same s24
    have f2 := f2.same s24
    have f3 := f3.same s24
    have f5 := f5.same s24
    have f6 := f6.same s24
    have fd := s24 _ _ fd
    have f7 := f7.same s24
    have f8 := f8.same s24
    have f9 := f9.same s24
    have f10 := s24 _ _ f10
    have f11 := f11.same s24
    have f12 := f12.same s24
    have f13 := s24 _ _ f13
    have f14 := f14.same s24
    have f15 := f15.same s24
    have f16 := s24 _ _ f16
    have f17 := f17.same s24
    have f18 := f18.same s24
    have f19 := s24 _ _ f19
    have f20 := f20.same s24
    have f21 := s24 _ _ f21
    have f22 := f22.same s24
    have f23 := s24 _ _ f23
    refine ⟨_, rfl, (by show 2 ≤ sizeLine; decide), fun p25 h25 => ?_⟩
    have s25 := same_new (o := .tup [V.ref p24, V.ref p6]) h25
    have f25 : (upd G24 p25 (.tup [V.ref p24, V.ref p6])) p25 = some (.tup [V.ref p24, V.ref p6]) := pairSh h25 (a := V.ref p24) (b := V.ref p6)
    have S := S.trans s25
    generalize upd G24 p25 (.tup [V.ref p24, V.ref p6]) = G25 at s25 f25 S ⊢
    have f1 := f1.same s25
    have f2 := f2.same s25
    have f3 := f3.same s25
    have f5 := f5.same s25
    have f6 := f6.same s25
    have fd := s25 _ _ fd
    have f7 := f7.same s25
    have f8 := f8.same s25
    have f9 := f9.same s25
    have f10 := s25 _ _ f10
    have f11 := f11.same s25
    have f12 := f12.same s25
    have f13 := s25 _ _ f13
    have f14 := f14.same s25
    have f15 := f15.same s25
    have f16 := s25 _ _ f16
    have f17 := f17.same s25
    have f18 := f18.same s25
    have f19 := s25 _ _ f19
    have f20 := f20.same s25
    have f21 := s25 _ _ f21
    have f22 := f22.same s25
    have f23 := s25 _ _ f23
    have f24 := f24.same s25
    refine ⟨_, rfl, dd, _, rfl, DPut.k (k := Sum.inr "bc") fd (lt_line (by show 6 ≤ 100000; decide)), ?_⟩
    have ud : Kept dd G25 (upd G25 dd (.dK (putK ([(Sum.inr "", V.ref p10), (Sum.inr "a", V.ref p13), (Sum.inr "b", V.ref p16), (Sum.inr "c", V.ref p19), (Sum.inr "ab", V.ref p21), (Sum.inr "ac", V.ref p23)] : List (L2.Key × V)) (Sum.inr "bc") (.ref p25)))) := fun c o z nn => by rw [upd_ne nn]; exact z
    have fd2 : upd G25 dd (.dK (putK ([(Sum.inr "", V.ref p10), (Sum.inr "a", V.ref p13), (Sum.inr "b", V.ref p16), (Sum.inr "c", V.ref p19), (Sum.inr "ab", V.ref p21), (Sum.inr "ac", V.ref p23)] : List (L2.Key × V)) (Sum.inr "bc") (.ref p25))) dd = some (.dK [(Sum.inr "", V.ref p10), (Sum.inr "a", V.ref p13), (Sum.inr "b", V.ref p16), (Sum.inr "c", V.ref p19), (Sum.inr "ab", V.ref p21), (Sum.inr "ac", V.ref p23), (Sum.inr "bc", V.ref p25)]) := upd_same
    have S : Same H (upd G25 dd (.dK (putK ([(Sum.inr "", V.ref p10), (Sum.inr "a", V.ref p13), (Sum.inr "b", V.ref p16), (Sum.inr "c", V.ref p19), (Sum.inr "ab", V.ref p21), (Sum.inr "ac", V.ref p23)] : List (L2.Key × V)) (Sum.inr "bc") (.ref p25)))) := fun c o z => by rw [upd_ne (ne_of_none z hdd)]; exact S _ _ z
    generalize upd G25 dd (.dK (putK ([(Sum.inr "", V.ref p10), (Sum.inr "a", V.ref p13), (Sum.inr "b", V.ref p16), (Sum.inr "c", V.ref p19), (Sum.inr "ab", V.ref p21), (Sum.inr "ac", V.ref p23)] : List (L2.Key × V)) (Sum.inr "bc") (.ref p25))) = E7 at ud fd2 S ⊢
    have f1 := f1.keptD ud fd
    have f2 := f2.keptD ud fd
    have f3 := f3.keptD ud fd
    have f5 := f5.keptD ud fd
    have f6 := f6.keptD ud fd
    have f7 := f7.keptD ud fd
    have f8 := f8.keptD ud fd
    have f9 := f9.keptD ud fd
    have f10 := tup_keptD ud fd f10
    have f11 := f11.keptD ud fd
    have f12 := f12.keptD ud fd
    have f13 := tup_keptD ud fd f13
    have f14 := f14.keptD ud fd
    have f15 := f15.keptD ud fd
    have f16 := tup_keptD ud fd f16
    have f17 := f17.keptD ud fd
    have f18 := f18.keptD ud fd
    have f19 := tup_keptD ud fd f19
    have f20 := f20.keptD ud fd
    have f21 := tup_keptD ud fd f21
    have f22 := f22.keptD ud fd
    have f23 := tup_keptD ud fd f23
    have f24 := f24.keptD ud fd
    have f25 := tup_keptD ud fd f25
    have fd := fd2
    clear fd2
    refine ⟨_, rfl, (by show 1 ≤ sizeLine; decide), fun p26 h26 => ?_⟩
    have s26 := same_new (o := .tup [V.str "0"]) h26
    have f26 : IsSh (upd E7 p26 (.tup [V.str "0"])) (.ref p26) (.lf 48) := leafSh (c := 48) (by decide) h26
    have S := S.trans s26
    generalize upd E7 p26 (.tup [V.str "0"]) = G26 at s26 f26 S ⊢
    have f1 := f1.same s26
    have f2 := f2.same s26
    have f3 := f3.same s26
    have f5 := f5.same s26
    have f6 := f6.same s26
    have fd := s26 _ _ fd
    have f7 := f7.same s26
    have f8 := f8.same s26
    have f9 := f9.same s26
    have f10 := s26 _ _ f10
    have f11 := f11.same s26
    have f12 := f12.same s26
    have f13 := s26 _ _ f13
    have f14 := f14.same s26
    have f15 := f15.same s26
    have f16 := s26 _ _ f16
    have f17 := f17.same s26
    have f18 := f18.same s26
    have f19 := s26 _ _ f19
    have f20 := f20.same s26
    have f21 := s26 _ _ f21
    have f22 := f22.same s26
    have f23 := s26 _ _ f23
    have f24 := f24.same s26
    have f25 := s26 _ _ f25
    refine ⟨(by show 2 ≤ sizeLine; decide), fun p27 h27 => ?_⟩
    have s27 := same_new (o := .tup [V.ref p6, V.ref p26]) h27
    have f27 : (upd G26 p27 (.tup [V.ref p6, V.ref p26])) p27 = some (.tup [V.ref p6, V.ref p26]) := pairSh h27 (a := V.ref p6) (b := V.ref p26)
    have S := S.trans s27
    generalize upd G26 p27 (.tup [V.ref p6, V.ref p26]) = G27 at s27 f27 S ⊢
    have f1 := f1.same s27
    have f2 := f2.same s27
    have f3 := f3.same s27
    have f5 := f5.same s27
    have f6 := f6.same s27
    have fd := s27 _ _ fd
    have f7 := f7.same s27
    have f8 := f8.same s27
    have f9 := f9.same s27
    have f10 := s27 _ _ f10
    have f11 := f11.same s27
    have f12 := f12.same s27
    have f13 := s27 _ _ f13
    have f14 := f14.same s27
    have f15 := f15.same s27
    have f16 := s27 _ _ f16
    have f17 := f17.same s27
    have f18 := f18.same s27
    have f19 := s27 _ _ f19
    have f20 := f20.same s27
    have f21 := s27 _ _ f21
    have f22 := f22.same s27
    have f23 := s27 _ _ f23
    have f24 := f24.same s27
    have f25 := s27 _ _ f25
    have f26 := f26.same s27
    refine ⟨_, rfl, dd, _, rfl, DPut.k (k := Sum.inr "abc") fd (lt_line (by show 7 ≤ 100000; decide)), ?_⟩
    have ud : Kept dd G27 (upd G27 dd (.dK (putK ([(Sum.inr "", V.ref p10), (Sum.inr "a", V.ref p13), (Sum.inr "b", V.ref p16), (Sum.inr "c", V.ref p19), (Sum.inr "ab", V.ref p21), (Sum.inr "ac", V.ref p23), (Sum.inr "bc", V.ref p25)] : List (L2.Key × V)) (Sum.inr "abc") (.ref p27)))) := fun c o z nn => by rw [upd_ne nn]; exact z
    have fd2 : upd G27 dd (.dK (putK ([(Sum.inr "", V.ref p10), (Sum.inr "a", V.ref p13), (Sum.inr "b", V.ref p16), (Sum.inr "c", V.ref p19), (Sum.inr "ab", V.ref p21), (Sum.inr "ac", V.ref p23), (Sum.inr "bc", V.ref p25)] : List (L2.Key × V)) (Sum.inr "abc") (.ref p27))) dd = some (.dK [(Sum.inr "", V.ref p10), (Sum.inr "a", V.ref p13), (Sum.inr "b", V.ref p16), (Sum.inr "c", V.ref p19), (Sum.inr "ab", V.ref p21), (Sum.inr "ac", V.ref p23), (Sum.inr "bc", V.ref p25), (Sum.inr "abc", V.ref p27)]) := upd_same
    have S : Same H (upd G27 dd (.dK (putK ([(Sum.inr "", V.ref p10), (Sum.inr "a", V.ref p13), (Sum.inr "b", V.ref p16), (Sum.inr "c", V.ref p19), (Sum.inr "ab", V.ref p21), (Sum.inr "ac", V.ref p23), (Sum.inr "bc", V.ref p25)] : List (L2.Key × V)) (Sum.inr "abc") (.ref p27)))) := fun c o z => by rw [upd_ne (ne_of_none z hdd)]; exact S _ _ z
    generalize upd G27 dd (.dK (putK ([(Sum.inr "", V.ref p10), (Sum.inr "a", V.ref p13), (Sum.inr "b", V.ref p16), (Sum.inr "c", V.ref p19), (Sum.inr "ab", V.ref p21), (Sum.inr "ac", V.ref p23), (Sum.inr "bc", V.ref p25)] : List (L2.Key × V)) (Sum.inr "abc") (.ref p27))) = E8 at ud fd2 S ⊢
    have f1 := f1.keptD ud fd
    have f2 := f2.keptD ud fd
    have f3 := f3.keptD ud fd
    have f5 := f5.keptD ud fd
    have f6 := f6.keptD ud fd
    have f7 := f7.keptD ud fd
    have f8 := f8.keptD ud fd
    have f9 := f9.keptD ud fd
    have f10 := tup_keptD ud fd f10
    have f11 := f11.keptD ud fd
    have f12 := f12.keptD ud fd
    have f13 := tup_keptD ud fd f13
    have f14 := f14.keptD ud fd
    have f15 := f15.keptD ud fd
    have f16 := tup_keptD ud fd f16
    have f17 := f17.keptD ud fd
    have f18 := f18.keptD ud fd
    have f19 := tup_keptD ud fd f19
    have f20 := f20.keptD ud fd
    have f21 := tup_keptD ud fd f21
    have f22 := f22.keptD ud fd
    have f23 := tup_keptD ud fd f23
    have f24 := f24.keptD ud fd
    have f25 := tup_keptD ud fd f25
    have f26 := f26.keptD ud fd
    have f27 := tup_keptD ud fd f27
    have fd := fd2
    clear fd2
    refine ⟨_, rfl, _, rfl, _, rfl, (by show 3 ≤ sizeLine; decide), fun p28 h28 => ?_⟩
    have s28 := same_new (o := .tup [V.str "+", V.ref p2, V.ref p3]) h28
    have f28 : IsSh (upd E8 p28 (.tup [V.str "+", V.ref p2, V.ref p3])) (.ref p28) (.nd 43 (.lf 98) (.lf 99)) := nodeSh (c := 43) (by decide) f2 f3 h28
    have S := S.trans s28
    generalize upd E8 p28 (.tup [V.str "+", V.ref p2, V.ref p3]) = G28 at s28 f28 S ⊢
    have f1 := f1.same s28
    have f2 := f2.same s28
    have f3 := f3.same s28
    have f5 := f5.same s28
    have f6 := f6.same s28
    have fd := s28 _ _ fd
    have f7 := f7.same s28
    have f8 := f8.same s28
    have f9 := f9.same s28
    have f10 := s28 _ _ f10
    have f11 := f11.same s28
    have f12 := f12.same s28
    have f13 := s28 _ _ f13
    have f14 := f14.same s28
    have f15 := f15.same s28
    have f16 := s28 _ _ f16
    have f17 := f17.same s28
    have f18 := f18.same s28
    have f19 := s28 _ _ f19
    have f20 := f20.same s28
    have f21 := s28 _ _ f21
    have f22 := f22.same s28
    have f23 := s28 _ _ f23
    have f24 := f24.same s28
    have f25 := s28 _ _ f25
    have f26 := f26.same s28
    have f27 := s28 _ _ f27
    refine ⟨(by show 3 ≤ sizeLine; decide), fun p29 h29 => ?_⟩
    have s29 := same_new (o := .tup [V.str "&", V.ref p1, V.ref p28]) h29
    have f29 : IsSh (upd G28 p29 (.tup [V.str "&", V.ref p1, V.ref p28])) (.ref p29) (.nd 38 (.lf 97) (.nd 43 (.lf 98) (.lf 99))) := nodeSh (c := 38) (by decide) f1 f28 h29
    have S := S.trans s29
    generalize upd G28 p29 (.tup [V.str "&", V.ref p1, V.ref p28]) = G29 at s29 f29 S ⊢
    have f1 := f1.same s29
    have f2 := f2.same s29
    have f3 := f3.same s29
    have f5 := f5.same s29
    have f6 := f6.same s29
    have fd := s29 _ _ fd
    have f7 := f7.same s29
    have f8 := f8.same s29
    have f9 := f9.same s29
    have f10 := s29 _ _ f10
    have f11 := f11.same s29
    have f12 := f12.same s29
    have f13 := s29 _ _ f13
    have f14 := f14.same s29
    have f15 := f15.same s29
    have f16 := s29 _ _ f16
    have f17 := f17.same s29
    have f18 := f18.same s29
    have f19 := s29 _ _ f19
    have f20 := f20.same s29
    have f21 := s29 _ _ f21
    have f22 := f22.same s29
    have f23 := s29 _ _ f23
    have f24 := f24.same s29
    have f25 := s29 _ _ f25
    have f26 := f26.same s29
    have f27 := s29 _ _ f27
    have f28 := f28.same s29
    refine ⟨_, rfl, _, rfl, (by show 3 ≤ sizeLine; decide), fun p30 h30 => ?_⟩
    have s30 := same_new (o := .tup [V.str "&", V.ref p1, V.ref p2]) h30
    have f30 : IsSh (upd G29 p30 (.tup [V.str "&", V.ref p1, V.ref p2])) (.ref p30) (.nd 38 (.lf 97) (.lf 98)) := nodeSh (c := 38) (by decide) f1 f2 h30
    have S := S.trans s30
    generalize upd G29 p30 (.tup [V.str "&", V.ref p1, V.ref p2]) = G30 at s30 f30 S ⊢
    have f1 := f1.same s30
    have f2 := f2.same s30
    have f3 := f3.same s30
    have f5 := f5.same s30
    have f6 := f6.same s30
    have fd := s30 _ _ fd
    have f7 := f7.same s30
    have f8 := f8.same s30
    have f9 := f9.same s30
    have f10 := s30 _ _ f10
    have f11 := f11.same s30
    have f12 := f12.same s30
    have f13 := s30 _ _ f13
    have f14 := f14.same s30
    have f15 := f15.same s30
    have f16 := s30 _ _ f16
    have f17 := f17.same s30
    have f18 := f18.same s30
    have f19 := s30 _ _ f19
    have f20 := f20.same s30
    have f21 := s30 _ _ f21
    have f22 := f22.same s30
    have f23 := s30 _ _ f23
    have f24 := f24.same s30
    have f25 := s30 _ _ f25
    have f26 := f26.same s30
    have f27 := s30 _ _ f27
    have f28 := f28.same s30
    have f29 := f29.same s30
    refine ⟨_, rfl, _, rfl, (by show 3 ≤ sizeLine; decide), fun p31 h31 => ?_⟩
    have s31 := same_new (o := .tup [V.str "&", V.ref p1, V.ref p3]) h31
    have f31 : IsSh (upd G30 p31 (.tup [V.str "&", V.ref p1, V.ref p3])) (.ref p31) (.nd 38 (.lf 97) (.lf 99)) := nodeSh (c := 38) (by decide) f1 f3 h31
    have S := S.trans s31
    generalize upd G30 p31 (.tup [V.str "&", V.ref p1, V.ref p3]) = G31 at s31 f31 S ⊢
    have f1 := f1.same s31
    have f2 := f2.same s31
    have f3 := f3.same s31
    have f5 := f5.same s31
    have f6 := f6.same s31
    have fd := s31 _ _ fd
    have f7 := f7.same s31
    have f8 := f8.same s31
    have f9 := f9.same s31
    have f10 := s31 _ _ f10
    have f11 := f11.same s31
    have f12 := f12.same s31
    have f13 := s31 _ _ f13
    have f14 := f14.same s31
    have f15 := f15.same s31
    have f16 := s31 _ _ f16
    have f17 := f17.same s31
    have f18 := f18.same s31
    have f19 := s31 _ _ f19
    have f20 := f20.same s31
    have f21 := s31 _ _ f21
    have f22 := f22.same s31
    have f23 := s31 _ _ f23
    have f24 := f24.same s31
    have f25 := s31 _ _ f25
    have f26 := f26.same s31
    have f27 := s31 _ _ f27
    have f28 := f28.same s31
    have f29 := f29.same s31
    have f30 := f30.same s31
    refine ⟨(by show 3 ≤ sizeLine; decide), fun p32 h32 => ?_⟩
    have s32 := same_new (o := .tup [V.str "+", V.ref p30, V.ref p31]) h32
    have f32 : IsSh (upd G31 p32 (.tup [V.str "+", V.ref p30, V.ref p31])) (.ref p32) (.nd 43 (.nd 38 (.lf 97) (.lf 98)) (.nd 38 (.lf 97) (.lf 99))) := nodeSh (c := 43) (by decide) f30 f31 h32
    have S := S.trans s32
    generalize upd G31 p32 (.tup [V.str "+", V.ref p30, V.ref p31]) = G32 at s32 f32 S ⊢
    have f1 := f1.same s32
    have f2 := f2.same s32
    have f3 := f3.same s32
    have f5 := f5.same s32
    have f6 := f6.same s32
    have fd := s32 _ _ fd
    have f7 := f7.same s32
    have f8 := f8.same s32
    have f9 := f9.same s32
    have f10 := s32 _ _ f10
    have f11 := f11.same s32
    have f12 := f12.same s32
    have f13 := s32 _ _ f13
    have f14 := f14.same s32
    have f15 := f15.same s32
    have f16 := s32 _ _ f16
    have f17 := f17.same s32
    have f18 := f18.same s32
    have f19 := s32 _ _ f19
    have f20 := f20.same s32
    have f21 := s32 _ _ f21
    have f22 := f22.same s32
    have f23 := s32 _ _ f23
    have f24 := f24.same s32
    have f25 := s32 _ _ f25
    have f26 := f26.same s32
    have f27 := s32 _ _ f27
    have f28 := f28.same s32
    have f29 := f29.same s32
    have f30 := f30.same s32
    have f31 := f31.same s32
    refine ⟨(by show 2 ≤ sizeLine; decide), fun p33 h33 => ?_⟩
    have s33 := same_new (o := .tup [V.ref p29, V.ref p32]) h33
    have f33 : (upd G32 p33 (.tup [V.ref p29, V.ref p32])) p33 = some (.tup [V.ref p29, V.ref p32]) := pairSh h33 (a := V.ref p29) (b := V.ref p32)
    have S := S.trans s33
    generalize upd G32 p33 (.tup [V.ref p29, V.ref p32]) = G33 at s33 f33 S ⊢
    have f1 := f1.same s33
    have f2 := f2.same s33
    have f3 := f3.same s33
    have f5 := f5.same s33
    have f6 := f6.same s33
    have fd := s33 _ _ fd
    have f7 := f7.same s33
    have f8 := f8.same s33
    have f9 := f9.same s33
    have f10 := s33 _ _ f10
    have f11 := f11.same s33
    have f12 := f12.same s33
    have f13 := s33 _ _ f13
    have f14 := f14.same s33
    have f15 := f15.same s33
    have f16 := s33 _ _ f16
    have f17 := f17.same s33
    have f18 := f18.same s33
    have f19 := s33 _ _ f19
    have f20 := f20.same s33
    have f21 := s33 _ _ f21
    have f22 := f22.same s33
    have f23 := s33 _ _ f23
    have f24 := f24.same s33
    have f25 := s33 _ _ f25
    have f26 := f26.same s33
    have f27 := s33 _ _ f27
    have f28 := f28.same s33
    have f29 := f29.same s33
    have f30 := f30.same s33
    have f31 := f31.same s33
    have f32 := f32.same s33
    refine ⟨_, rfl, dd, _, rfl, DPut.k (k := Sum.inr "plane") fd (lt_line (by show 8 ≤ 100000; decide)), ?_⟩
    have ud : Kept dd G33 (upd G33 dd (.dK (putK ([(Sum.inr "", V.ref p10), (Sum.inr "a", V.ref p13), (Sum.inr "b", V.ref p16), (Sum.inr "c", V.ref p19), (Sum.inr "ab", V.ref p21), (Sum.inr "ac", V.ref p23), (Sum.inr "bc", V.ref p25), (Sum.inr "abc", V.ref p27)] : List (L2.Key × V)) (Sum.inr "plane") (.ref p33)))) := fun c o z nn => by rw [upd_ne nn]; exact z
    have fd2 : upd G33 dd (.dK (putK ([(Sum.inr "", V.ref p10), (Sum.inr "a", V.ref p13), (Sum.inr "b", V.ref p16), (Sum.inr "c", V.ref p19), (Sum.inr "ab", V.ref p21), (Sum.inr "ac", V.ref p23), (Sum.inr "bc", V.ref p25), (Sum.inr "abc", V.ref p27)] : List (L2.Key × V)) (Sum.inr "plane") (.ref p33))) dd = some (.dK [(Sum.inr "", V.ref p10), (Sum.inr "a", V.ref p13), (Sum.inr "b", V.ref p16), (Sum.inr "c", V.ref p19), (Sum.inr "ab", V.ref p21), (Sum.inr "ac", V.ref p23), (Sum.inr "bc", V.ref p25), (Sum.inr "abc", V.ref p27), (Sum.inr "plane", V.ref p33)]) := upd_same
    have S : Same H (upd G33 dd (.dK (putK ([(Sum.inr "", V.ref p10), (Sum.inr "a", V.ref p13), (Sum.inr "b", V.ref p16), (Sum.inr "c", V.ref p19), (Sum.inr "ab", V.ref p21), (Sum.inr "ac", V.ref p23), (Sum.inr "bc", V.ref p25), (Sum.inr "abc", V.ref p27)] : List (L2.Key × V)) (Sum.inr "plane") (.ref p33)))) := fun c o z => by rw [upd_ne (ne_of_none z hdd)]; exact S _ _ z
    generalize upd G33 dd (.dK (putK ([(Sum.inr "", V.ref p10), (Sum.inr "a", V.ref p13), (Sum.inr "b", V.ref p16), (Sum.inr "c", V.ref p19), (Sum.inr "ab", V.ref p21), (Sum.inr "ac", V.ref p23), (Sum.inr "bc", V.ref p25), (Sum.inr "abc", V.ref p27)] : List (L2.Key × V)) (Sum.inr "plane") (.ref p33))) = E9 at ud fd2 S ⊢
    have f1 := f1.keptD ud fd
    have f2 := f2.keptD ud fd
    have f3 := f3.keptD ud fd
    have f5 := f5.keptD ud fd
    have f6 := f6.keptD ud fd
    have f7 := f7.keptD ud fd
    have f8 := f8.keptD ud fd
    have f9 := f9.keptD ud fd
    have f10 := tup_keptD ud fd f10
    have f11 := f11.keptD ud fd
    have f12 := f12.keptD ud fd
    have f13 := tup_keptD ud fd f13
    have f14 := f14.keptD ud fd
    have f15 := f15.keptD ud fd
    have f16 := tup_keptD ud fd f16
    have f17 := f17.keptD ud fd
    have f18 := f18.keptD ud fd
    have f19 := tup_keptD ud fd f19
    have f20 := f20.keptD ud fd
    have f21 := tup_keptD ud fd f21
    have f22 := f22.keptD ud fd
    have f23 := tup_keptD ud fd f23
    have f24 := f24.keptD ud fd
    have f25 := tup_keptD ud fd f25
    have f26 := f26.keptD ud fd
    have f27 := tup_keptD ud fd f27
    have f28 := f28.keptD ud fd
    have f29 := f29.keptD ud fd
    have f30 := f30.keptD ud fd
    have f31 := f31.keptD ud fd
    have f32 := f32.keptD ud fd
    have f33 := tup_keptD ud fd f33
    have fd := fd2
    clear fd2
    refine ⟨_, rfl, k _ dd _ S fd fun i hi => ?_⟩
    match i, hi with
    | 0, _ => exact ⟨_, _, _, rfl, f10, f7, f9⟩
    | 1, _ => exact ⟨_, _, _, rfl, f13, f1, f12⟩
    | 2, _ => exact ⟨_, _, _, rfl, f16, f2, f15⟩
    | 3, _ => exact ⟨_, _, _, rfl, f19, f3, f18⟩
    | 4, _ => exact ⟨_, _, _, rfl, f21, f20, f6⟩
    | 5, _ => exact ⟨_, _, _, rfl, f23, f22, f6⟩
    | 6, _ => exact ⟨_, _, _, rfl, f25, f24, f6⟩
    | 7, _ => exact ⟨_, _, _, rfl, f27, f6, f26⟩
    | 8, _ => exact ⟨_, _, _, rfl, f33, f29, f32⟩
/-! ### _law_counted -/
theorem dep_lay : ∀ i < 9, dep (outT i) ≤ 3 ∧ dep (innT i) ≤ 3 := by decide
def spCounted : Sp := fun vs H Q _ => ∃ (e : Addr) (p : Int) (n : Nat) (A B C : List (List Int)), vs = [.int p, .int (n : Nat), .ref e] ∧ HandsD H e p n A B C ∧ isP p = true ∧ n ≤ 12 ∧ p ^ n ≤ 1000000 ∧ Rref p n A ∧ Rref p n B ∧ Rref p n C ∧
  ∀ H' d, Same H H' → H d = none → H' d = some (.dK (dictK (NumD fun i => (extK (invF p) p n (wholeB p n) A B C i).length))) → Q (.ref d) H'
theorem tri_of {p : Int} {n : Nat} {A B C : List (List Int)} (hp : isP p = true) (RA : Rref p n A) (RB : Rref p n B) (RC : Rref p n C) : Tri p (invF p) n (wholeB p n) A B C := ⟨invF_ok hp, fun v r => units_all hp r, wholeB_rref hp, RA, RB, RC⟩
abbrev nCounted : List Str := ["_law_prime", "_law_length_here", "_law_hands", "_law_found", "_law_told", "_law_kind", "_law_one", "_law_other", "_law_size_here"]
theorem sc_counted : FnScope nCounted ["_law_prime", "_law_length_here", "_law_hands"] (defScope (top jCounted)) := ⟨rfl, rfl, rfl, by decide +kernel, rfl, by decide +kernel, by decide +kernel⟩
theorem g_counted (T : TX K mg) : ∃ fd, FnP K "_law_counted" jCounted (He.ga K "_law_counted") fd ∧ FnOk P w K mg base CX0 7 (He.ga K "_law_counted") fd ["_law_prime", "_law_length_here", "_law_hands"] spCounted ∧ Binds K fd ["_law_prime", "_law_length_here", "_law_hands"] [] := by
  obtain ⟨fd, F⟩ := T.def "_law_counted" jCounted
  obtain ⟨_, FH, GH, BH⟩ := g_shapes (P := P) (w := w) (base := base) T
  obtain ⟨_, FD, GD, BD⟩ := g_kinds (P := P) (w := w) (base := base) T
  obtain ⟨_, FZ, GZ, BZ⟩ := g_size2 (P := P) (w := w) (base := base) T
  obtain ⟨fdW, FW⟩ := T.def "_law_worth" jWorth
  have GW : FnOk P w K mg base CX0 6 _ fdW ["_law_prime", "_law_length_here", "_law_hands", "_law_shape_here"] (spWorth 3) := ok_worth FW T 3
  have BW : Binds K fdW ["_law_prime", "_law_length_here", "_law_hands", "_law_shape_here"] [] := FW.bindsN fun _ _ _ _ _ _ us hl => match us, hl with | [_, _, _, _], _ => rfl
  refine ⟨fd, F, F.ok sc_counted (fun vs H Q E h => ?_) (fun cdv A outer s H vs Q E hr h => ?_), F.bindsN fun _ _ _ _ _ _ us hl => match us, hl with | [_, _, _], _ => rfl⟩
  · obtain ⟨e, p, n, A, B, C, rfl, _⟩ := h
    rfl
  · obtain ⟨e, p, n, A', B, C, rfl, hS, hp, hn, hpn, RA, RB, RC, k⟩ := h
    have nd := sc_counted.nd
    have hu := hu_of hr
    have hr1 : Room 1 _ := hr.mono (by decide)
    have hrw : Room 6 _ := hr
    have II := invF_ok hp
    have hq := isP_pos hp
    have TI := tri_of hp RA RB RC
    refine ⟨_, PSs.nox (pss_cons (ps_set (i := 3) nd rfl (.inl rfl) pe_dnewK) (pss_cons (ps_set (i := 4) nd rfl (.inl rfl) (pe_call0 GH hr1 (by rfl) (T.df "_law_shapes" jShapes) FH.kp BH .nil pass0)) (pss_cons (ps_for PassesOwn.never rfl (pi_list (pe_call0 GD hr1 (by rfl) (T.df "_law_kinds" jKinds) FD.kp BD .nil pass0)) (pg_name (i := 5) nd rfl (.inl rfl)) (pss_cons (ps_asg (pe_dget hu (pv 4) (pv 5) (fun _ _ => rfl)) (pg_tup (by rfl) (pgs_cons (pg_name (i := 6) nd rfl (.inl rfl)) (pgs_cons (pg_name (i := 7) nd rfl (.inl rfl)) pgs_nil)))) (pss_cons (ps_set (i := 8) nd rfl (.inl rfl) (pe_call GZ hr1 (by rfl) (T.df "_law_size" jSize) FZ.kp BZ .nil pass0 (pa_cons (pv 0) (pa_cons (pe_call GW hrw (by rfl) (T.df "_law_worth" jWorth) FW.kp BW .nil pass0 (pa_cons (pv 0) (pa_cons (pv 1) (pa_cons (pv 2) (pa_cons (pv 6) pa_nil))))) pa_nil)))) (pss_one (ps_dput hu (pv 3) (pv 5) (pe_op op_sub (pv 8) (pe_call GZ hr1 (by rfl) (T.df "_law_size" jSize) FZ.kp BZ .nil pass0 (pa_cons (pv 0) (pa_cons (pe_call GW hrw (by rfl) (T.df "_law_worth" jWorth) FW.kp BW .nil pass0 (pa_cons (pv 0) (pa_cons (pv 1) (pa_cons (pv 2) (pa_cons (pv 7) pa_nil))))) pa_nil)))) rfl))))) (pss_one (ps_ret (pv 3)))))), ?_⟩
    obtain ⟨c, hc⟩ : ∃ c : Nat → Nat, c = fun i => (extK (invF p) p n (wholeB p n) A' B C i).length := ⟨_, rfl⟩
    rw [← hc] at k
    refine fun d hd => ?_
    have s0 := same_new (o := .dK []) hd
    have d0 : upd H d (.dK []) d = some (.dK ((dictK (NumD c)).take 0)) := upd_same
    generalize upd H d (.dK []) = H1 at s0 d0 ⊢
    refine ⟨rfl, fun H2 g ks s2 hg hks => ?_⟩
    refine ⟨rfl, fun H3 L s3 hL0 hL => ?_⟩
    have d3 := s3 _ _ (s2 _ _ d0)
    have gd : g ≠ d := fun q => by
      obtain ⟨t, u, v, h1, _⟩ := hks 0 (by decide)
      rw [q, s2 _ _ d0] at hg
      obtain rfl := HO.dK.inj (Option.some.inj hg)
      cases h1
    have Ld : L ≠ d := fun q => by rw [q, s2 _ _ d0] at hL0; cases hL0
    have s03 := s0.trans (s2.trans s3)
    have nde : ∀ {c : Addr} {o : HO}, H c = some o → c ≠ d := fun h q => by rw [q, hd] at h; cases h
    refine ⟨L, rfl, ⟨_, SqL.of hL⟩, for_list (xs := KX.kindV) (fun i σ H' => ∃ z5 z6 z7 z8 : Option V, σ = [some (.int p), some (.int (n : Nat)), some (.ref e), some (.ref d), some (.ref g), z5, z6, z7, z8] ∧ Kept d H3 H' ∧ H' d = some (.dK ((dictK (NumD c)).take i))) ⟨none, none, none, none, rfl, Kept.refl, d3⟩ (fun i σ H' _ z => let ⟨_, _, _, _, _, kp, _⟩ := z; SqL.of (kp _ _ hL Ld)) ?_ ?_⟩
    · rintro i x σ H4 hx ⟨z5, z6, z7, z8, rfl, kp, hd4⟩
      have hi : i < 9 := (List.getElem?_eq_some_iff.mp hx).1
      obtain ⟨k', hk', rfl⟩ := KX.kind_at hx
      rw [(kind_i i hi).1] at hk'
      obtain rfl := Option.some.inj hk'
      obtain ⟨t, u, v, h1, h2, h3, h4⟩ := hks i hi
      have hg4 := kp _ _ (s3 _ _ hg) gd
      have hS4 : HandsD H4 e p n A' B C := by
        obtain ⟨g0, g1, g2, l0, l1, l2, he, k0, k1, k2, tt⟩ := hS
        exact ⟨g0, g1, g2, l0, l1, l2, kp _ _ (s03 _ _ he) (nde he), kp _ _ (s03 _ _ k0) (nde k0), kp _ _ (s03 _ _ k1) (nde k1), kp _ _ (s03 _ _ k2) (nde k2), tt⟩
      have h34 := (h3.same s3).keptD kp d3
      have h44 := (h4.same s3).keptD kp d3
      have h24 := tup_keptD kp d3 (s3 _ _ h2)
      obtain ⟨dp1, dp2⟩ := dep_lay i hi
      refine ⟨_, rfl, _, rfl, g, .ref t, rfl, .inl ⟨ks, Sum.inr (KX.kS (kA i)), .inl hg4, rfl, h1.symm⟩, t, _, rfl, SqT.of h24, rfl, _, _, rfl, _, _, rfl, rfl, ?_⟩
      refine ⟨_, rfl, _, rfl, _, rfl, _, rfl, _, rfl, e, u, outT i, p, n, A', B, C, rfl, h34, dp1, hS4, hp, hn, hpn, RA, RB, RC, fun H5 q1 L1 s5 hq1 T1 => ?_⟩
      have c1 := T1.count II (valB_rref hp RA RB RC _)
      refine ⟨p, q1, L1, _, rfl, hq1, by omega, by omega, c1, ?_⟩
      refine ⟨_, rfl, _, rfl, _, rfl, _, rfl, _, rfl, _, rfl, e, v, innT i, p, n, A', B, C, rfl, h44.same s5, dp2, hS4.same s5, hp, hn, hpn, RA, RB, RC, fun H6 q2 L2 s6 hq2 T2 => ?_⟩
      have c2 := T2.count II (valB_rref hp RA RB RC _)
      refine ⟨p, q2, L2, _, rfl, hq2, by omega, by omega, c2, ?_⟩
      have s46 := s5.trans s6
      have hd6 := s46 _ _ hd4
      have ev : (((valB p n A' B C (outT i)).length : Nat) : Int) - (((valB p n A' B C (innT i)).length : Nat) : Int) = ((c i : Nat) : Int) := by
        have h := TI.ext_len i hi
        rw [valB_I, valB_I, hc]
        dsimp only
        omega
      refine ⟨_, _, rfl, rfl, ?_⟩
      refine ⟨_, rfl, _, rfl, d, _, rfl, .inl ⟨_, Sum.inr (KX.kS (kA i)), hd6, rfl, lt_line (Nat.le_trans (List.length_take_le' _ _) (by show 9 ≤ 100000; decide)), rfl⟩, _, _, _, _, rfl, fun c' o z nn => by rw [upd_ne nn]; exact s46 _ _ (kp _ _ z nn), ?_⟩
      rw [upd_same]
      dsimp only
      rw [ev]
      have e9 : V.int ((c i : Nat) : Int) = NumD c (kA i) := by unfold NumD; rw [(kind_i i hi).2]
      rw [e9, dictK_put (NumD c) (kind_i i hi).1]
    · rintro σ H4 ⟨z5, z6, z7, z8, rfl, kp, hd4⟩
      exact ⟨_, rfl, k H4 d (fun c' o z => kp _ _ (s03 _ _ z) (ne_of_none z hd)) hd hd4⟩
end
end KV

set_option Elab.async false
set_option linter.all false
set_option maxRecDepth 100000
set_option maxHeartbeats 4000000
/-! # frames, amounts -/
namespace KV
open PySem PySem.Spec PyProof.Rows L2 VX RX
section
variable {P : Program} {w : World} {K : PySem.W.Frag} {mg : Str → Option Value} {base : Heap} {f : Addr} {fd : FuncData}
open RX KW
/-! ### _law_frame -/
def frOk (p : Int) (m : Nat) : Bool := isP p && decide (1 ≤ m) && decide (m ≤ 5) && decide (p ^ m ≤ 200)
def spFrame2 : Sp := fun vs H Q _ => ∃ (b : Addr), vs = [.ref b] ∧ TapeK H b ∧
  ∀ H' t p m, Kept b H H' → TapeK H' b → H t = none → H' t = some (.tup [.int p, .int (m : Nat)]) → frOk p m = true → Q (.ref t) H'
abbrev nFrame2 : List Str := ["_law_tape_here"]
theorem sc_frame2 : FnScope nFrame2 ["_law_tape_here"] (defScope (top jFrame)) := ⟨rfl, rfl, rfl, by decide +kernel, rfl, by decide +kernel, by decide +kernel⟩
theorem g_frame2 (T : TX K mg) : ∃ fd, FnP K "_law_frame" jFrame (He.ga K "_law_frame") fd ∧ FnOk P w K mg base CX0 2 (He.ga K "_law_frame") fd ["_law_tape_here"] spFrame2 ∧ Binds K fd ["_law_tape_here"] [] := by
  obtain ⟨fd, F⟩ := T.def "_law_frame" jFrame
  obtain ⟨_, FT, GT, BT⟩ := g_pick (P := P) (w := w) (base := base) T
  refine ⟨fd, F, F.ok sc_frame2 (fun vs H Q E h => ?_) (fun cdv A outer s H vs Q E hr h => ?_), F.bindsN fun _ _ _ _ _ _ us hl => match us, hl with | [_], _ => rfl⟩
  · obtain ⟨b, rfl, _⟩ := h
    rfl
  · obtain ⟨b, rfl, hb, k⟩ := h
    have nd := sc_frame2.nd
    have hr1 : Room 1 _ := hr
    refine ⟨_, PSs.nox (pss_one (ps_ret (pe_ix ix_list (pe_lst (pa_cons (pe_tup (pa_cons pe_int (pa_cons pe_int pa_nil))) (pa_cons (pe_tup (pa_cons pe_int (pa_cons pe_int pa_nil))) (pa_cons (pe_tup (pa_cons pe_int (pa_cons pe_int pa_nil))) (pa_cons (pe_tup (pa_cons pe_int (pa_cons pe_int pa_nil))) (pa_cons (pe_tup (pa_cons pe_int (pa_cons pe_int pa_nil))) (pa_cons (pe_tup (pa_cons pe_int (pa_cons pe_int pa_nil))) (pa_cons (pe_tup (pa_cons pe_int (pa_cons pe_int pa_nil))) (pa_cons (pe_tup (pa_cons pe_int (pa_cons pe_int pa_nil))) (pa_cons (pe_tup (pa_cons pe_int (pa_cons pe_int pa_nil))) pa_nil)))))))))) (pe_call GT hr1 (by rfl) (T.df "_law_pick" jPick) FT.kp BT .nil pass0 (pa_cons (pv 0) (pa_cons pe_int pa_nil))) (fun _ _ => rfl)))), ?_⟩
    refine ⟨(by show 2 ≤ sizeLine; decide), fun p1 h1 => ?_⟩
    have s1 := same_new (o := .tup [V.int 2, V.int 5]) h1
    have f1 : upd H p1 (.tup [V.int 2, V.int 5]) p1 = some (.tup [V.int 2, V.int 5]) := upd_same
    have S := s1
    generalize upd H p1 (.tup [V.int 2, V.int 5]) = G1 at s1 f1 S ⊢
    refine ⟨(by show 2 ≤ sizeLine; decide), fun p2 h2 => ?_⟩
    have s2 := same_new (o := .tup [V.int 3, V.int 3]) h2
    have f2 : upd G1 p2 (.tup [V.int 3, V.int 3]) p2 = some (.tup [V.int 3, V.int 3]) := upd_same
    have S := S.trans s2
    generalize upd G1 p2 (.tup [V.int 3, V.int 3]) = G2 at s2 f2 S ⊢
    have f1 := s2 _ _ f1
    refine ⟨(by show 2 ≤ sizeLine; decide), fun p3 h3 => ?_⟩
    have s3 := same_new (o := .tup [V.int 2, V.int 4]) h3
    have f3 : upd G2 p3 (.tup [V.int 2, V.int 4]) p3 = some (.tup [V.int 2, V.int 4]) := upd_same
    have S := S.trans s3
    generalize upd G2 p3 (.tup [V.int 2, V.int 4]) = G3 at s3 f3 S ⊢
    have f1 := s3 _ _ f1
    have f2 := s3 _ _ f2
    refine ⟨(by show 2 ≤ sizeLine; decide), fun p4 h4 => ?_⟩
    have s4 := same_new (o := .tup [V.int 5, V.int 2]) h4
    have f4 : upd G3 p4 (.tup [V.int 5, V.int 2]) p4 = some (.tup [V.int 5, V.int 2]) := upd_same
    have S := S.trans s4
    generalize upd G3 p4 (.tup [V.int 5, V.int 2]) = G4 at s4 f4 S ⊢
    have f1 := s4 _ _ f1
    have f2 := s4 _ _ f2
    have f3 := s4 _ _ f3
    refine ⟨(by show 2 ≤ sizeLine; decide), fun p5 h5 => ?_⟩
    have s5 := same_new (o := .tup [V.int 2, V.int 3]) h5
    have f5 : upd G4 p5 (.tup [V.int 2, V.int 3]) p5 = some (.tup [V.int 2, V.int 3]) := upd_same
    have S := S.trans s5
    generalize upd G4 p5 (.tup [V.int 2, V.int 3]) = G5 at s5 f5 S ⊢
    have f1 := s5 _ _ f1
    have f2 := s5 _ _ f2
    have f3 := s5 _ _ f3
    have f4 := s5 _ _ f4
    refine ⟨(by show 2 ≤ sizeLine; decide), fun p6 h6 => ?_⟩
    have s6 := same_new (o := .tup [V.int 3, V.int 2]) h6
    have f6 : upd G5 p6 (.tup [V.int 3, V.int 2]) p6 = some (.tup [V.int 3, V.int 2]) := upd_same
    have S := S.trans s6
    generalize upd G5 p6 (.tup [V.int 3, V.int 2]) = G6 at s6 f6 S ⊢
    have f1 := s6 _ _ f1
    have f2 := s6 _ _ f2
    have f3 := s6 _ _ f3
    have f4 := s6 _ _ f4
    have f5 := s6 _ _ f5
    refine ⟨(by show 2 ≤ sizeLine; decide), fun p7 h7 => ?_⟩
    have s7 := same_new (o := .tup [V.int 13, V.int 2]) h7
    have f7 : upd G6 p7 (.tup [V.int 13, V.int 2]) p7 = some (.tup [V.int 13, V.int 2]) := upd_same
    have S := S.trans s7
    generalize upd G6 p7 (.tup [V.int 13, V.int 2]) = G7 at s7 f7 S ⊢
    have f1 := s7 _ _ f1
    have f2 := s7 _ _ f2
    have f3 := s7 _ _ f3
    have f4 := s7 _ _ f4
    have f5 := s7 _ _ f5
    have f6 := s7 _ _ f6
    refine ⟨(by show 2 ≤ sizeLine; decide), fun p8 h8 => ?_⟩
    have s8 := same_new (o := .tup [V.int 7, V.int 2]) h8
    have f8 : upd G7 p8 (.tup [V.int 7, V.int 2]) p8 = some (.tup [V.int 7, V.int 2]) := upd_same
    have S := S.trans s8
    generalize upd G7 p8 (.tup [V.int 7, V.int 2]) = G8 at s8 f8 S ⊢
    have f1 := s8 _ _ f1
    have f2 := s8 _ _ f2
    have f3 := s8 _ _ f3
    have f4 := s8 _ _ f4
    have f5 := s8 _ _ f5
    have f6 := s8 _ _ f6
    have f7 := s8 _ _ f7
    refine ⟨(by show 2 ≤ sizeLine; decide), fun p9 h9 => ?_⟩
    have s9 := same_new (o := .tup [V.int 11, V.int 1]) h9
    have f9 : upd G8 p9 (.tup [V.int 11, V.int 1]) p9 = some (.tup [V.int 11, V.int 1]) := upd_same
    have S := S.trans s9
    generalize upd G8 p9 (.tup [V.int 11, V.int 1]) = G9 at s9 f9 S ⊢
    have f1 := s9 _ _ f1
    have f2 := s9 _ _ f2
    have f3 := s9 _ _ f3
    have f4 := s9 _ _ f4
    have f5 := s9 _ _ f5
    have f6 := s9 _ _ f6
    have f7 := s9 _ _ f7
    have f8 := s9 _ _ f8
    refine ⟨(by show 9 ≤ sizeLine; decide), fun L hL => ?_⟩
    have sL := same_new (o := .lst [V.ref p1, V.ref p2, V.ref p3, V.ref p4, V.ref p5, V.ref p6, V.ref p7, V.ref p8, V.ref p9]) hL
    have bL := (hb.same S).ne hL
    have b10 := (hb.same S).same sL
    have LL : upd G9 L (.lst [V.ref p1, V.ref p2, V.ref p3, V.ref p4, V.ref p5, V.ref p6, V.ref p7, V.ref p8, V.ref p9]) L = some (.lst [V.ref p1, V.ref p2, V.ref p3, V.ref p4, V.ref p5, V.ref p6, V.ref p7, V.ref p8, V.ref p9]) := upd_same
    have S10 := S.trans sL
    generalize upd G9 L (.lst [V.ref p1, V.ref p2, V.ref p3, V.ref p4, V.ref p5, V.ref p6, V.ref p7, V.ref p8, V.ref p9]) = G10 at sL b10 LL S10 ⊢
    refine ⟨_, rfl, pick_use (m := 9) b10 (by decide) (by decide) fun d G11 d0 d9 k11 b11 _ => ?_⟩
    obtain ⟨v, hv, hm⟩ := atI_ex (xs := [V.ref p1, V.ref p2, V.ref p3, V.ref p4, V.ref p5, V.ref p6, V.ref p7, V.ref p8, V.ref p9]) d0 d9
    have fin : ∃ t p m, v = .ref t ∧ G10 t = some (.tup [.int p, .int (m : Nat)]) ∧ H t = none ∧ frOk p m = true := by
      simp only [List.mem_cons, List.not_mem_nil, or_false] at hm
      have n2 := none_back s1 h2
      have n3 := none_back s1 (none_back s2 h3)
      have n4 := none_back s1 (none_back s2 (none_back s3 h4))
      have n5 := none_back s1 (none_back s2 (none_back s3 (none_back s4 h5)))
      have n6 := none_back s1 (none_back s2 (none_back s3 (none_back s4 (none_back s5 h6))))
      have n7 := none_back s1 (none_back s2 (none_back s3 (none_back s4 (none_back s5 (none_back s6 h7)))))
      have n8 := none_back s1 (none_back s2 (none_back s3 (none_back s4 (none_back s5 (none_back s6 (none_back s7 h8))))))
      have n9 := none_back s1 (none_back s2 (none_back s3 (none_back s4 (none_back s5 (none_back s6 (none_back s7 (none_back s8 h9)))))))
      rcases hm with rfl | rfl | rfl | rfl | rfl | rfl | rfl | rfl | rfl
      · exact ⟨p1, 2, 5, rfl, sL _ _ f1, h1, by decide⟩
      · exact ⟨p2, 3, 3, rfl, sL _ _ f2, n2, by decide⟩
      · exact ⟨p3, 2, 4, rfl, sL _ _ f3, n3, by decide⟩
      · exact ⟨p4, 5, 2, rfl, sL _ _ f4, n4, by decide⟩
      · exact ⟨p5, 2, 3, rfl, sL _ _ f5, n5, by decide⟩
      · exact ⟨p6, 3, 2, rfl, sL _ _ f6, n6, by decide⟩
      · exact ⟨p7, 13, 2, rfl, sL _ _ f7, n7, by decide⟩
      · exact ⟨p8, 7, 2, rfl, sL _ _ f8, n8, by decide⟩
      · exact ⟨p9, 11, 1, rfl, sL _ _ f9, n9, by decide⟩
    obtain ⟨t, p, m, rfl, ht, ht0, hf⟩ := fin
    exact ⟨L, _, d, _, rfl, rfl, SqL.of (k11 _ _ LL bL), hv, k G11 t p m ((Kept.of S10).trans k11) b11 ht0 (k11 _ _ ht (tup_ne ht b10.at)) hf⟩
/-! ### _law_amounts -/
theorem numD_put (c : Nat → Nat) {i : Nat} (hi : i < 9) (x : Nat) : putK (dictK (NumD c)) (Sum.inr (KX.kS (kA i))) (.int (x : Nat)) = dictK (NumD fun j => if j = i then x else c j) := by
  have e : ∀ (i : Nat), i < 9 → putK (dictK (NumD c)) (Sum.inr (KX.kS (kA i))) (.int (x : Nat)) = dictK (NumD fun j => if j = i then x else c j) := fun i hi => by
    match i, hi with
    | 0, _ => rfl
    | 1, _ => rfl
    | 2, _ => rfl
    | 3, _ => rfl
    | 4, _ => rfl
    | 5, _ => rfl
    | 6, _ => rfl
    | 7, _ => rfl
    | 8, _ => rfl
  exact e i hi
theorem numD_get (c : Nat → Nat) {j : Nat} (hj : j < 9) : valV (dictK (NumD c)) (Sum.inr (KX.kS (kA j))) = some (.int (c j : Nat)) := by
  rw [dictK_get _ j hj]
  unfold NumD
  rw [(kind_i j hj).2]
theorem SN_put (c : Nat → Nat) {i : Nat} : ∀ k, SN (fun j => if j = i then c i + 1 else c j) k = SN c k + if i < k then kSz i else 0
  | 0 => by simp [SN]
  | k + 1 => by
    show SN (fun j => if j = i then c i + 1 else c j) k + kSz k * (if k = i then c i + 1 else c k) = SN c k + kSz k * c k + if i < k + 1 then kSz i else 0
    rw [SN_put c k]
    by_cases e : k = i
    · subst e
      rw [if_neg (Nat.lt_irrefl _), if_pos rfl, if_pos (Nat.lt_succ_self _), Nat.mul_add]
      generalize kSz k * c k = z
      omega
    · rw [if_neg e]
      by_cases l : i < k
      · rw [if_pos l, if_pos (by omega)]
        generalize kSz k * c k = z
        omega
      · rw [if_neg l, if_neg (by omega)]
        generalize kSz k * c k = z
        omega
      --
def spAmounts : Sp := fun vs H Q _ => ∃ (b : Addr) (m : Nat), vs = [.ref b, .int (m : Nat)] ∧ TapeK H b ∧ m ≤ 20 ∧
  ∀ H' d c, Kept b H H' → TapeK H' b → H d = none → H' d = some (.dK (dictK (NumD c))) → SN c 9 ≤ m → Q (.ref d) H'
abbrev nAmounts : List Str := ["_law_tape_here", "_law_most", "_law_found", "_law_kind", "_law_left", "_law_turn", "_law_size_here"]
theorem sc_amounts : FnScope nAmounts ["_law_tape_here", "_law_most"] (defScope (top jAmounts)) := ⟨rfl, rfl, rfl, by decide +kernel, rfl, by decide +kernel, by decide +kernel⟩
theorem g_amounts (T : TX K mg) : ∃ fd, FnP K "_law_amounts" jAmounts (He.ga K "_law_amounts") fd ∧ FnOk P w K mg base CX0 2 (He.ga K "_law_amounts") fd ["_law_tape_here", "_law_most"] spAmounts ∧ Binds K fd ["_law_tape_here", "_law_most"] [] := by
  obtain ⟨fd, F⟩ := T.def "_law_amounts" jAmounts
  obtain ⟨_, FT, GT, BT⟩ := g_pick (P := P) (w := w) (base := base) T
  obtain ⟨_, FD, GD, BD⟩ := g_kinds (P := P) (w := w) (base := base) T
  refine ⟨fd, F, F.ok sc_amounts (fun vs H Q E h => ?_) (fun cdv A outer s H vs Q E hr h => ?_), F.bindsN fun _ _ _ _ _ _ us hl => match us, hl with | [_, _], _ => rfl⟩
  · obtain ⟨b, m, rfl, _⟩ := h
    rfl
  · obtain ⟨b, m, rfl, hb, hm, k⟩ := h
    have nd := sc_amounts.nd
    have hu := hu_of hr
    have hr1 : Room 1 _ := hr
    refine ⟨_, PSs.nox (pss_cons (ps_set (i := 2) nd rfl (.inl rfl) pe_dnewK) (pss_cons (ps_for PassesOwn.never rfl (pi_list (pe_call0 GD hr1 (by rfl) (T.df "_law_kinds" jKinds) FD.kp BD .nil pass0)) (pg_name (i := 3) nd rfl (.inl rfl)) (pss_one (ps_dput hu (pv 2) (pv 3) (pe_int) rfl))) (pss_cons (ps_set (i := 4) nd rfl (.inl rfl) (pv 1)) (pss_cons (ps_for PassesOwn.never rfl (pi_range1 (by rfl) (T.fr "range") (pa_cons (pv 1) pa_nil)) (pg_name (i := 5) nd rfl (.inl rfl)) (pss_cons (ps_set (i := 3) nd rfl (.inl rfl) (pe_ix ix_list (pe_op op_cat (pe_call0 GD hr1 (by rfl) (T.df "_law_kinds" jKinds) FD.kp BD .nil pass0) (pe_lst (pa_cons pe_str (pa_cons pe_str (pa_cons pe_str pa_nil))))) (pe_call GT hr1 (by rfl) (T.df "_law_pick" jPick) FT.kp BT .nil pass0 (pa_cons (pv 0) (pa_cons pe_int pa_nil))) (fun _ _ => rfl))) (pss_cons (ps_cut (ps_set (i := 6) nd rfl (.inl rfl) (pe_ifExp (pt_cmpR op_eq (pv 3) pe_str (nomark _)) pe_int pe_int))) (pss_one (ps_if (PW.pt (pw_and (pt_cmpR op_ne (pv 3) pe_str (nomark _)) (pw_and1 (pt_cmpR op_le (pv 6) (pv 4) (nomark _))))) (pss_cons (ps_dput hu (pv 2) (pv 3) (pe_op op_add (pe_dget hu (pv 2) (pv 3) (fun _ _ => rfl)) pe_int) rfl) (pss_one (ps_set (i := 4) nd rfl (.inl rfl) (pe_op op_sub (pv 4) (pv 6))))) pss_nil))))) (pss_one (ps_ret (pv 2))))))), ?_⟩
    refine fun d hd => ?_
    have db := hb.ne hd
    have s0 := same_new (o := .dK []) hd
    have d0 : upd H d (.dK []) d = some (.dK ((dictK (NumD fun _ => 0)).take 0)) := upd_same
    have b0 := hb.same s0
    generalize upd H d (.dK []) = H1 at s0 d0 b0 ⊢
    refine ⟨rfl, fun H2 L s2 hL0 hL => ?_⟩
    have Ld : L ≠ d := fun q => by rw [q, d0] at hL0; cases hL0
    have d2 := s2 _ _ d0
    refine ⟨L, rfl, ⟨_, SqL.of hL⟩, for_list (xs := KX.kindV) (fun i σ H' => ∃ z4 : Option V, σ = [some (.ref b), some (.int (m : Nat)), some (.ref d), z4, none, none, none] ∧ Kept d H2 H' ∧ H' d = some (.dK ((dictK (NumD fun _ => 0)).take i))) ⟨none, rfl, Kept.refl, d2⟩ (fun i σ H' _ z => let ⟨_, _, kp, _⟩ := z; SqL.of (kp _ _ hL Ld)) ?_ ?_⟩
    · rintro i x σ H3 hx ⟨z4, rfl, kp, hd3⟩
      obtain ⟨k', hk', rfl⟩ := KX.kind_at hx
      refine ⟨_, rfl, _, rfl, d, _, rfl, .inl ⟨_, Sum.inr (KX.kS k'), hd3, rfl, lt_line (Nat.le_trans (List.length_take_le' _ _) (by show 9 ≤ 100000; decide)), rfl⟩, _, rfl, fun c' o z nn => by rw [upd_ne nn]; exact kp _ _ z nn, ?_⟩
      rw [upd_same]
      show some (HO.dK (putK _ _ (NumD (fun _ => 0) k'))) = _
      rw [dictK_put (NumD fun _ => 0) hk']
    rintro σ H3 ⟨z4, rfl, kp, hd3⟩
    have hd3 : H3 d = some (.dK (dictK (NumD fun _ => 0))) := hd3
    have b3 : TapeK H3 b := (b0.same s2).kept kp (Ne.symm db)
    have K3 : Kept b H H3 := fun c' o z nn => kp _ _ (s2 _ _ (s0 _ _ z)) (ne_of_none z hd)
    refine ⟨_, rfl, ?_⟩
    have eN : ((m : Nat) : Int).toNat = m := Int.toNat_natCast m
    refine ⟨_, rfl, m, rfl, by omega, by omega, for_range (lo := 0) (n := ((m : Nat) : Int).toNat) (fun i σ H' => ∃ (z3 z5 z6 : Option V) (left : Nat) (c : Nat → Nat), σ = [some (.ref b), some (.int (m : Nat)), some (.ref d), z3, some (.int (left : Nat)), z5, z6] ∧ Kept b H H' ∧ TapeK H' b ∧ H' d = some (.dK (dictK (NumD c))) ∧ SN c 9 + left ≤ m) ⟨_, none, none, m, fun _ => 0, rfl, K3, b3, hd3, by show 0 + m ≤ m; omega⟩ ?_ ?_⟩
    · rintro i σ H4 hi ⟨z3, z5, z6, left, c, rfl, k4, b4, hd4, hc⟩
      refine ⟨rfl, fun H5 L s5 hL0 hL => ⟨(by show 3 ≤ sizeLine; decide), fun l2 hl2 => ?_⟩⟩
      have t2 := same_new (o := .lst [V.str "plane", V.str "plane", V.str "none"]) hl2
      refine ⟨L, l2, _, _, rfl, rfl, t2 _ _ hL, upd_same, (by show 12 ≤ sizeLine; decide), fun l3 hl3 => ?_⟩
      have t3 := same_new (o := .lst (KX.kindV ++ [V.str "plane", V.str "plane", V.str "none"])) hl3
      have s3 := s5.trans (t2.trans t3)
      have u3 : upd (upd H5 l2 (.lst [V.str "plane", V.str "plane", V.str "none"])) l3 (.lst (KX.kindV ++ [V.str "plane", V.str "plane", V.str "none"])) l3 = some (.lst (KX.kindV ++ [V.str "plane", V.str "plane", V.str "none"])) := upd_same
      have lb : l3 ≠ b := (b4.same (s5.trans t2)).ne hl3
      generalize upd (upd H5 l2 (.lst [V.str "plane", V.str "plane", V.str "none"])) l3 (.lst (KX.kindV ++ [V.str "plane", V.str "plane", V.str "none"])) = H6 at s3 u3 ⊢
      refine ⟨_, rfl, pick_use (m := 12) (b4.same s3) (by decide) (by decide) fun e H7 e0 e12 k7 b7 _ => ?_⟩
      obtain ⟨v, hv, hm⟩ := atI_ex (xs := KX.kindV ++ [V.str "plane", V.str "plane", V.str "none"]) e0 e12
      refine ⟨l3, _, e, v, rfl, rfl, SqL.of (k7 _ _ u3 lb), hv, ?_⟩
      have hd7 : H7 d = some (.dK (dictK (NumD c))) := k7 _ _ (s3 _ _ hd4) db
      have K7 : Kept b H H7 := k4.trans ((Kept.of s3).trans k7)
      have hcase : (∃ j < 9, v = .str (KX.kS (kA j))) ∨ v = .str "none" := by
        rcases List.mem_append.mp hm with h | h
        · obtain ⟨j, hj⟩ := List.mem_iff_getElem?.mp h
          obtain ⟨k', hk', rfl⟩ := KX.kind_at hj
          have j9 : j < 9 := (List.getElem?_eq_some_iff.mp hj).1
          rw [(kind_i j j9).1] at hk'
          exact .inl ⟨j, j9, by rw [Option.some.inj hk']⟩
        · simp only [List.mem_cons, List.not_mem_nil, or_false] at h
          rcases h with rfl | rfl | rfl
          · exact .inl ⟨8, by decide, rfl⟩
          · exact .inl ⟨8, by decide, rfl⟩
          · exact .inr rfl
      refine ⟨fun σ H' => ∃ s : Nat, σ = [some (.ref b), some (.int (m : Nat)), some (.ref d), some v, some (.int (left : Nat)), some (.int (0 + (i : Int))), some (.int (s : Nat))] ∧ H' = H7 ∧ ∀ j < 9, v = .str (KX.kS (kA j)) → s = kSz j, ?_, ?_⟩
      · rcases hcase with ⟨j, j9, rfl⟩ | rfl
        · refine ⟨_, rfl, rfl, _, rfl, ?_⟩
          rw [KX.kS_pl]
          have e : ∀ j < 9, decide (kA j = PL) = decide (j = 8) := by decide
          rw [e j j9]
          have inj : ∀ j' < 9, V.str (KX.kS (kA j)) = V.str (KX.kS (kA j')) → j' = j := fun j' h' q => by
            have d9 : ∀ j < 9, ∀ j' < 9, V.str (KX.kS (kA j)) = V.str (KX.kS (kA j')) → j' = j := by decide
            exact d9 j j9 j' h' q
          refine ite2 (fun q => ?_) (fun q => ?_)
          · refine ⟨2, rfl, rfl, fun j' h' z => ?_⟩
            rw [inj j' h' z, of_decide_eq_true q]
            rfl
          · refine ⟨1, rfl, rfl, fun j' h' z => ?_⟩
            rw [inj j' h' z]
            unfold kSz
            rw [if_neg (fun h => q (decide_eq_true h))]
        · refine ⟨_, rfl, rfl, _, rfl, iteF ⟨1, rfl, rfl, fun j' h' z => ?_⟩⟩
          have d9 : ∀ j' < 9, V.str "none" ≠ V.str (KX.kS (kA j')) := by decide
          exact absurd z (d9 j' h')
      rintro _ _ ⟨s, rfl, rfl, hs⟩
      rcases hcase with ⟨j, j9, rfl⟩ | rfl
      · obtain rfl := hs j j9 rfl
        refine ⟨_, rfl, rfl, _, rfl, ?_⟩
        have d9 : ∀ j < 9, decide (V.str (KX.kS (kA j)) = V.str "none") = false := by decide
        rw [d9 j j9]
        refine iteT ⟨_, rfl, _, rfl, _, _, rfl, rfl, _, rfl, ite2 (fun q => ?_) (fun q => ?_)⟩
        · have q' : kSz j ≤ left := by have := of_decide_eq_true q; omega
          refine ⟨_, rfl, _, rfl, d, .int (c j : Nat), rfl, .inl ⟨_, Sum.inr (KX.kS (kA j)), .inl hd7, rfl, (numD_get c j9).symm⟩, _, _, rfl, rfl, ?_⟩
          refine ⟨_, rfl, _, rfl, d, _, rfl, .inl ⟨_, Sum.inr (KX.kS (kA j)), hd7, rfl, (by rw [numD_len]; exact lt_line (by decide)), rfl⟩, ?_⟩
          have e1 : V.int ((c j : Nat) + 1 : Int) = V.int ((c j + 1 : Nat) : Int) := rfl
          refine ⟨_, rfl, _, rfl, _, _, rfl, rfl, some (.str (KX.kS (kA j))), some (.int (0 + (i : Int))), some (.int (kSz j : Nat)), left - kSz j, fun l => if l = j then c j + 1 else c l, ?_, fun c' o z nn => by rw [upd_ne (ne_of_none z hd)]; exact K7 _ _ z nn, b7.upd db, ?_, ?_⟩
          · show [_, _, _, _, some (V.int ((left : Int) - ((kSz j : Nat) : Int))), _, _] = _
            rw [show (left : Int) - ((kSz j : Nat) : Int) = ((left - kSz j : Nat) : Int) by omega]
          · rw [upd_same]
            show some (HO.dK (putK (dictK (NumD c)) (Sum.inr (KX.kS (kA j))) (V.int ((c j + 1 : Nat) : Int)))) = _
            rw [numD_put c j9 (c j + 1)]
          · rw [SN_put c 9, if_pos j9]
            omega
        · exact ⟨_, _, _, left, c, rfl, K7, b7, hd7, hc⟩
      · refine ⟨_, rfl, rfl, _, rfl, iteF (iteF ⟨_, _, _, left, c, rfl, K7, b7, hd7, hc⟩)⟩
    · rintro σ H4 ⟨z3, z5, z6, left, c, rfl, k4, b4, hd4, hc⟩
      exact ⟨_, rfl, k H4 d c k4 b4 hd hd4 (by omega)⟩
def spLen2 : Sp := fun vs H Q _ => ∃ (d : Addr) (c : Nat → Nat), vs = [.ref d] ∧ H d = some (.dK (dictK (NumD c))) ∧ (∀ i < 9, c i ≤ 100) ∧ ∀ H', Same H H' → Q (.int (SN c 9 : Nat)) H'
abbrev nLen2 : List Str := ["_law_amounts_here", "_law_kind"]
theorem sc_len2 : FnScope nLen2 ["_law_amounts_here"] (defScope (top jLen)) := ⟨rfl, rfl, rfl, by decide +kernel, rfl, by decide +kernel, by decide +kernel⟩
theorem g_len2 (T : TX K mg) : ∃ fd, FnP K "_law_length" jLen (He.ga K "_law_length") fd ∧ FnOk P w K mg base CX0 1 (He.ga K "_law_length") fd ["_law_amounts_here"] spLen2 ∧ Binds K fd ["_law_amounts_here"] [] := by
  obtain ⟨fd, F⟩ := T.def "_law_length" jLen
  refine ⟨fd, F, F.ok sc_len2 (fun vs H Q E h => ?_) (fun cdv A outer s H vs Q E hr h => ?_), F.bindsN fun _ _ _ _ _ _ us hl => match us, hl with | [_], _ => rfl⟩
  · obtain ⟨d, c, rfl, _⟩ := h
    rfl
  · obtain ⟨d, c, rfl, hd, hc, k⟩ := h
    have nd := sc_len2.nd
    have hu := hu_of hr
    refine ⟨_, PSs.nox (pss_one (ps_ret (pe_op op_add (pe_callB (cr_sum rfl) (by rfl) (T.fr "sum") (by decide +kernel) (pa_cons (pe_lock (pe_lc (own := [("_law_kind", 1)]) (g := gName 1) (by rfl) nd (pi_keys (pv 0)) (blkOk_by (own := [("_law_kind", 1)]) (N := nLen2) (sc := defScope (top jLen)) (by decide +kernel)) (fun _ _ _ _ _ => pg_name (i := 1) nd rfl (Or.inl rfl)) (fun _ _ _ _ _ => pts_nil) (fun _ _ _ _ _ => pe_dget hu (pv 0) (pv 1) (fun _ _ => rfl)))) pa_nil)) (pe_dget hu (pv 0) pe_str (fun _ _ => rfl))))), ?_⟩
    refine ⟨d, _, hd, trivial, fun od => ?_⟩
    obtain ⟨H1, e1⟩ : ∃ H1, H1 = upd H d (.frz od (.dK (dictK (NumD c)))) := ⟨_, rfl⟩
    have hd1 : H1 d = some (.frz od (.dK (dictK (NumD c)))) := by rw [e1]; exact upd_same
    rw [← e1]
    refine ⟨_, rfl, d, od, rfl, .inl ⟨_, hd1, fun D hD => lc_it walk_keys (fun i H' => Same H1 H' ∧ H' D = some (.lst ((((List.range 9).map fun i => (c i : Int)).take i).map V.int))) ⟨same_new hD, upd_same⟩ (fun i H' _ z => z.1 _ _ hd1) ?_ ?_⟩⟩
    · rintro i x Ha Hb hi ⟨sm, hz⟩ ⟨rfl, k', v', hkv, rfl⟩
      rw [numD_len] at hi
      rw [numD_at c hi] at hkv
      cases hkv
      refine ⟨rfl, yes_if ?_⟩
      refine ⟨_, rfl, _, rfl, d, .int (c i : Nat), rfl, .inl ⟨_, Sum.inr (KX.kS (kA i)), .inr ⟨od, sm _ _ hd1⟩, rfl, (numD_get c hi).symm⟩, _, hz, lt_line (by rw [List.length_map]; have := List.length_take_le i ((List.range 9).map fun i => (c i : Int)); simp at this; simp; omega), Same.grow sm hD, ?_⟩
      have e0 : ((List.range 9).map fun i => (c i : Int))[i]? = some ((c i : Int)) := by rw [List.getElem?_map, List.getElem?_range hi]; rfl
      rw [upd_same, take_more e0]
    · rintro H' ⟨sm, hz⟩
      rw [numD_len, List.take_of_length_le (by simp)] at hz
      have nD : D ≠ d := fun z => by rw [z, hd1] at hD; cases hD
      have dd : upd H' d (.dK (dictK (NumD c))) d = some (.dK (dictK (NumD c))) := upd_same
      have sU := unlock hd e1 sm
      refine ⟨sm _ _ hd1, D, _, rfl, SqL.of (by rw [upd_ne nD]; exact hz), ?_⟩
      refine ⟨_, rfl, d, .int (c 8 : Nat), rfl, .inl ⟨_, Sum.inr (KX.kS (kA 8)), .inl dd, rfl, (numD_get c (by decide)).symm⟩, _, _, rfl, rfl, ?_⟩
      have ev : ((List.range 9).map fun i => (c i : Int)).sum + ((c 8 : Nat) : Int) = ((SN c 9 : Nat) : Int) := by
        rw [← SN_sum]
        show (c 0 : Int) + ((c 1 : Int) + ((c 2 : Int) + ((c 3 : Int) + ((c 4 : Int) + ((c 5 : Int) + ((c 6 : Int) + ((c 7 : Int) + ((c 8 : Int) + 0)))))))) + (c 8 : Int) = ((1 : Nat) : Int) * (c 0 : Int) + (((1 : Nat) : Int) * (c 1 : Int) + (((1 : Nat) : Int) * (c 2 : Int) + (((1 : Nat) : Int) * (c 3 : Int) + (((1 : Nat) : Int) * (c 4 : Int) + (((1 : Nat) : Int) * (c 5 : Int) + (((1 : Nat) : Int) * (c 6 : Int) + (((1 : Nat) : Int) * (c 7 : Int) + (((2 : Nat) : Int) * (c 8 : Int) + 0))))))))
        omega
      dsimp only
      rw [ev]
      exact k _ sU
end
end KV

set_option Elab.async false
set_option linter.all false
set_option maxRecDepth 100000
set_option maxHeartbeats 4000000
/-! # rows, mixed and drawn -/
namespace KV
open PySem PySem.Spec PyProof.Rows L2 VX RX
section
variable {P : Program} {w : World} {K : PySem.W.Frag} {mg : Str → Option Value} {base : Heap} {f : Addr} {fd : FuncData}
open RX KW
/-- the rows of the three hands -/
structure HL (ok : List Int → Prop) (H : Hp) (e : Addr) (L : Nat → Addr) (N : Nat) : Prop where
  he : H e = some (.dK (kD [L 0, L 1, L 2]))
  row : ∀ j < 3, ∃ (xs : List Addr) (rs : List (List Int)), H (L j) = some (.lst (xs.map V.ref)) ∧ AreRows H xs rs ∧ (∀ r ∈ rs, ok r) ∧ xs.length ≤ N
theorem HL.same {ok : List Int → Prop} {H H' : Hp} {e : Addr} {L : Nat → Addr} {N : Nat} (s : Same H H') (h : HL ok H e L N) : HL ok H' e L N := ⟨s _ _ h.he, fun j hj => let ⟨xs, rs, h1, h2, h3⟩ := h.row j hj; ⟨xs, rs, s _ _ h1, h2.same s, h3⟩⟩
theorem rows_keptL {H H' : Hp} {b : Addr} (k : Kept b H H') (hb : ∃ ys, H b = some (.lst ys)) : ∀ {as : List Addr} {rs : List (List Int)}, AreRows H as rs → AreRows H' as rs
  | _, _, .nil => .nil
  | _, _, .cons h t => .cons (k _ _ h (tup_ne h hb)) (rows_keptL k hb t)
theorem HL.kept {ok : List Int → Prop} {H H' : Hp} {b e : Addr} {L : Nat → Addr} {N : Nat} (k : Kept b H H') (hb : ∃ ys, H b = some (.lst ys)) (hL : ∀ j < 3, L j ≠ b) (h : HL ok H e L N) : HL ok H' e L N := by
  obtain ⟨ys, hy⟩ := hb
  refine ⟨k _ _ h.he fun q => ?_, fun j hj => ?_⟩
  · have := h.he
    rw [q, hy] at this
    cases this
  · obtain ⟨xs, rs, h1, h2, h3⟩ := h.row j hj
    exact ⟨xs, rs, k _ _ h1 (hL j hj), rows_keptL k ⟨ys, hy⟩ h2, h3⟩
theorem HL.imp {ok ok' : List Int → Prop} {H : Hp} {e : Addr} {L : Nat → Addr} {N M : Nat} (i : ∀ r, ok r → ok' r) (l : N ≤ M) (h : HL ok H e L N) : HL ok' H e L M := ⟨h.he, fun j hj => let ⟨xs, rs, h1, h2, h3, h4⟩ := h.row j hj; ⟨xs, rs, h1, h2, fun r m => i r (h3 r m), Nat.le_trans h4 l⟩⟩
theorem HL.get {ok : List Int → Prop} {H : Hp} {e : Addr} {L : Nat → Addr} {N : Nat} (h : HL ok H e L N) {j : Nat} (hj : j < 3) : DGet H e (kV (kDk j)) (some (.ref (L j))) := .inl ⟨_, kDk j, .inl h.he, rfl, by
  match j, hj with
  | 0, _ => rfl
  | 1, _ => rfl
  | 2, _ => rfl⟩
/-- a row behind a hand's rows -/
theorem HL.push {ok : List Int → Prop} {H : Hp} {e : Addr} {L : Nat → Addr} {N : Nat} (h : HL ok H e L N) (ne : ∀ i < 3, ∀ j < 3, i ≠ j → L i ≠ L j) {j : Nat} (hj : j < 3) {xs : List V} (hx : H (L j) = some (.lst xs)) {c : Addr} {r : List Int} (hc : IsRow H c r) (hr : ok r) :
    xs.length ≤ N ∧ HL ok (upd H (L j) (.lst (xs ++ [.ref c]))) e L (N + 1) := by
  obtain ⟨as, rs, h1, h2, h3, h4⟩ := h.row j hj
  rw [hx] at h1
  obtain rfl := HO.lst.inj (Option.some.inj h1)
  rw [List.length_map]
  refine ⟨h4, ?_, fun i hi => ?_⟩
  · rw [upd_ne (fun q => by have := h.he; rw [q, hx] at this; cases this)]
    exact h.he
  by_cases q : i = j
  · subst q
    refine ⟨as ++ [c], rs ++ [r], by rw [upd_same, List.map_append]; rfl, (h2.append (.cons hc .nil)).upd hx, fun z m => ?_, by rw [List.length_append, List.length_singleton]; omega⟩
    rcases List.mem_append.mp m with m | m
    · exact h3 z m
    · rw [List.mem_singleton.mp m]; exact hr
  · obtain ⟨as', rs', k1, k2, k3, k4⟩ := h.row i hi
    exact ⟨as', rs', by rw [upd_ne (ne i hi j hj q)]; exact k1, k2.upd hx, k3, by omega⟩
def Bit (n : Nat) (r : List Int) : Prop := r.length = n ∧ ∀ x ∈ r, x = 0 ∨ x = 1
theorem unit_bit {n i : Nat} : Bit n (unitR n i) := by
  refine ⟨by simp [unitR], fun x hx => ?_⟩
  unfold unitR at hx
  obtain ⟨j, _, rfl⟩ := List.mem_map.mp hx
  split
  · exact .inr rfl
  · exact .inl rfl
/-- the sum of two units -/
def unit2 (n i : Nat) : List Int := (List.range n).map fun k => at0 (unitR n i) k + at0 (unitR n (i + 1)) k
theorem unit2_bit {n i : Nat} : Bit n (unit2 n i) := by
  refine ⟨by simp [unit2], fun x hx => ?_⟩
  unfold unit2 at hx
  obtain ⟨j, hj, rfl⟩ := List.mem_map.mp hx
  rw [at0_unit (List.mem_range.mp hj), at0_unit (List.mem_range.mp hj)]
  by_cases h : j = i
  · rw [if_pos h, if_neg (by omega)]; exact .inr rfl
  · rw [if_neg h]
    split
    · exact .inr rfl
    · exact .inl rfl
theorem Bit.row {p : Int} {n : Nat} {r : List Int} (hp : 2 ≤ p) (h : Bit n r) : Row p n r := ⟨h.1, fun x hx => by rcases h.2 x hx with e | e <;> omega⟩
/-! ### _law_rows -/
def spRows2 : Sp := fun vs H Q _ => ∃ (d : Addr) (c : Nat → Nat), vs = [.ref d] ∧ H d = some (.dK (dictK (NumD c))) ∧ (∀ i < 9, c i ≤ 100) ∧ SN c 9 ≤ 20 ∧
  ∀ H' e L, Same H H' → H e = none → (∀ j < 3, H (L j) = none) → (∀ i < 3, ∀ j < 3, i ≠ j → L i ≠ L j) → HL (Bit (SN c 9)) H' e L 100 → Q (.ref e) H'
/-- the hands of a kind, by their keys -/
theorem kind_hands : ∀ i < 8, ∀ t < (kA i).length, ∃ j, j < 3 ∧ (kA i)[t]? = some (97 + j) := by decide
theorem kind_short : ∀ i < 8, (kA i).length ≤ 3 := by decide
theorem key_hand : ∀ j < 3, V.str ⟨#[97 + j]⟩ = kV (kDk j) := by decide
abbrev nRows2 : List Str := ["_law_amounts_here", "_law_length_here", "_law_found", "_law_place", "_law_kind", "_law_turn", "_law_one", "_law_other", "_law_hand", "_law_k"]
theorem sc_rows2 : FnScope nRows2 ["_law_amounts_here"] (defScope (top jRows)) := ⟨rfl, rfl, rfl, by decide +kernel, rfl, by decide +kernel, by decide +kernel⟩
theorem g_rows2 (T : TX K mg) : ∃ fd, FnP K "_law_rows" jRows (He.ga K "_law_rows") fd ∧ FnOk P w K mg base CX0 2 (He.ga K "_law_rows") fd ["_law_amounts_here"] spRows2 ∧ Binds K fd ["_law_amounts_here"] [] := by
  obtain ⟨fd, F⟩ := T.def "_law_rows" jRows
  obtain ⟨_, FL, GL, BL⟩ := g_len2 (P := P) (w := w) (base := base) T
  obtain ⟨_, FD, GD, BD⟩ := g_kinds (P := P) (w := w) (base := base) T
  obtain ⟨_, FN, GN, BN⟩ := g_unit2 (P := P) (w := w) (base := base) T
  refine ⟨fd, F, F.ok sc_rows2 (fun vs H Q E h => ?_) (fun cdv A outer s H vs Q E hr h => ?_), F.bindsN fun _ _ _ _ _ _ us hl => match us, hl with | [_], _ => rfl⟩
  · obtain ⟨d, c, rfl, _⟩ := h
    rfl
  · obtain ⟨d, c, rfl, hd, hc, hN, k⟩ := h
    have nd := sc_rows2.nd
    have hu := hu_of hr
    have hr1 : Room 1 _ := hr
    refine ⟨_, PSs.nox (pss_cons (ps_set (i := 1) nd rfl (.inl rfl) (pe_call GL hr1 (by rfl) (T.df "_law_length" jLen) FL.kp BL .nil pass0 (pa_cons (pv 0) pa_nil))) (pss_cons (ps_set (i := 2) nd rfl (.inl rfl) (pe_disp (pps_cons (pe_str) (pe_lst pa_nil) (pps_cons (pe_str) (pe_lst pa_nil) (pps_cons (pe_str) (pe_lst pa_nil) pps_nil))) rfl rfl (by simp) (by decide))) (pss_cons (ps_set (i := 3) nd rfl (.inl rfl) pe_int) (pss_cons (ps_for PassesOwn.never rfl (pi_list (pe_call0 GD hr1 (by rfl) (T.df "_law_kinds" jKinds) FD.kp BD .nil pass0)) (pg_name (i := 4) nd rfl (.inl rfl)) (pss_one (ps_for PassesOwn.never rfl (pi_range1 (by rfl) (T.fr "range") (pa_cons (pe_dget hu (pv 0) (pv 4) (fun _ _ => rfl)) pa_nil)) (pg_name (i := 5) nd rfl (.inl rfl)) (pss_cons (ps_if (pt_cmpR op_eq (pv 4) pe_str (nomark _)) (pss_cons (ps_asg (pe_tup (pa_cons (pe_call GN hr1 (by rfl) (T.df "_law_unit" jUnit) FN.kp BN .nil pass0 (pa_cons (pv 1) (pa_cons (pv 3) pa_nil))) (pa_cons (pe_call GN hr1 (by rfl) (T.df "_law_unit" jUnit) FN.kp BN .nil pass0 (pa_cons (pv 1) (pa_cons (pe_op op_add (pv 3) pe_int) pa_nil))) pa_nil))) (pg_tup (by rfl) (pgs_cons (pg_name (i := 6) nd rfl (.inr rfl)) (pgs_cons (pg_name (i := 7) nd rfl (.inr rfl)) pgs_nil)))) (pss_cons (ps_expr (pe_bm PySem.F.plainAttrs_list PySem.F.slot_list_append PySem.F.type_list_append mt_append (pe_dget hu (pv 2) pe_str (fun _ _ => rfl)) (pa_cons (pv 6) pa_nil))) (pss_cons (ps_expr (pe_bm PySem.F.plainAttrs_list PySem.F.slot_list_append PySem.F.type_list_append mt_append (pe_dget hu (pv 2) pe_str (fun _ _ => rfl)) (pa_cons (pv 7) pa_nil))) (pss_cons (ps_expr (pe_bm PySem.F.plainAttrs_list PySem.F.slot_list_append PySem.F.type_list_append mt_append (pe_dget hu (pv 2) pe_str (fun _ _ => rfl)) (pa_cons (pe_callTy call_tuple_of (by rfl) (T.fr "tuple") (by decide +kernel) (pa_cons (pe_lc (own := [("_law_k", 9)]) (g := gName 9) (by rfl) nd (pi_range1 (by rfl) (T.fr "range") (pa_cons (pv 1) pa_nil)) (blkOk_by (own := [("_law_k", 9)]) (N := nRows2) (sc := defScope (top jRows)) (by decide +kernel)) (fun _ _ _ _ _ => pg_name (i := 9) nd rfl (Or.inl rfl)) (fun _ _ _ _ _ => pts_nil) (fun _ _ _ _ _ => pe_op op_add (pe_ix (r := rIxT K) ix_tup (pv 6) (pv 9) (fun _ _ => rfl)) (pe_ix (r := rIxT K) ix_tup (pv 7) (pv 9) (fun _ _ => rfl)))) pa_nil)) pa_nil))) (pss_one (ps_set (i := 3) nd rfl (.inl rfl) (pe_op op_add (pv 3) pe_int))))))) (pss_one (ps_for PassesOwn.never rfl (pi_str (pv 4)) (pg_name (i := 8) nd rfl (.inl rfl)) (pss_one (ps_expr (pe_bm PySem.F.plainAttrs_list PySem.F.slot_list_append PySem.F.type_list_append mt_append (pe_dget hu (pv 2) (pv 8) (fun _ _ => rfl)) (pa_cons (pe_call GN hr1 (by rfl) (T.df "_law_unit" jUnit) FN.kp BN .nil pass0 (pa_cons (pv 1) (pa_cons (pv 3) pa_nil))) pa_nil))))))) (pss_one (ps_set (i := 3) nd rfl (.inl rfl) (pe_op op_add (pv 3) pe_int))))))) (pss_one (ps_ret (pv 2))))))), ?_⟩
    obtain ⟨n, hn⟩ : ∃ n, n = SN c 9 := ⟨_, rfl⟩
    rw [← hn] at k
    refine ⟨_, rfl, d, c, rfl, hd, hc, fun H1 s1 => ?_⟩
    rw [← hn]
    refine fun e he => ⟨(by show 0 ≤ sizeLine; decide), fun l0 h0 => ⟨(by show 0 ≤ sizeLine; decide), fun l1 h1 => ⟨(by show 0 ≤ sizeLine; decide), fun l2 h2 => ?_⟩⟩⟩
    have t1 := same_new (o := .dK []) he
    have t2 := same_new (o := .lst []) h0
    have t3 := same_new (o := .lst []) h1
    have t4 := same_new (o := .lst []) h2
    have f0 := none_back t1 h0
    have f1 := none_back t1 (none_back t2 h1)
    have f2 := none_back t1 (none_back t2 (none_back t3 h2))
    have e4 : upd (upd (upd (upd H1 e (.dK [])) l0 (.lst [])) l1 (.lst [])) l2 (.lst []) e = some (.dK []) := t4 _ _ (t3 _ _ (t2 _ _ upd_same))
    have a0 : upd (upd (upd (upd H1 e (.dK [])) l0 (.lst [])) l1 (.lst [])) l2 (.lst []) l0 = some (.lst []) := t4 _ _ (t3 _ _ upd_same)
    have a1 : upd (upd (upd (upd H1 e (.dK [])) l0 (.lst [])) l1 (.lst [])) l2 (.lst []) l1 = some (.lst []) := t4 _ _ upd_same
    have a2 : upd (upd (upd (upd H1 e (.dK [])) l0 (.lst [])) l1 (.lst [])) l2 (.lst []) l2 = some (.lst []) := upd_same
    have n01 : l0 ≠ l1 := fun q => by rw [← q, upd_same] at h1; cases h1
    have n02 : l0 ≠ l2 := fun q => by rw [← q, t3 _ _ upd_same] at h2; cases h2
    have n12 : l1 ≠ l2 := fun q => by rw [← q, upd_same] at h2; cases h2
    have S4 : Same H1 (upd (upd (upd (upd H1 e (.dK [])) l0 (.lst [])) l1 (.lst [])) l2 (.lst [])) := t1.trans (t2.trans (t3.trans t4))
    generalize upd (upd (upd (upd H1 e (.dK [])) l0 (.lst [])) l1 (.lst [])) l2 (.lst []) = H4 at e4 a0 a1 a2 S4 ⊢
    refine ⟨e4, [(Sum.inr "a", .ref l0), (Sum.inr "b", .ref l1), (Sum.inr "c", .ref l2)], rfl, (by show 3 ≤ 15; decide), ?_⟩
    have S5 : Same H1 (upd H4 e (.dK (mergeK [] [(Sum.inr "a", .ref l0), (Sum.inr "b", .ref l1), (Sum.inr "c", .ref l2)]))) := fun c' o z => by rw [upd_ne (ne_of_none z he)]; exact S4 _ _ z
    obtain ⟨L, hL0, hL1, hL2⟩ : ∃ L : Nat → Addr, L 0 = l0 ∧ L 1 = l1 ∧ L 2 = l2 := ⟨fun j => if j = 0 then l0 else if j = 1 then l1 else l2, rfl, rfl, rfl⟩
    have ne3 : ∀ i < 3, ∀ j < 3, i ≠ j → L i ≠ L j := fun i hi j hj q => by
      match i, hi, j, hj with
      | 0, _, 0, _ => exact absurd rfl q
      | 0, _, 1, _ => rw [hL0, hL1]; exact n01
      | 0, _, 2, _ => rw [hL0, hL2]; exact n02
      | 1, _, 0, _ => rw [hL0, hL1]; exact Ne.symm n01
      | 1, _, 1, _ => exact absurd rfl q
      | 1, _, 2, _ => rw [hL1, hL2]; exact n12
      | 2, _, 0, _ => rw [hL0, hL2]; exact Ne.symm n02
      | 2, _, 1, _ => rw [hL1, hL2]; exact Ne.symm n12
      | 2, _, 2, _ => exact absurd rfl q
    have fr3 : ∀ j < 3, H1 (L j) = none := fun j hj => by
      match j, hj with
      | 0, _ => rw [hL0]; exact f0
      | 1, _ => rw [hL1]; exact f1
      | 2, _ => rw [hL2]; exact f2
    have hl5 : HL (Bit n) (upd H4 e (.dK (mergeK [] [(Sum.inr "a", .ref l0), (Sum.inr "b", .ref l1), (Sum.inr "c", .ref l2)]))) e L 0 := by
      refine ⟨by rw [upd_same, hL0, hL1, hL2]; rfl, fun j hj => ?_⟩
      have ej : ∀ l, H4 l = some (.lst []) → l ≠ e := fun l h q => by rw [q, e4] at h; cases h
      match j, hj with
      | 0, _ => rw [hL0]; exact ⟨[], [], by rw [upd_ne (ej _ a0)]; exact a0, .nil, (fun _ h => nomatch h), Nat.le_refl _⟩
      | 1, _ => rw [hL1]; exact ⟨[], [], by rw [upd_ne (ej _ a1)]; exact a1, .nil, (fun _ h => nomatch h), Nat.le_refl _⟩
      | 2, _ => rw [hL2]; exact ⟨[], [], by rw [upd_ne (ej _ a2)]; exact a2, .nil, (fun _ h => nomatch h), Nat.le_refl _⟩
    generalize upd H4 e (.dK (mergeK [] [(Sum.inr "a", .ref l0), (Sum.inr "b", .ref l1), (Sum.inr "c", .ref l2)])) = H5 at S5 hl5 ⊢
    clear e4 a0 a1 a2 S4 t1 t2 t3 t4 h0 h1 h2
    -- old: what stands below
    refine ⟨rfl, fun H6 M s6 hM0 hM => ?_⟩
    have S6 := S5.trans s6
    have hl6 := hl5.same s6
    have hd6 := S6 _ _ (s1 _ _ hd)
    have LM : ∀ j < 3, L j ≠ M := fun j hj q => by
      obtain ⟨xs, rs, h1, _⟩ := hl5.row j hj
      rw [q, hM0] at h1
      cases h1
    have eM : e ≠ M := fun q => by
      have h1 := hl5.he
      rw [q, hM0] at h1
      cases h1
    have lenU : ∀ {i : Nat}, (unitR n i).length = n := fun {i} => by simp [unitR]
    -- a row put behind
    have app : ∀ {H' : Hp} {N j : Nat} {a : Addr} {r : List Int}, Same H1 H' → H' M = some (.lst KX.kindV) → HL (Bit n) H' e L N → j < 3 → N ≤ 1000 → IsRow H' a r → Bit n r →
        ∃ xs, H' (L j) = some (.lst xs) ∧ xs.length < sizeLine ∧ Same H1 (upd H' (L j) (.lst (xs ++ [.ref a]))) ∧ upd H' (L j) (.lst (xs ++ [.ref a])) M = some (.lst KX.kindV) ∧ HL (Bit n) (upd H' (L j) (.lst (xs ++ [.ref a]))) e L (N + 1) ∧ (∀ a' r', IsRow H' a' r' → IsRow (upd H' (L j) (.lst (xs ++ [.ref a]))) a' r') := by
      intro H' N j a r sm hM' hl hj hN ha hr
      obtain ⟨as, rs, h1, h2, h3, h4⟩ := hl.row j hj
      obtain ⟨k1, k2⟩ := hl.push ne3 hj h1 ha hr
      refine ⟨as.map V.ref, h1, lt_line (by rw [List.length_map]; omega), fun c' o z => ?_, ?_, k2, fun a' r' h => ?_⟩
      · rw [upd_ne (ne_of_none z (fr3 j hj))]; exact sm _ _ z
      · rw [upd_ne (Ne.symm (LM j hj))]; exact hM'
      · show upd _ _ _ a' = _
        rw [upd_ne (tup_ne h ⟨_, h1⟩)]; exact h
    refine ⟨M, rfl, ⟨_, SqL.of hM⟩, for_list (xs := KX.kindV) (fun i σ H' => ∃ (place : Nat) (z4 z5 z6 z7 z8 : Option V), σ = [some (.ref d), some (.int (n : Nat)), some (.ref e), some (.int (place : Nat)), z4, z5, z6, z7, z8, none] ∧ Same H1 H' ∧ H' M = some (.lst KX.kindV) ∧ HL (Bit n) H' e L (3 * place) ∧ place = SN c i) ⟨0, none, none, none, none, none, rfl, S6, hM, hl6, rfl⟩ (fun i σ H' _ z => let ⟨_, _, _, _, _, _, _, _, q, _⟩ := z; SqL.of q) ?_ ?_⟩
    · rintro i x σ H7 hx ⟨place, z4, z5, z6, z7, z8, rfl, S7, hM7, hl7, hpl⟩
      have hi : i < 9 := (List.getElem?_eq_some_iff.mp hx).1
      obtain ⟨k', hk', rfl⟩ := KX.kind_at hx
      rw [(kind_i i hi).1] at hk'
      obtain rfl := Option.some.inj hk'
      have ci := hc i hi
      have SNi : SN c (i + 1) ≤ SN c 9 := SN_le c (by omega)
      have SNs : SN c (i + 1) = SN c i + kSz i * c i := rfl
      refine ⟨_, rfl, _, rfl, d, .int (c i : Nat), rfl, .inl ⟨_, Sum.inr (KX.kS (kA i)), .inl (S7 _ _ (s1 _ _ hd)), rfl, (numD_get c hi).symm⟩, ((c i : Nat) : Int), rfl, by omega, by omega, for_range (lo := 0) (n := ((c i : Nat) : Int).toNat) (fun t σ H' => ∃ (place : Nat) (z5 z6 z7 z8 : Option V), σ = [some (.ref d), some (.int (n : Nat)), some (.ref e), some (.int (place : Nat)), some (.str (KX.kS (kA i))), z5, z6, z7, z8, none] ∧ Same H1 H' ∧ H' M = some (.lst KX.kindV) ∧ HL (Bit n) H' e L (3 * place) ∧ place = SN c i + kSz i * t) ⟨place, z5, z6, z7, z8, rfl, S7, hM7, hl7, by rw [hpl]; rfl⟩ ?_ ?_⟩
      · rintro t σ H8 ht ⟨pl, y5, y6, y7, y8, rfl, S8, hM8, hl8, hp8⟩
        have ht' : t < c i := by omega
        have kz : kSz i = 1 ∨ kSz i = 2 := by unfold kSz; split <;> simp
        have pl20 : pl ≤ 20 := by
          have h1 : kSz i * t ≤ kSz i * c i := Nat.mul_le_mul (Nat.le_refl _) (by omega)
          omega
        have e9 : ∀ j < 9, decide (kA j = PL) = decide (j = 8) := by decide
        refine ⟨_, rfl, rfl, _, rfl, ?_⟩
        rw [KX.kS_pl, e9 i hi]
        refine ite2 (fun q => ?_) (fun q => ?_)
        · obtain rfl : i = 8 := of_decide_eq_true q
          refine ⟨_, rfl, _, rfl, n, pl, rfl, by omega, fun H9 a s9 _ ha => ?_⟩
          refine ⟨_, rfl, _, rfl, _, _, rfl, rfl, n, pl + 1, rfl, by omega, fun Ha b sa _ hb => ?_⟩
          have ha' := sa _ _ ha
          refine ⟨(by show 2 ≤ sizeLine; decide), fun p hp => ⟨p, _, rfl, SqT.of upd_same, rfl, _, _, rfl, _, _, rfl, rfl, ?_⟩⟩
          have sp := same_new (o := .tup [V.ref a, V.ref b]) hp
          have S9 := S8.trans (s9.trans (sa.trans sp))
          have hM9 := sp _ _ (sa _ _ (s9 _ _ hM8))
          have hl9 := hl8.same (s9.trans (sa.trans sp))
          have ha9 : IsRow _ a (unitR n pl) := sp _ _ ha'
          have hb9 : IsRow _ b (unitR n (pl + 1)) := sp _ _ hb
          generalize upd Ha p (.tup [V.ref a, V.ref b]) = Hb at S9 hM9 hl9 ha9 hb9 ⊢
          obtain ⟨xs0, g1, g2, S10, hM10, hl10, tr10⟩ := app (j := 0) S9 hM9 hl9 (by decide) (by omega) ha9 unit_bit
          refine ⟨_, rfl, e, _, rfl, hl9.get (j := 0) (by decide), .inl ⟨rfl, _, SqL.of g1⟩, _, rfl, L 0, xs0, _, rfl, rfl, g1, g2, ?_⟩
          have ha10 := tr10 _ _ ha9
          have hb10 := tr10 _ _ hb9
          generalize upd Hb (L 0) (.lst (xs0 ++ [.ref a])) = Hc at S10 hM10 hl10 ha10 hb10 ⊢
          obtain ⟨xs1, g3, g4, S11, hM11, hl11, tr11⟩ := app (j := 1) S10 hM10 hl10 (by decide) (by omega) hb10 unit_bit
          refine ⟨_, rfl, e, _, rfl, hl10.get (j := 1) (by decide), .inl ⟨rfl, _, SqL.of g3⟩, _, rfl, L 1, xs1, _, rfl, rfl, g3, g4, ?_⟩
          have ha11 := tr11 _ _ ha10
          have hb11 := tr11 _ _ hb10
          generalize upd Hc (L 1) (.lst (xs1 ++ [.ref b])) = Hd at S11 hM11 hl11 ha11 hb11 ⊢
          have eN : ((n : Nat) : Int).toNat = n := Int.toNat_natCast n
          obtain ⟨as2, _, q2, _⟩ := hl11.row 2 (by decide)
          refine ⟨_, rfl, e, _, rfl, hl11.get (j := 2) (by decide), .inl ⟨rfl, _, SqL.of q2⟩, _, rfl, n, rfl, by omega, by omega, fun D hD => lc_it (walk_range (lo := 0) (n := ((n : Nat) : Int).toNat)) (fun i H' => H' = upd Hd D (.lst (((unit2 n pl).take i).map V.int))) rfl (fun _ _ _ _ => trivial) ?_ ?_⟩
          · rintro j v Hx Hy hj rfl ⟨rfl, rfl⟩
            rw [eN] at hj
            have sD := same_new (o := .lst (((unit2 n pl).take j).map V.int)) hD
            have aj : ∀ {u : Nat}, atI ((unitR n u).map V.int) (0 + (j : Int)) = some (.int (at0 (unitR n u) j)) := fun {u} => by
              rw [Int.zero_add]
              exact atI_row (by rw [lenU]; exact hj)
            refine ⟨rfl, yes_if ?_⟩
            refine ⟨_, rfl, _, rfl, a, _, _, _, rfl, rfl, SqT.of (sD _ _ ha11), aj, _, rfl, _, rfl, b, _, _, _, rfl, rfl, SqT.of (sD _ _ hb11), aj, _, _, rfl, rfl, _, upd_same, lt_line (by rw [List.length_map]; have := List.length_take_le j (unit2 n pl); have : (unit2 n pl).length = n := unit2_bit.1; omega), ?_⟩
            have eu : (unit2 n pl)[j]? = some (at0 (unitR n pl) j + at0 (unitR n (pl + 1)) j) := by
              unfold unit2
              rw [List.getElem?_map, List.getElem?_range hj]
              rfl
            rw [upd_upd, take_more eu]
          rintro _ rfl
          rw [eN, List.take_of_length_le (Nat.le_of_eq (unit2_bit (n := n) (i := pl)).1)]
          refine ⟨D, _, rfl, .inl ⟨SqL.of upd_same, fun t2 ht2 => ?_⟩⟩
          have s2 := same_two (a := D) (b := t2) (o := .lst ((unit2 n pl).map V.int)) (u := .tup ((unit2 n pl).map V.int)) hD ht2
          have ht3 : IsRow (upd (upd Hd D (.lst ((unit2 n pl).map V.int))) t2 (.tup ((unit2 n pl).map V.int))) t2 (unit2 n pl) := upd_same
          generalize upd (upd Hd D (.lst ((unit2 n pl).map V.int))) t2 (.tup ((unit2 n pl).map V.int)) = He at s2 ht3 ⊢
          obtain ⟨xs2, g5, g6, S12, hM12, hl12, tr12⟩ := app (j := 2) (S11.trans s2) (s2 _ _ hM11) (hl11.same s2) (by decide) (by omega) ht3 unit2_bit
          refine ⟨L 2, xs2, _, rfl, rfl, g5, g6, ?_⟩
          refine ⟨_, rfl, _, _, rfl, rfl, _, rfl, _, _, rfl, rfl, pl + 1 + 1, _, _, _, _, rfl, S12, hM12, hl12.imp (fun _ h => h) (by omega), ?_⟩
          show _ = SN c 8 + 2 * (t + 1)
          have : pl = SN c 8 + 2 * t := hp8
          omega
        · have i8 : i < 8 := by
            have : i ≠ 8 := fun z => q (decide_eq_true z)
            omega
          have k1 : kSz i = 1 := by unfold kSz; rw [if_neg (by omega)]
          have sh := kind_short i i8
          have ksz : (KX.kS (kA i)).cps.size = (kA i).length := by rw [← Array.length_toList, KX.kS_list]
          refine ⟨_, rfl, _, rfl, for_it walk_str (fun u σ H' => ∃ z8 : Option V, σ = [some (.ref d), some (.int (n : Nat)), some (.ref e), some (.int (pl : Nat)), some (.str (KX.kS (kA i))), some (.int (0 + (t : Int))), y6, y7, z8, none] ∧ Same H1 H' ∧ H' M = some (.lst KX.kindV) ∧ HL (Bit n) H' e L (3 * pl + u)) ⟨y8, rfl, S8, hM8, hl8⟩ (fun _ _ _ _ _ => trivial) ?_ ?_⟩
          · rintro u v σ Ha Hb hu ⟨z8, rfl, Sa, hMa, hla⟩ ⟨rfl, ch, hch, rfl⟩
            rw [ksz] at hu
            obtain ⟨j, hj, ej⟩ := kind_hands i i8 u hu
            have ec : ch = 97 + j := by
              have h1 : (KX.kS (kA i)).cps[u]? = (kA i)[u]? := by rw [← Array.getElem?_toList, KX.kS_list]
              rw [h1, ej] at hch
              exact (Option.some.inj hch).symm
            subst ec
            obtain ⟨asj, _, qj, _⟩ := hla.row j hj
            refine ⟨_, rfl, _, rfl, e, .ref (L j), rfl, ?_, .inl ⟨rfl, _, SqL.of qj⟩, ?_⟩
            · rw [key_hand j hj]
              exact hla.get hj
            refine ⟨_, rfl, _, rfl, n, pl, rfl, by omega, fun Hc a sc _ ha => ?_⟩
            obtain ⟨xs, g1, g2, Sd, hMd, hld, _⟩ := app (Sa.trans sc) (sc _ _ hMa) (hla.same sc) hj (by omega) ha unit_bit
            exact ⟨L j, xs, _, rfl, rfl, g1, g2, _, rfl, Sd, hMd, hld⟩
          · rintro σ Ha ⟨z8, rfl, Sa, hMa, hla⟩
            rw [ksz] at hla
            refine ⟨_, rfl, _, _, rfl, rfl, pl + 1, _, _, _, _, rfl, Sa, hMa, hla.imp (fun _ h => h) (by omega), ?_⟩
            rw [k1] at hp8 ⊢
            omega
      · rintro σ H8 ⟨pl, y5, y6, y7, y8, rfl, S8, hM8, hl8, hp8⟩
        exact ⟨pl, _, _, _, _, _, rfl, S8, hM8, hl8, by rw [hp8]; rfl⟩
    · rintro σ H7 ⟨place, z4, z5, z6, z7, z8, rfl, S7, hM7, hl7, hpl⟩
      refine ⟨_, rfl, k H7 e L (s1.trans S7) (none_back s1 he) (fun j hj => none_back s1 (fr3 j hj)) ne3 (hl7.imp (fun _ h => h) ?_)⟩
      have : place = SN c 9 := hpl
      omega
/-! ### _law_mixed -/
theorem kD_set {d0 d1 d2 d : Addr} : ∀ j < 3, putK (kD [d0, d1, d2]) (kDk j) (.ref d) = kD [if 0 = j then d else d0, if 1 = j then d else d1, if 2 = j then d else d2]
  | 0, _ => rfl
  | 1, _ => rfl
  | 2, _ => rfl
/-- another list for a hand -/
theorem HL.put {ok : List Int → Prop} {H : Hp} {e l : Addr} {L : Nat → Addr} {N : Nat} (h : HL ok H e L N) {j : Nat} (hj : j < 3) {xs : List Addr} {rs : List (List Int)} (hl : H l = some (.lst (xs.map V.ref))) (hx : AreRows H xs rs) (ho : ∀ r ∈ rs, ok r) (hN : xs.length ≤ N) :
    HL ok (upd H e (.dK (putK (kD [L 0, L 1, L 2]) (kDk j) (.ref l)))) e (fun i => if i = j then l else L i) N := by
  have he := h.he
  have up : ∀ {as : List Addr} {ws : List (List Int)}, AreRows H as ws → AreRows (upd H e (.dK (putK (kD [L 0, L 1, L 2]) (kDk j) (.ref l)))) as ws := fun k => rows_keptD k (fun c o z n => by rw [upd_ne n]; exact z) he
  refine ⟨by rw [upd_same, kD_set j hj], fun i hi => ?_⟩
  by_cases q : i = j
  · rw [if_pos q]
    exact ⟨xs, rs, by rw [upd_ne (fun z => by rw [z, he] at hl; cases hl)]; exact hl, up hx, ho, hN⟩
  · rw [if_neg q]
    obtain ⟨as, ws, h1, h2, h3⟩ := h.row i hi
    exact ⟨as, ws, by rw [upd_ne (fun z => by rw [z, he] at h1; cases h1)]; exact h1, up h2, h3⟩
def spMixed : Sp := fun vs H Q _ => ∃ (b : Addr) (p : Int) (n : Nat) (e : Addr) (L : Nat → Addr) (N : Nat), vs = [.ref b, .int p, .int (n : Nat), .ref e] ∧ TapeK H b ∧ HL (Row p n) H e L N ∧ N ≤ 1000 ∧ 0 < p ∧ p ≤ 1000 ∧ n ≤ 20 ∧
  ∀ H' e' L', Kept b H H' → TapeK H' b → H e' = none → (∀ j < 3, L' j ≠ b) → HL (Row p n) H' e' L' N → Q (.ref e') H'
abbrev nMixed : List Str := ["_law_tape_here", "_law_prime", "_law_length_here", "_law_rows_here", "_law_found", "_law_turn", "_law_place", "_law_other", "_law_times", "_law_hand", "_law_row"]
theorem sc_mixed : FnScope nMixed ["_law_tape_here", "_law_prime", "_law_length_here", "_law_rows_here"] (defScope (top jMixed)) := ⟨rfl, rfl, rfl, by decide +kernel, rfl, by decide +kernel, by decide +kernel⟩
theorem g_mixed (T : TX K mg) : ∃ fd, FnP K "_law_mixed" jMixed (He.ga K "_law_mixed") fd ∧ FnOk P w K mg base CX0 2 (He.ga K "_law_mixed") fd ["_law_tape_here", "_law_prime", "_law_length_here", "_law_rows_here"] spMixed ∧ Binds K fd ["_law_tape_here", "_law_prime", "_law_length_here", "_law_rows_here"] [] := by
  obtain ⟨fd, F⟩ := T.def "_law_mixed" jMixed
  obtain ⟨_, FT, GT, BT⟩ := g_pick (P := P) (w := w) (base := base) T
  obtain ⟨_, FM, GM, BM⟩ := g_moved (P := P) (w := w) (base := base) T
  refine ⟨fd, F, F.ok sc_mixed (fun vs H Q E h => ?_) (fun cdv A outer s H vs Q E hr h => ?_), F.bindsN fun _ _ _ _ _ _ us hl => match us, hl with | [_, _, _, _], _ => rfl⟩
  · obtain ⟨b, p, n, e, L, N, rfl, _⟩ := h
    rfl
  · obtain ⟨b, p, n, e, L, N, rfl, hb, hl, hN, hp, hp2, hn, k⟩ := h
    have nd := sc_mixed.nd
    have hu := hu_of hr
    have hr1 : Room 1 _ := hr
    refine ⟨_, PSs.nox (pss_cons (ps_set (i := 4) nd rfl (.inl rfl) (pe_disp (pps_cons (pe_str) (pe_callTy call_list_of (by rfl) (T.fr "list") (by decide +kernel) (pa_cons (pe_dget hu (pv 3) pe_str (fun _ _ => rfl)) pa_nil)) (pps_cons (pe_str) (pe_callTy call_list_of (by rfl) (T.fr "list") (by decide +kernel) (pa_cons (pe_dget hu (pv 3) pe_str (fun _ _ => rfl)) pa_nil)) (pps_cons (pe_str) (pe_callTy call_list_of (by rfl) (T.fr "list") (by decide +kernel) (pa_cons (pe_dget hu (pv 3) pe_str (fun _ _ => rfl)) pa_nil)) pps_nil))) rfl rfl (by simp) (by decide))) (pss_cons (ps_for PassesOwn.never rfl (pi_range1 (by rfl) (T.fr "range") (pa_cons (pe_op op_mul pe_int (pv 2)) pa_nil)) (pg_name (i := 5) nd rfl (.inl rfl)) (pss_cons (ps_asg (pe_tup (pa_cons (pe_call GT hr1 (by rfl) (T.df "_law_pick" jPick) FT.kp BT .nil pass0 (pa_cons (pv 0) (pa_cons (pv 2) pa_nil))) (pa_cons (pe_call GT hr1 (by rfl) (T.df "_law_pick" jPick) FT.kp BT .nil pass0 (pa_cons (pv 0) (pa_cons (pv 2) pa_nil))) pa_nil))) (pg_tup (by rfl) (pgs_cons (pg_name (i := 6) nd rfl (.inr rfl)) (pgs_cons (pg_name (i := 7) nd rfl (.inr rfl)) pgs_nil)))) (pss_cons (ps_set (i := 8) nd rfl (.inr rfl) (pe_call GT hr1 (by rfl) (T.df "_law_pick" jPick) FT.kp BT .nil pass0 (pa_cons (pv 0) (pa_cons (pv 1) pa_nil)))) (pss_one (ps_if (pt_cmpR op_ne (pv 6) (pv 7) (nomark _)) (pss_one (ps_for PassesOwn.never rfl (pi_list (pe_lst (pa_cons pe_str (pa_cons pe_str (pa_cons pe_str pa_nil))))) (pg_name (i := 9) nd rfl (.inl rfl)) (pss_one (ps_dput hu (pv 4) (pv 9) (pe_lc (own := [("_law_row", 10)]) (g := gName 10) (by rfl) nd (pi_list (pe_dget hu (pv 4) (pv 9) (fun _ _ => rfl))) (blkOk_by (own := [("_law_row", 10)]) (N := nMixed) (sc := defScope (top jMixed)) (by decide +kernel)) (fun _ _ _ _ _ => pg_name (i := 10) nd rfl (Or.inl rfl)) (fun _ _ _ _ _ => pts_nil) (fun _ _ _ _ _ => pe_call GM hr1 (by rfl) (T.df "_law_moved" jMoved) FM.kp BM .nil pass0 (pa_cons (pv 1) (pa_cons (pv 10) (pa_cons (pv 6) (pa_cons (pv 7) (pa_cons (pv 8) pa_nil))))))) rfl)))) pss_nil))))) (pss_one (ps_ret (pv 4))))), ?_⟩
    -- copies
    refine fun e' he' => ?_
    have t1 := same_new (o := .dK []) he'
    have e0 : upd H e' (.dK []) e' = some (.dK []) := upd_same
    have hl1 := hl.same t1
    generalize upd H e' (.dK []) = H1 at t1 e0 hl1 ⊢
    obtain ⟨x0, r0, a0, b0, c0, l0⟩ := hl1.row 0 (by decide)
    refine ⟨_, rfl, e, _, rfl, hl1.get (j := 0) (by decide), L 0, _, rfl, .inl (SqL.of a0), fun m0 h0 => ?_⟩
    have t2 := same_new (o := .lst (x0.map V.ref)) h0
    have u0 : upd H1 m0 (.lst (x0.map V.ref)) m0 = some (.lst (x0.map V.ref)) := upd_same
    have hl2 := hl1.same t2
    have e2 := t2 _ _ e0
    generalize upd H1 m0 (.lst (x0.map V.ref)) = H2 at t2 u0 hl2 e2 ⊢
    obtain ⟨x1, r1, a1, b1, c1, l1⟩ := hl2.row 1 (by decide)
    refine ⟨_, rfl, e, _, rfl, hl2.get (j := 1) (by decide), L 1, _, rfl, .inl (SqL.of a1), fun m1 h1 => ?_⟩
    have t3 := same_new (o := .lst (x1.map V.ref)) h1
    have u1 : upd H2 m1 (.lst (x1.map V.ref)) m1 = some (.lst (x1.map V.ref)) := upd_same
    have hl3 := hl2.same t3
    have e3 := t3 _ _ e2
    generalize upd H2 m1 (.lst (x1.map V.ref)) = H3 at t3 u1 hl3 e3 ⊢
    obtain ⟨x2, r2, a2, b2, c2, l2⟩ := hl3.row 2 (by decide)
    refine ⟨_, rfl, e, _, rfl, hl3.get (j := 2) (by decide), L 2, _, rfl, .inl (SqL.of a2), fun m2 h2 => ?_⟩
    have t4 := same_new (o := .lst (x2.map V.ref)) h2
    have u2 : upd H3 m2 (.lst (x2.map V.ref)) m2 = some (.lst (x2.map V.ref)) := upd_same
    have e4 := t4 _ _ e3
    generalize upd H3 m2 (.lst (x2.map V.ref)) = H4 at t4 u2 e4 ⊢
    refine ⟨e4, [(Sum.inr "a", .ref m0), (Sum.inr "b", .ref m1), (Sum.inr "c", .ref m2)], rfl, (by show 3 ≤ 15; decide), ?_⟩
    have T4 : Same H H4 := t1.trans (t2.trans (t3.trans t4))
    have S5 : Same H (upd H4 e' (.dK (mergeK [] [(Sum.inr "a", .ref m0), (Sum.inr "b", .ref m1), (Sum.inr "c", .ref m2)]))) := fun c' o z => by rw [upd_ne (ne_of_none z he')]; exact T4 _ _ z
    obtain ⟨L', hL0, hL1, hL2⟩ : ∃ L : Nat → Addr, L 0 = m0 ∧ L 1 = m1 ∧ L 2 = m2 := ⟨fun j => if j = 0 then m0 else if j = 1 then m1 else m2, rfl, rfl, rfl⟩
    have nb : ∀ j < 3, L' j ≠ b := fun j hj => by
      match j, hj with
      | 0, _ => rw [hL0]; exact (hb.same t1).ne h0
      | 1, _ => rw [hL1]; exact (hb.same (t1.trans t2)).ne h1
      | 2, _ => rw [hL2]; exact (hb.same (t1.trans (t2.trans t3))).ne h2
    have hl5 : HL (Row p n) (upd H4 e' (.dK (mergeK [] [(Sum.inr "a", .ref m0), (Sum.inr "b", .ref m1), (Sum.inr "c", .ref m2)]))) e' L' N := by
      have kp : Kept e' H4 (upd H4 e' (.dK (mergeK [] [(Sum.inr "a", .ref m0), (Sum.inr "b", .ref m1), (Sum.inr "c", .ref m2)]))) := fun c o z n => by rw [upd_ne n]; exact z
      have ej : ∀ {l xs}, H4 l = some (.lst xs) → l ≠ e' := fun h q => by rw [q, e4] at h; cases h
      refine ⟨by rw [upd_same, hL0, hL1, hL2]; rfl, fun j hj => ?_⟩
      match j, hj with
      | 0, _ => rw [hL0]; exact ⟨x0, r0, kp _ _ (t4 _ _ (t3 _ _ u0)) (ej (t4 _ _ (t3 _ _ u0))), rows_keptD (((b0.same t2).same t3).same t4) kp e4, c0, l0⟩
      | 1, _ => rw [hL1]; exact ⟨x1, r1, kp _ _ (t4 _ _ u1) (ej (t4 _ _ u1)), rows_keptD ((b1.same t3).same t4) kp e4, c1, l1⟩
      | 2, _ => rw [hL2]; exact ⟨x2, r2, kp _ _ u2 (ej u2), rows_keptD (b2.same t4) kp e4, c2, l2⟩
    generalize upd H4 e' (.dK (mergeK [] [(Sum.inr "a", .ref m0), (Sum.inr "b", .ref m1), (Sum.inr "c", .ref m2)])) = H5 at S5 hl5 ⊢
    clear a0 b0 c0 l0 a1 b1 c1 l1 a2 b2 c2 l2 u0 u1 u2 t1 t2 t3 t4 e0 e2 e3 e4 T4 hl1 hl2 hl3 h0 h1 h2
    have eb : e' ≠ b := hb.ne he'
    have b5 := hb.same S5
    refine ⟨_, rfl, _, _, rfl, rfl, .inl ⟨by decide, by decide⟩, 2 * (n : Int), rfl, by omega, by omega, for_range (lo := 0) (n := (2 * (n : Int)).toNat) (fun i σ H' => ∃ (z5 z6 z7 z8 z9 : Option V) (L : Nat → Addr), σ = [some (.ref b), some (.int p), some (.int (n : Nat)), some (.ref e), some (.ref e'), z5, z6, z7, z8, z9, none] ∧ Kept b H H' ∧ TapeK H' b ∧ HL (Row p n) H' e' L N ∧ ∀ j < 3, L j ≠ b) ⟨none, none, none, none, none, L', rfl, Kept.of S5, b5, hl5, nb⟩ ?_ ?_⟩
    · rintro i σ H6 hi ⟨z5, z6, z7, z8, z9, L6, rfl, k6, b6, hl6, nb6⟩
      have n1 : 1 ≤ n := by omega
      refine ⟨_, rfl, _, rfl, pick_use (m := (n : Int)) b6 (by omega) (by omega) fun pl H7 p0 p1 k7 b7 _ => ?_⟩
      refine ⟨_, rfl, _, rfl, pick_use (m := (n : Int)) b7 (by omega) (by omega) fun ot H8 o0 o1 k8 b8 _ => ?_⟩
      obtain ⟨pl, rfl⟩ := Int.eq_ofNat_of_zero_le p0
      obtain ⟨ot, rfl⟩ := Int.eq_ofNat_of_zero_le o0
      refine ⟨(by show 2 ≤ sizeLine; decide), fun t ht => ⟨t, _, rfl, SqT.of upd_same, rfl, _, _, rfl, _, _, rfl, rfl, ?_⟩⟩
      have st := same_new (o := .tup [V.int ((pl : Nat) : Int), V.int ((ot : Nat) : Int)]) ht
      have b9 := b8.same st
      have k9 : Kept b H6 (upd H8 t (.tup [V.int ((pl : Nat) : Int), V.int ((ot : Nat) : Int)])) := k7.trans (k8.trans (Kept.of st))
      generalize upd H8 t (.tup [V.int ((pl : Nat) : Int), V.int ((ot : Nat) : Int)]) = H9 at b9 k9 ⊢
      refine ⟨_, rfl, _, rfl, pick_use (m := p) b9 hp (by omega) fun g Ha g0 g1 ka ba _ => ?_⟩
      have kA' := k9.trans ka
      have hla := hl6.kept kA' b6.at nb6
      refine ⟨_, rfl, _, rfl, rfl, _, rfl, ite2 (fun c => ?_) (fun c => ?_)⟩
      · refine ⟨(by show 3 ≤ sizeLine; decide), fun M hM => ?_⟩
        have sM := same_new (o := .lst [V.str "a", V.str "b", V.str "c"]) hM
        have uM : upd Ha M (.lst [V.str "a", V.str "b", V.str "c"]) M = some (.lst [V.str "a", V.str "b", V.str "c"]) := upd_same
        have bM := ba.same sM
        have hlM := hla.same sM
        have kM : Kept b H6 (upd Ha M (.lst [V.str "a", V.str "b", V.str "c"])) := kA'.trans (Kept.of sM)
        generalize upd Ha M (.lst [V.str "a", V.str "b", V.str "c"]) = Hm at uM bM hlM kM ⊢
        have eM : e' ≠ M := fun q => by have := hlM.he; rw [q, uM] at this; cases this
        refine ⟨M, rfl, ⟨_, SqL.of uM⟩, for_list (xs := [V.str "a", V.str "b", V.str "c"]) (fun j σ H' => ∃ (z9 : Option V) (L : Nat → Addr), σ = [some (.ref b), some (.int p), some (.int (n : Nat)), some (.ref e), some (.ref e'), some (.int (0 + (i : Int))), some (.int ((pl : Nat) : Int)), some (.int ((ot : Nat) : Int)), some (.int g), z9, none] ∧ Kept b H H' ∧ TapeK H' b ∧ HL (Row p n) H' e' L N ∧ (∀ j < 3, L j ≠ b) ∧ H' M = some (.lst [V.str "a", V.str "b", V.str "c"])) ⟨z9, L6, rfl, k6.trans kM, bM, hlM, nb6, uM⟩ (fun j σ H' _ z => let ⟨_, _, _, _, _, _, _, q⟩ := z; SqL.of q) ?_ ?_⟩
        · rintro j x σ Hb hx ⟨y9, Lb, rfl, kb, bb, hlb, nbb, uMb⟩
          have hj : j < 3 := (List.getElem?_eq_some_iff.mp hx).1
          have ex : x = kV (kDk j) := by
            match j, hj, hx with
            | 0, _, hx => exact (Option.some.inj hx).symm
            | 1, _, hx => exact (Option.some.inj hx).symm
            | 2, _, hx => exact (Option.some.inj hx).symm
          obtain ⟨xs, rs, q1, q2, q3, q4⟩ := hlb.row j hj
          have ql := q2.length
          refine ⟨_, rfl, _, rfl, e', .ref (Lb j), rfl, by rw [ex]; exact hlb.get hj, Lb j, rfl, ⟨_, SqL.of q1⟩, fun D hD => lc_it (walk_list (K := K) (a := Lb j) (xs := xs.map V.ref)) (fun t H' => Same Hb H' ∧ ∃ (as : List Addr) (ws : List (List Int)), H' D = some (.lst (as.map V.ref)) ∧ as.length = t ∧ AreRows H' as ws ∧ ∀ r ∈ ws, Row p n r) ⟨same_new hD, [], [], upd_same, rfl, .nil, (fun _ h => nomatch h)⟩ (fun t H' _ z => SqL.of (z.1 _ _ q1)) ?_ ?_⟩
          · rintro t v Hc Hd ht ⟨sc, as, ws, has, hal, har, haw⟩ ⟨rfl, hv⟩
            obtain ⟨a, ha, rfl⟩ := refs_at hv
            obtain ⟨r, hr', hra⟩ := q2.get ha
            have ht' : t < xs.length := by simpa using ht
            refine ⟨rfl, yes_if ?_⟩
            refine ⟨_, rfl, _, rfl, _, rfl, _, rfl, _, rfl, p, a, r, pl, ot, g, n, rfl, sc _ _ hra, q3 r (List.mem_of_getElem? hr'), by omega, by omega, hp, hp2, g0, g1, by omega, fun H'' c' r' s'' _ hc' hr'' => ?_⟩
            have has' := s'' _ _ has
            refine ⟨as.map V.ref, has', lt_line (by rw [List.length_map]; omega), Same.grow (sc.trans s'') hD, as ++ [c'], ws ++ [r'], by rw [upd_same, List.map_append]; rfl, by rw [List.length_append, List.length_singleton, hal], ((har.same s'').append (.cons hc' .nil)).upd has', fun z m => ?_⟩
            rcases List.mem_append.mp m with m | m
            · exact haw z m
            · rw [List.mem_singleton.mp m]; exact hr''
          · rintro Hc ⟨sc, as, ws, has, hal, har, haw⟩
            rw [List.length_map] at hal
            have hlc := hlb.same sc
            refine ⟨_, rfl, _, rfl, e', _, rfl, .inl ⟨_, kDk j, hlc.he, ex, by rw [kD_len (by show 3 ≤ 3; decide)]; exact lt_line (by show 3 ≤ 100000; decide), rfl⟩, _, _, rfl, fun c' o z nn => ?_, (bb.same sc).upd eb, hlc.put hj has har haw (by omega), fun i hi => ?_, ?_⟩
            · rw [upd_ne (ne_of_none z he')]
              exact sc _ _ (kb _ _ z nn)
            · split
              · exact bb.ne hD
              · exact nbb i hi
            · rw [upd_ne (Ne.symm eM)]
              exact sc _ _ uMb
        · rintro σ Hb ⟨y9, Lb, rfl, kb, bb, hlb, nbb, uMb⟩
          exact ⟨_, _, _, _, _, Lb, rfl, kb, bb, hlb, nbb⟩
      · exact ⟨_, _, _, _, _, L6, rfl, k6.trans kA', ba, hla, nb6⟩
    · rintro σ H6 ⟨z5, z6, z7, z8, z9, L6, rfl, k6, b6, hl6, nb6⟩
      exact ⟨_, rfl, k H6 e' L6 k6 b6 he' nb6 hl6⟩
/-! ### _law_drawn -/
def spDrawn : Sp := fun vs H Q _ => ∃ (b f : Addr) (p : Int) (m : Nat), vs = [.ref b, .ref f] ∧ TapeK H b ∧ H f = some (.tup [.int p, .int (m : Nat)]) ∧ frOk p m = true ∧
  ∀ H' t e n L, Kept b H H' → TapeK H' b → H t = none → H' t = some (.tup [.int (n : Nat), .ref e]) → n ≤ m → (∀ j < 3, L j ≠ b) → HL (Row p n) H' e L 100 → Q (.ref t) H'
theorem fr_parts {p : Int} {m : Nat} (h : frOk p m = true) : isP p = true ∧ 1 ≤ m ∧ m ≤ 5 ∧ p ^ m ≤ 200 := by
  unfold frOk at h
  simp only [Bool.and_eq_true, decide_eq_true_eq] at h
  exact ⟨h.1.1.1, h.1.1.2, h.1.2, h.2⟩
theorem SN_one (c : Nat → Nat) {i : Nat} (hi : i < 9) : c i ≤ SN c 9 := by
  have h1 : SN c (i + 1) ≤ SN c 9 := SN_le c (by omega)
  have h2 : SN c (i + 1) = SN c i + kSz i * c i := rfl
  have h3 : 1 * c i ≤ kSz i * c i := Nat.mul_le_mul (by unfold kSz; split <;> omega) (Nat.le_refl _)
  omega
abbrev nDrawn : List Str := ["_law_tape_here", "_law_frame_here", "_law_prime", "_law_most", "_law_amounts_here", "_law_length_here", "_law_rows_here", "_law_hand", "_law_k"]
theorem sc_drawn : FnScope nDrawn ["_law_tape_here", "_law_frame_here"] (defScope (top jDrawn)) := ⟨rfl, rfl, rfl, by decide +kernel, rfl, by decide +kernel, by decide +kernel⟩
theorem g_drawn (T : TX K mg) : ∃ fd, FnP K "_law_drawn" jDrawn (He.ga K "_law_drawn") fd ∧ FnOk P w K mg base CX0 3 (He.ga K "_law_drawn") fd ["_law_tape_here", "_law_frame_here"] spDrawn ∧ Binds K fd ["_law_tape_here", "_law_frame_here"] [] := by
  obtain ⟨fd, F⟩ := T.def "_law_drawn" jDrawn
  obtain ⟨_, FT, GT, BT⟩ := g_pick (P := P) (w := w) (base := base) T
  obtain ⟨_, FA, GA, BA⟩ := g_amounts (P := P) (w := w) (base := base) T
  obtain ⟨_, FL, GL, BL⟩ := g_len2 (P := P) (w := w) (base := base) T
  obtain ⟨_, FR, GR, BR⟩ := g_rows2 (P := P) (w := w) (base := base) T
  obtain ⟨_, FM, GM, BM⟩ := g_mixed (P := P) (w := w) (base := base) T
  obtain ⟨_, FV, GV, BV⟩ := g_vec2 (P := P) (w := w) (base := base) T
  refine ⟨fd, F, F.ok sc_drawn (fun vs H Q E h => ?_) (fun cdv A outer s H vs Q E hr h => ?_), F.bindsN fun _ _ _ _ _ _ us hl => match us, hl with | [_, _], _ => rfl⟩
  · obtain ⟨b, f, p, m, rfl, _⟩ := h
    rfl
  · obtain ⟨b, f, p, m, rfl, hb, hf, hfr, k⟩ := h
    have nd := sc_drawn.nd
    have hu := hu_of hr
    have hr1 : Room 1 _ := hr.mono (by decide)
    have hr2 : Room 2 _ := hr
    obtain ⟨hp, m1, m5, _⟩ := fr_parts hfr
    have hq := isP_pos hp
    refine ⟨_, PSs.nox (pss_cons (ps_asg (pv 1) (pg_tup (by rfl) (pgs_cons (pg_name (i := 2) nd rfl (.inr rfl)) (pgs_cons (pg_name (i := 3) nd rfl (.inl rfl)) pgs_nil)))) (pss_cons (ps_set (i := 4) nd rfl (.inl rfl) (pe_call GA hr2 (by rfl) (T.df "_law_amounts" jAmounts) FA.kp BA .nil pass0 (pa_cons (pv 0) (pa_cons (pv 3) pa_nil)))) (pss_cons (ps_set (i := 5) nd rfl (.inr rfl) (pe_call GL hr1 (by rfl) (T.df "_law_length" jLen) FL.kp BL .nil pass0 (pa_cons (pv 4) pa_nil))) (pss_cons (ps_set (i := 6) nd rfl (.inl rfl) (pe_call GM hr2 (by rfl) (T.df "_law_mixed" jMixed) FM.kp BM .nil pass0 (pa_cons (pv 0) (pa_cons (pv 2) (pa_cons (pv 5) (pa_cons (pe_call GR hr2 (by rfl) (T.df "_law_rows" jRows) FR.kp BR .nil pass0 (pa_cons (pv 4) pa_nil)) pa_nil)))))) (pss_cons (ps_if (pt_cmpR op_eq (pe_call GT hr1 (by rfl) (T.df "_law_pick" jPick) FT.kp BT .nil pass0 (pa_cons (pv 0) (pa_cons pe_int pa_nil))) pe_int (nomark _)) (pss_cons (ps_set (i := 7) nd rfl (.inl rfl) (pe_ix ix_list (pe_lst (pa_cons pe_str (pa_cons pe_str (pa_cons pe_str pa_nil)))) (pe_call GT hr1 (by rfl) (T.df "_law_pick" jPick) FT.kp BT .nil pass0 (pa_cons (pv 0) (pa_cons pe_int pa_nil))) (fun _ _ => rfl))) (pss_one (ps_dput hu (pv 6) (pv 7) (pe_lc (own := [("_law_k", 8)]) (g := gName 8) (by rfl) nd (pi_range1 (by rfl) (T.fr "range") (pa_cons (pe_call GT hr1 (by rfl) (T.df "_law_pick" jPick) FT.kp BT .nil pass0 (pa_cons (pv 0) (pa_cons pe_int pa_nil))) pa_nil)) (blkOk_by (own := [("_law_k", 8)]) (N := nDrawn) (sc := defScope (top jDrawn)) (by decide +kernel)) (fun _ _ _ _ _ => pg_name (i := 8) nd rfl (Or.inl rfl)) (fun _ _ _ _ _ => pts_nil) (fun _ _ _ _ _ => pe_call GV hr2 (by rfl) (T.df "_law_vector" jVec) FV.kp BV .nil pass0 (pa_cons (pv 0) (pa_cons (pv 2) (pa_cons (pv 5) pa_nil))))) rfl))) pss_nil) (pss_one (ps_ret (pe_tup (pa_cons (pv 5) (pa_cons (pv 6) pa_nil)))))))))), ?_⟩
    refine ⟨_, rfl, f, _, rfl, SqT.of hf, rfl, _, _, rfl, _, _, rfl, rfl, ?_⟩
    refine ⟨_, rfl, _, rfl, b, m, rfl, hb, by omega, fun H1 d c k1 b1 hd0 hd hc => ?_⟩
    have c20 : ∀ i < 9, c i ≤ 100 := fun i hi => by have := SN_one c hi; omega
    refine ⟨_, rfl, d, c, rfl, hd, c20, fun H2 s2 => ?_⟩
    obtain ⟨n, hn⟩ : ∃ n, n = SN c 9 := ⟨_, rfl⟩
    refine ⟨_, rfl, _, rfl, _, rfl, _, rfl, d, c, rfl, s2 _ _ hd, c20, by omega, fun H3 e L s3 he0 hL0 hne hl => ?_⟩
    have b3 := (b1.same s2).same s3
    have nb3 : ∀ j < 3, L j ≠ b := fun j hj => (b1.same s2).ne (hL0 j hj)
    refine ⟨b, p, SN c 9, e, L, 100, rfl, b3, hl.imp (fun r => Bit.row (by omega)) (by decide), by decide, by omega, by omega, by omega, fun H4 e' L' k4 b4 he' nb4 hl4 => ?_⟩
    have K4 : Kept b H H4 := k1.trans ((Kept.of (s2.trans s3)).trans k4)
    rw [← hn] at hl4
    refine ⟨_, rfl, pick_use (m := 4) b4 (by decide) (by decide) fun d5 H5 _ _ k5 b5 _ => ?_⟩
    have hl5 := hl4.kept k5 b4.at nb4
    have K5 := K4.trans k5
    have eb : e' ≠ b := fun q => by
      obtain ⟨ys, hy⟩ := b4.at
      have := hl4.he
      rw [q, hy] at this
      cases this
    have eH : H e' = none ∨ True := .inr trivial
    have fin : ∀ (H' : Hp) (L'' : Nat → Addr), Kept b H H' → TapeK H' b → HL (Row p n) H' e' L'' 100 → (∀ j < 3, L'' j ≠ b) → ∀ t, H' t = none → Q (.ref t) (upd H' t (.tup [.int ((SN c 9 : Nat) : Int), .ref e'])) := fun H' L'' kk bb ll nn t ht => by
      have st := same_new (o := .tup [.int ((SN c 9 : Nat) : Int), .ref e']) ht
      have t0 : H t = none := by
        cases z : H t with
        | none => rfl
        | some o => rw [kk _ _ z (bb.ne ht)] at ht; cases ht
      exact k _ t e' n L'' (kk.trans (Kept.of st)) (bb.same st) t0 (by rw [upd_same, hn]) (by omega) nn (ll.same st)
    refine ⟨rfl, _, rfl, ite2 (fun q => ?_) (fun q => ?_)⟩
    · refine ⟨(by show 3 ≤ sizeLine; decide), fun M hM => ⟨_, rfl, ?_⟩⟩
      dsimp -proj only [tCons, tC, tNil, List.append_nil]
      have sM := same_new (o := .lst [V.str "a", V.str "b", V.str "c"]) hM
      have uM : upd H5 M (.lst [V.str "a", V.str "b", V.str "c"]) M = some (.lst [V.str "a", V.str "b", V.str "c"]) := upd_same
      have bM := b5.same sM
      have Mb := b5.ne hM
      have hlM := hl5.same sM
      have KM := K5.trans (Kept.of sM)
      generalize upd H5 M (.lst [V.str "a", V.str "b", V.str "c"]) = H6 at uM bM hlM KM ⊢
      refine pick_use (m := 3) bM (by decide) (by decide) fun dj H7 j0 j3 k7 b7 _ => ?_
      obtain ⟨j, rfl⟩ := Int.eq_ofNat_of_zero_le j0
      have hj : j < 3 := by omega
      have hat : atI [V.str "a", V.str "b", V.str "c"] ((j : Nat) : Int) = some (kV (kDk j)) := by
        match j, hj with
        | 0, _ => rfl
        | 1, _ => rfl
        | 2, _ => rfl
      refine ⟨M, _, _, _, rfl, rfl, SqL.of (k7 _ _ uM Mb), hat, ?_⟩
      have hl7 := hlM.kept k7 bM.at nb4
      have K7 := KM.trans k7
      refine ⟨_, rfl, ?_⟩
      dsimp -proj only [tCons, tC, tNil, List.append_nil]
      refine pick_use (m := 4) b7 (by decide) (by decide) fun mv H8 v0 v4 k8 b8 _ => ?_
      obtain ⟨mv, rfl⟩ := Int.eq_ofNat_of_zero_le v0
      have hl8 := hl7.kept k8 b7.at nb4
      have K8 := K7.trans k8
      have eN : ((mv : Nat) : Int).toNat = mv := Int.toNat_natCast mv
      refine ⟨mv, rfl, by omega, by omega, fun D hD => lc_it (walk_range (lo := 0) (n := ((mv : Nat) : Int).toNat)) (fun t H' => Kept b H8 H' ∧ TapeK H' b ∧ ∃ (as : List Addr) (ws : List (List Int)), H' D = some (.lst (as.map V.ref)) ∧ as.length = t ∧ AreRows H' as ws ∧ ∀ r ∈ ws, Row p n r) ⟨Kept.of (same_new hD), b8.same (same_new hD), [], [], upd_same, rfl, .nil, (fun _ h => nomatch h)⟩ (fun _ _ _ _ => trivial) ?_ ?_⟩
      · rintro t v Ha Hb ht ⟨kc, bc, as, ws, has, hal, har, haw⟩ ⟨rfl, rfl⟩
        rw [eN] at ht
        have Db : D ≠ b := b8.ne hD
        refine ⟨rfl, yes_if ?_⟩
        refine ⟨_, rfl, _, rfl, _, rfl, b, p, SN c 9, rfl, bc, by omega, by omega, by omega, fun H'' c' r' k'' b'' _ cb hc' hr'' => ?_⟩
        rw [← hn] at hr''
        have has' := k'' _ _ has Db
        refine ⟨as.map V.ref, has', lt_line (by rw [List.length_map]; omega), (kc.trans k'').upd hD, b''.upd Db, as ++ [c'], ws ++ [r'], by rw [upd_same, List.map_append]; rfl, by rw [List.length_append, List.length_singleton, hal], ((rows_keptL k'' bc.at har).append (.cons hc' .nil)).upd has', fun z m => ?_⟩
        rcases List.mem_append.mp m with m | m
        · exact haw z m
        · rw [List.mem_singleton.mp m]; exact hr''
      · rintro Ha ⟨kc, bc, as, ws, has, hal, har, haw⟩
        rw [eN] at hal
        have hlc := hl8.kept kc b8.at nb4
        have KA := K8.trans kc
        have eD : e' ≠ D := fun z => by have := hl8.he; rw [z, hD] at this; cases this
        refine ⟨_, rfl, _, rfl, e', _, rfl, .inl ⟨_, kDk j, hlc.he, rfl, by rw [kD_len (by show 3 ≤ 3; decide)]; exact lt_line (by show 3 ≤ 100000; decide), rfl⟩, ?_⟩
        have hlp := hlc.put hj has har haw (by omega)
        have e0 : H e' = none := by
          cases z : H e' with
          | none => rfl
          | some o => rw [s3 _ _ (s2 _ _ (k1 _ _ z eb))] at he'; cases he'
        refine ⟨_, rfl, _, rfl, (by show 2 ≤ sizeLine; decide), fun t ht => fin _ _ (fun c' o z nn => ?_) (bc.upd eb) hlp (fun i hi => ?_) t ht⟩
        · rw [upd_ne (ne_of_none z e0)]
          exact KA _ _ z nn
        · split
          · exact b8.ne hD
          · exact nb4 i hi
    · exact ⟨_, rfl, _, rfl, (by show 2 ≤ sizeLine; decide), fun t ht => fin H5 L' K5 b5 hl5 nb4 t ht⟩
end
end KV

set_option Elab.async false
set_option linter.all false
set_option maxRecDepth 100000
set_option maxHeartbeats 4000000
/-! # dimensions of words -/
namespace KV
open PySem PySem.Spec PyProof.Rows L2 VX RX
section
variable {P : Program} {w : World} {K : PySem.W.Frag} {mg : Str → Option Value} {base : Heap} {f : Addr} {fd : FuncData}
open RX KW
theorem sum_kpre (cs : List Int) (f : List Nat → Nat) : ∀ m, ((kpre cs m).map f).sum = ((List.range m).map fun i => (at0 cs i).toNat * f (kA i)).sum
  | 0 => rfl
  | m + 1 => by
    rw [kpre, List.map_append, List.sum_append, sum_kpre cs f m, List.range_succ, List.map_append, List.sum_append]
    congr 1
    rw [List.map_replicate, List.sum_replicate_nat, List.map_singleton, List.sum_singleton]
theorem rowsR {p : Int} {inv : Int → Int} {n : Nat} (I : Inv p inv) : ∀ {ks : List (List Nat)} {a h : Nat}, ∀ r ∈ rowsOf n a ks h, Row p n r
  | [], _, _, _, m => nomatch m
  | k :: ks, a, h, r, m => (List.mem_append.mp m).elim (fun m => by
      rcases blk_cases m with rfl | ⟨_, rfl | rfl⟩
      · exact eR_row I
      · exact eR_row I
      · exact eRR_row I) (rowsR I r)
/-- the dimension of a word: the nine numbers, each times the word's dimension on the kind -/
theorem word_dim {p : Int} {n : Nat} {A B C : List (List Int)} (hp : isP p = true) (T : Tri p (invF p) n (wholeB p n) A B C) {t : Tr} (ht : WF t = true) :
    (valI (invF p) p n (wholeB p n) A B C t).length = ((List.range 9).map fun i => (extK (invF p) p n (wholeB p n) A B C i).length * dimM (kA i) (mk (kA i) t)).sum := by
  have II := invF_ok hp
  obtain ⟨cs, hcs⟩ : ∃ cs : List Int, cs = (List.range 9).map fun i => (((extK (invF p) p n (wholeB p n) A B C i).length : Nat) : Int) := ⟨_, rfl⟩
  have at9 : ∀ i < 9, (at0 cs i).toNat = (extK (invF p) p n (wholeB p n) A B C i).length := fun i hi => by
    rw [hcs, at0_of (by simpa using hi)]
    simp
  have tot : total (kpre cs 9) = n := by
    have c := T.count
    have h := fun i => total_kpre (cs := cs) i
    have h0 := h 0
    have h1 := h 1
    have h2 := h 2
    have h3 := h 3
    have h4 := h 4
    have h5 := h 5
    have h6 := h 6
    have h7 := h 7
    have h8 := h 8
    rw [at9 0 (by decide), kLen_kA 0 (by decide)] at h0
    rw [at9 1 (by decide), kLen_kA 1 (by decide)] at h1
    rw [at9 2 (by decide), kLen_kA 2 (by decide)] at h2
    rw [at9 3 (by decide), kLen_kA 3 (by decide)] at h3
    rw [at9 4 (by decide), kLen_kA 4 (by decide)] at h4
    rw [at9 5 (by decide), kLen_kA 5 (by decide)] at h5
    rw [at9 6 (by decide), kLen_kA 6 (by decide)] at h6
    rw [at9 7 (by decide), kLen_kA 7 (by decide)] at h7
    rw [at9 8 (by decide), kLen_kA 8 (by decide)] at h8
    have z : total (kpre cs 0) = 0 := rfl
    simp only [Nat.zero_add, Nat.reduceAdd, Nat.reduceEqDiff, if_false, if_true] at h0 h1 h2 h3 h4 h5 h6 h7 h8
    omega
  have rr : ∀ h, ∀ r ∈ rowsOf n 0 (kpre cs 9) h, Row p n r := fun h => rowsR II
  have sp : ∀ h v, InS p n (reduced (invF p) p (rowsOf n 0 (kpre cs 9) h)) v ↔ InS p n (rowsOf n 0 (kpre cs 9) h) v := fun h v => reduced_span II (rr h) v
  have T' : Tri p (invF p) n (wholeB p n) (reduced (invF p) p (rowsOf n 0 (kpre cs 9) 97)) (reduced (invF p) p (rowsOf n 0 (kpre cs 9) 98)) (reduced (invF p) p (rowsOf n 0 (kpre cs 9) 99)) := ⟨II, fun v r => units_all hp r, wholeB_rref hp, reduced_ok II (rr 97), reduced_ok II (rr 98), reduced_ok II (rr 99)⟩
  have cnt : ∀ i < 9, (extK (invF p) p n (wholeB p n) (reduced (invF p) p (rowsOf n 0 (kpre cs 9) 97)) (reduced (invF p) p (rowsOf n 0 (kpre cs 9) 98)) (reduced (invF p) p (rowsOf n 0 (kpre cs 9) 99)) i).length = (at0 cs i).toNat := fun i hi =>
    nine_counts T' T' Iso.id tot (sp 97) (sp 98) (sp 99) (fun _ _ => Iff.rfl) (fun _ _ => Iff.rfl) (fun _ _ => Iff.rfl) hi
  have hk : kindsQ p n A B C = kindsQ p n (reduced (invF p) p (rowsOf n 0 (kpre cs 9) 97)) (reduced (invF p) p (rowsOf n 0 (kpre cs 9) 98)) (reduced (invF p) p (rowsOf n 0 (kpre cs 9) 99)) := kinds_of (fun i hi => by rw [cnt i hi, at9 i hi]) 9 (Nat.le_refl _)
  rw [car_dim T T' hk t, built_dim T' tot (sp 97) (sp 98) (sp 99) ht, sum_kpre]
  congr 1
  exact List.map_congr_left fun i hi => by rw [at9 i (List.mem_range.mp hi)]
end
end KV

set_option Elab.async false
set_option linter.all false
set_option maxRecDepth 100000
set_option maxHeartbeats 4000000
/-! # the law -/
namespace KV
open PySem PySem.Spec PyProof.Rows L2 VX RX
section
variable {P : Program} {w : World} {K : PySem.W.Frag} {mg : Str → Option Value} {base : Heap} {f : Addr} {fd : FuncData}
open RX KW
theorem kA_of {k : List Nat} (hk : k ∈ KW.kinds) : ∃ i, i < 9 ∧ kA i = k := by
  obtain ⟨i, hi⟩ := List.mem_iff_getElem?.mp hk
  have h9 : i < 9 := (List.getElem?_eq_some_iff.mp hi).1
  rw [(kind_i i h9).1] at hi
  exact ⟨i, h9, Option.some.inj hi⟩
theorem nine_dEq {g h : List Nat → Nat} : ((dictK fun k => V.int (g k)).length == (dictK fun k => V.int (h k)).length && dEq (dictK fun k => V.int (h k)) (dictK fun k => V.int (g k))) = decide (∀ k ∈ kinds, g k = h k) := by
  have hl : ((dictK fun k => V.int (g k)).length == (dictK fun k => V.int (h k)).length) = true := by unfold dictK; simp
  rw [hl, Bool.true_and, Bool.eq_iff_iff, decide_eq_true_eq]
  unfold dEq
  rw [List.all_eq_true]
  have hv : ∀ k ∈ kinds, valV (dictK fun k => V.int (h k)) (Sum.inr (KX.kS k)) = some (V.int (h k)) := fun k hk => by
    obtain ⟨i, hi, rfl⟩ := kA_of hk
    exact dictK_get (fun k => V.int (h k)) i hi
  have ev : ∀ k, eqV (V.int (g k)) (V.int (h k)) = decide (g k = h k) := fun k => by
    show decide ((g k : Int) = (h k : Int)) = _
    exact decide_eq_decide.mpr (by omega)
  constructor
  · intro hh k hk
    have := hh (Sum.inr (KX.kS k), V.int (g k)) (List.mem_map.mpr ⟨k, hk, rfl⟩)
    dsimp only at this
    rw [hv k hk] at this
    dsimp only at this
    rw [ev] at this
    exact of_decide_eq_true this
  · intro hh p hp
    obtain ⟨k, hk, rfl⟩ := List.mem_map.mp hp
    dsimp only
    rw [hv k hk]
    dsimp only
    rw [ev]
    exact decide_eq_true (hh k hk)
theorem nine_flat {g : List Nat → Nat} : ∀ p ∈ dictK fun k => V.int (g k), flatV p.2 = true := by
  intro p hp
  unfold dictK at hp
  obtain ⟨k, _, rfl⟩ := List.mem_map.mp hp
  rfl
theorem HL.rowsD {p : Int} {n : Nat} {H : Hp} {e : Addr} {L : Nat → Addr} {N : Nat} (h : HL (Row p n) H e L N) : ∃ ra rb rc, RowsD H e p n ra rb rc := by
  obtain ⟨x0, r0, a0, b0, c0, _⟩ := h.row 0 (by decide)
  obtain ⟨x1, r1, a1, b1, c1, _⟩ := h.row 1 (by decide)
  obtain ⟨x2, r2, a2, b2, c2, _⟩ := h.row 2 (by decide)
  exact ⟨r0, r1, r2, L 0, L 1, L 2, x0, x1, x2, h.he, a0, a1, a2, b0, b1, b2, c0, c1, c2⟩
theorem kw_one {x g : Str} {pa : Arguments} {bd : List Stmt} {sc : Scope} (F : FunD K x x pa bd sc [] [] f fd) (bb : ∀ (kV doc pm : Value) (an : Option Addr) (cdv ct u : Value), bindArgs (PySem.W.fnOf x x pa bd sc .none kV doc pm an cdv ct) ⟨[], [(g, u)]⟩ = pure ([(g, u)] : List (Str × Value))) (s : Shared) (u : Value) : BindsTo s fd ⟨[], [(g, u)]⟩ [(g, u)] := by
  obtain ⟨oc, od, dV, kV, doc, pm, an, cdv, ct, osl, rfl, lk, hcd, hD, hK⟩ := F.ex
  rcases hD with ⟨_, rfl⟩ | ⟨e, _⟩
  · exact .of_eq (bb _ _ _ _ _ _ _)
  · exact absurd rfl e
theorem sqL_past {H H1 H' : Hp} {b l : Addr} {xs : List V} (hb : H b = none) (s : Same H H1) (k : Kept b H1 H') (h : SqL K H l xs) : SqL K H' l xs := by
  rcases h with (h | ⟨o, h⟩) | h
  · exact .inl (.inl (k _ _ (s _ _ h) (ne_of_none h hb)))
  · exact .inl (.inr ⟨o, k _ _ (s _ _ h) (ne_of_none h hb)⟩)
  · exact .inr h
theorem sum_cast (f : Nat → Nat) : ∀ m, ((List.range m).map fun i => ((f i : Nat) : Int)).sum = ((((List.range m).map f).sum : Nat) : Int)
  | 0 => rfl
  | m + 1 => by
    rw [List.range_succ, List.map_append, List.map_append, List.sum_append, List.sum_append, sum_cast f m, Int.natCast_add]
    simp
theorem dimM_le {k : List Nat} {m : Nat} : dimM k m ≤ 2 := by
  unfold dimM
  repeat' split
  all_goals omega
theorem eq_kindV : KX.kindV.all flatV = true ∧ eqLV KX.kindV KX.kindV = true := ⟨rfl, rfl⟩
def spLaw (K : PySem.W.Frag) : Sp := fun vs H Q _ => ∃ (l : Addr) (ns : List Int), vs = [.ref l] ∧ SqL K H l (ns.map V.int) ∧ ∀ H', Q (.bl true) H'
abbrev nLa : List Str := ["_law_script", "_law_tape_here", "_law_shape_here", "_law_frame_here", "_law_length_here", "_law_rows_here", "_law_hands", "_law_due", "_law_kind", "_law_turn", "_law_told", "_law_amounts_here", "_law_size_here"]
theorem sc_la : FnScope nLa ["_law_script"] (defScope (top iLaw)) := ⟨rfl, rfl, rfl, by decide +kernel, rfl, by decide +kernel, by decide +kernel⟩
theorem ok_law (F : FnP K "law" iLaw f fd) (T : TX K mg) : FnOk P w K mg base CX0 16 f fd ["_law_script"] (spLaw K) := by
  obtain ⟨_, FTp, GTp, BTp⟩ := g_tape (P := P) (w := w) (base := base) T
  obtain ⟨_, FT, GT, BT⟩ := g_pick (P := P) (w := w) (base := base) T
  obtain ⟨fdSh, FSh⟩ := T.def "_law_shape" jShape
  have GSh : FnOk P w K mg base CX0 11 _ fdSh ["_law_tape_here", "_law_most"] (spShape 9) := ok_shape FSh T 9
  have BSh : Binds K fdSh ["_law_tape_here", "_law_most"] [] := FSh.bindsN fun _ _ _ _ _ _ us hl => match us, hl with | [_, _], _ => rfl
  obtain ⟨_, FFr, GFr, BFr⟩ := g_frame2 (P := P) (w := w) (base := base) T
  obtain ⟨_, FDr, GDr, BDr⟩ := g_drawn (P := P) (w := w) (base := base) T
  obtain ⟨_, FSe, GSe, BSe⟩ := g_sets2 (P := P) (w := w) (base := base) T
  obtain ⟨_, FCo, GCo, BCo⟩ := g_coef2 (P := P) (w := w) (base := base) T 9
  obtain ⟨_, FCs, GCs, BCs⟩ := g_coefs (P := P) (w := w) (base := base) T 9
  have KCs := fun (s : Shared) (u : Value) => kw_one (g := "word") FCs (fun _ _ _ _ _ _ _ => rfl) s u
  obtain ⟨fdWo, FWo⟩ := T.def "_law_word" jWord
  have GWo : FnOk P w K mg base CX0 13 _ fdWo ["_law_shape_here"] (spWord2 K 9) := ok_word2 FWo T 9
  have BWo : Binds K fdWo ["_law_shape_here"] [] := FWo.bindsN fun _ _ _ _ _ _ us hl => match us, hl with | [_], _ => rfl
  obtain ⟨_, FCn, GCn, BCn⟩ := g_counted (P := P) (w := w) (base := base) T
  obtain ⟨_, FD, GD, BD⟩ := g_kinds (P := P) (w := w) (base := base) T
  obtain ⟨_, FZ, GZ, BZ⟩ := g_size2 (P := P) (w := w) (base := base) T
  obtain ⟨fdWt, FWt⟩ := T.def "_law_worth" jWorth
  have GWt : FnOk P w K mg base CX0 12 _ fdWt ["_law_prime", "_law_length_here", "_law_hands", "_law_shape_here"] (spWorth 9) := ok_worth FWt T 9
  have BWt : Binds K fdWt ["_law_prime", "_law_length_here", "_law_hands", "_law_shape_here"] [] := FWt.bindsN fun _ _ _ _ _ _ us hl => match us, hl with | [_, _, _, _], _ => rfl
  refine F.ok sc_la (fun vs H Q E h => ?_) (fun cdv A outer s H vs Q E hr h => ?_)
  · obtain ⟨l, ns, rfl, _⟩ := h
    rfl
  · obtain ⟨l, ns, rfl, hs, k⟩ := h
    have nd := sc_la.nd
    have hr1 : Room 1 _ := hr.mono (by decide)
    have hr2 : Room 2 _ := hr.mono (by decide)
    have hr3 : Room 3 _ := hr.mono (by decide)
    have hr7 : Room 7 _ := hr.mono (by decide)
    have hr11 : Room 11 _ := hr.mono (by decide)
    have hr12 : Room 12 _ := hr.mono (by decide)
    have hr13 : Room 13 _ := hr.mono (by decide)
    have hr15 : Room 15 _ := hr
    have hu0 := hr.units0
    have hu := hu_of hr
    refine ⟨_, PSs.nox (pss_cons (ps_set (i := 1) nd rfl (.inl rfl) (pe_call GTp hr1 (by rfl) (T.df "_law_tape" jTape) FTp.kp BTp .nil pass0 (pa_cons (pv 0) (pa_cons pe_int pa_nil)))) (pss_cons (ps_set (i := 2) nd rfl (.inl rfl) (pe_call GSh hr11 (by rfl) (T.df "_law_shape" jShape) FSh.kp BSh .nil pass0 (pa_cons (pv 1) (pa_cons (pe_op op_add pe_int (pe_call GT hr1 (by rfl) (T.df "_law_pick" jPick) FT.kp BT .nil pass0 (pa_cons (pv 1) (pa_cons pe_int pa_nil)))) pa_nil)))) (pss_cons (ps_set (i := 3) nd rfl (.inl rfl) (pe_call GFr hr2 (by rfl) (T.df "_law_frame" jFrame) FFr.kp BFr .nil pass0 (pa_cons (pv 1) pa_nil))) (pss_cons (ps_asg (pe_call GDr hr3 (by rfl) (T.df "_law_drawn" jDrawn) FDr.kp BDr .nil pass0 (pa_cons (pe_call GTp hr1 (by rfl) (T.df "_law_tape" jTape) FTp.kp BTp .nil pass0 (pa_cons (pv 0) (pa_cons pe_int pa_nil))) (pa_cons (pv 3) pa_nil))) (pg_tup (by rfl) (pgs_cons (pg_name (i := 4) nd rfl (.inl rfl)) (pgs_cons (pg_name (i := 5) nd rfl (.inl rfl)) pgs_nil)))) (pss_cons (ps_set (i := 6) nd rfl (.inl rfl) (pe_call GSe hr3 (by rfl) (T.df "_law_sets" jSets) FSe.kp BSe .nil pass0 (pa_cons (pe_ix ix_tup (pv 3) pe_int (fun _ _ => rfl)) (pa_cons (pv 4) (pa_cons (pv 5) pa_nil))))) (pss_cons (ps_set (i := 7) nd rfl (.inl rfl) pe_dnewK) (pss_cons (ps_for PassesOwn.never rfl (pi_list (pe_call0 GD hr1 (by rfl) (T.df "_law_kinds" jKinds) FD.kp BD .nil pass0)) (pg_name (i := 8) nd rfl (.inl rfl)) (pss_one (ps_dput hu (pv 7) (pv 8) (pe_call GCo hr12 (by rfl) (T.df "_law_coefficient" jCoef) FCo.kp BCo .nil pass0 (pa_cons (pv 8) (pa_cons (pv 2) pa_nil))) rfl))) (pss_cons (ps_for PassesOwn.never rfl (pi_range1 (by rfl) (T.fr "range") (pa_cons pe_int pa_nil)) (pg_name (i := 9) nd rfl (.inl rfl)) (pss_cons (ps_set (i := 10) nd rfl (.inr rfl) (pe_call GCs hr15 (by rfl) (T.df "coefficients" iCoefs) FCs.kp BCs .nil pass0 (pa_cons (pe_call GWo hr13 (by rfl) (T.df "_law_word" jWord) FWo.kp BWo .nil pass0 (pa_cons (pv 2) pa_nil)) pa_nil))) (pss_cons (ps_cut (ps_if (PW.pt (pw_or (pt_cmpR (op_neDK hu0) (pv 10) (pv 7) (nomark _)) (pw_or1 (pt_cmpR (op_neF K hu0) (pe_lock (pe_lc (own := [("_law_kind", 8)]) (g := gName 8) (by rfl) nd (pi_keys (pv 10)) (blkOk_by (own := [("_law_kind", 8)]) (N := nLa) (sc := defScope (top iLaw)) (by decide +kernel)) (fun _ _ _ _ _ => pg_name (i := 8) nd rfl (Or.inl rfl)) (fun _ _ _ _ _ => pts_nil) (fun _ _ _ _ _ => pv 8))) (pe_call0 GD hr1 (by rfl) (T.df "_law_kinds" jKinds) FD.kp BD .nil pass0) (nomark _))))) (pss_one (ps_ret pe_bl)) pss_nil)) (pss_cons (ps_dput hu (pv 10) (pe_str) (pe_int) rfl) (pss_one (ps_dput hu (pv 10) (pe_str) (pe_un un_neg pe_int) rfl)))))) (pss_cons (ps_set (i := 11) nd rfl (.inr rfl) (pe_call GCn hr7 (by rfl) (T.df "_law_counted" jCounted) FCn.kp BCn .nil pass0 (pa_cons (pe_ix ix_tup (pv 3) pe_int (fun _ _ => rfl)) (pa_cons (pv 4) (pa_cons (pv 6) pa_nil))))) (pss_cons (ps_set (i := 12) nd rfl (.inl rfl) (pe_call GZ hr1 (by rfl) (T.df "_law_size" jSize) FZ.kp BZ .nil pass0 (pa_cons (pe_ix ix_tup (pv 3) pe_int (fun _ _ => rfl)) (pa_cons (pe_call GWt hr12 (by rfl) (T.df "_law_worth" jWorth) FWt.kp BWt .nil pass0 (pa_cons (pe_ix ix_tup (pv 3) pe_int (fun _ _ => rfl)) (pa_cons (pv 4) (pa_cons (pv 6) (pa_cons (pv 2) pa_nil))))) pa_nil)))) (pss_cons (ps_set (i := 10) nd rfl (.inr rfl) (pe_kcall1 GCs hr15 (by rfl) (T.df "coefficients" iCoefs) FCs.kp KCs pass0 (pk_cons (pe_call GWo hr13 (by rfl) (T.df "_law_word" jWord) FWo.kp BWo .nil pass0 (pa_cons (pv 2) pa_nil)) pk_nil))) (pss_one (ps_ret (pe_cmpR op_eq (pv 12) (pe_callB (cr_sum rfl) (by rfl) (T.fr "sum") (by decide +kernel) (pa_cons (pe_lc (own := [("_law_kind", 8)]) (g := gName 8) (by rfl) nd (pi_list (pe_call0 GD hr1 (by rfl) (T.df "_law_kinds" jKinds) FD.kp BD .nil pass0)) (blkOk_by (own := [("_law_kind", 8)]) (N := nLa) (sc := defScope (top iLaw)) (by decide +kernel)) (fun _ _ _ _ _ => pg_name (i := 8) nd rfl (Or.inl rfl)) (fun _ _ _ _ _ => pts_nil) (fun _ _ _ _ _ => pe_op op_mul (pe_dget hu (pv 10) (pv 8) (fun _ _ => rfl)) (pe_dget hu (pv 11) (pv 8) (fun _ _ => rfl)))) pa_nil)) (nomark _))))))))))))))), ?_⟩
    refine ⟨_, rfl, l, ns, 0, rfl, hs, by decide, fun H1 b s1 hb0 b1 => ?_⟩
    refine ⟨_, rfl, _, rfl, pick_use (m := 9) b1 (by decide) (by decide) fun d H2 d0 d9 k2 b2 _ => ?_⟩
    obtain ⟨d, rfl⟩ := Int.eq_ofNat_of_zero_le d0
    refine ⟨_, _, rfl, rfl, b, d + 1, (by rw [show ((d + 1 : Nat) : Int) = 1 + (d : Int) by omega]; rfl), b2, by omega, by omega, by omega, fun H3 ta t k3 b3 ht hdep => ?_⟩
    have hd9 : dep t ≤ 9 := by omega
    refine ⟨_, rfl, b, rfl, b3, fun H4 fr p m k4 b4 _ hfr hok => ?_⟩
    obtain ⟨hp, m1, m5, hpm⟩ := fr_parts hok
    have II := invF_ok hp
    have hq := isP_pos hp
    have ht4 := ht.kept k4 b3.at
    have K4 := k2.trans (k3.trans k4)
    have hs4 : SqL K H4 l (ns.map V.int) := sqL_past hb0 s1 K4 hs
    refine ⟨_, rfl, l, ns, 1, rfl, hs4, by decide, fun H5 b' s5 hb'0 b5 => ?_⟩
    refine ⟨_, rfl, b', fr, p, m, rfl, b5, s5 _ _ hfr, hok, fun H6 tp e n L k6 b6 _ htp hn hL hl => ?_⟩
    have ht6 := (ht4.same s5).kept k6 b5.at
    have hfr6 : H6 fr = some (.tup [.int p, .int (m : Nat)]) := k6 _ _ (s5 _ _ hfr) (tup_ne (s5 _ _ hfr) b5.at)
    refine ⟨tp, _, rfl, SqT.of htp, rfl, _, _, rfl, _, _, rfl, rfl, ?_⟩
    obtain ⟨ra, rb, rc, hR⟩ := hl.rowsD
    have hpn : p ^ n ≤ 1000000 := Int.le_trans (pow_up (by omega) hn) (by omega)
    refine ⟨_, rfl, fr, _, 0, _, rfl, rfl, SqT.of hfr6, rfl, _, rfl, _, rfl, p, n, e, ra, rb, rc, rfl, hR, hp, by omega, hpn, fun H7 hd s7 _ hh => ?_⟩
    have RA : Rref p n (Bs p ra) := reduced_ok II (modR_rows II.pos fun r hr => by obtain ⟨_, _, _, _, _, _, _, _, _, _, _, _, _, g, _⟩ := hR; exact (g r hr).1)
    have RB : Rref p n (Bs p rb) := reduced_ok II (modR_rows II.pos fun r hr => by obtain ⟨_, _, _, _, _, _, _, _, _, _, _, _, _, _, g, _⟩ := hR; exact (g r hr).1)
    have RC : Rref p n (Bs p rc) := reduced_ok II (modR_rows II.pos fun r hr => by obtain ⟨_, _, _, _, _, _, _, _, _, _, _, _, _, _, _, g⟩ := hR; exact (g r hr).1)
    have ht7 := ht6.same s7
    have hfr7 := s7 _ _ hfr6
    generalize Bs p ra = A1 at hh RA
    generalize Bs p rb = B1 at hh RB
    generalize Bs p rc = C1 at hh RC
    clear hR hl htp k6 b6 s5 b5 hs4 K4 hs
    have TI := tri_of hp RA RB RC
    -- what is due
    refine fun u hu0' => ?_
    have t1 := same_new (o := .dK []) hu0'
    have u1 : upd H7 u (.dK []) u = some (.dK ((dictK (coefD t)).take 0)) := upd_same
    have ht8 := ht7.same t1
    have hh8 := hh.same t1
    have hfr8 := t1 _ _ hfr7
    generalize upd H7 u (.dK []) = H8 at t1 u1 ht8 hh8 hfr8 ⊢
    refine ⟨rfl, fun H9 M s9 hM0 hM => ?_⟩
    have uM : M ≠ u := fun q => by rw [q, u1] at hM0; cases hM0
    have u9 := s9 _ _ u1
    have ht9 := ht8.same s9
    have hh9 := hh8.same s9
    have hfr9 := s9 _ _ hfr8
    refine ⟨M, rfl, ⟨_, SqL.of hM⟩, for_list (xs := KX.kindV) (fun i σ H' => ∃ z8 : Option V, σ = [some (.ref l), some (.ref b), some (.ref ta), some (.ref fr), some (.int (n : Nat)), some (.ref e), some (.ref hd), some (.ref u), z8, none, none, none, none] ∧ Kept u H9 H' ∧ H' u = some (.dK ((dictK (coefD t)).take i))) ⟨none, rfl, Kept.refl, u9⟩ (fun i σ H' _ z => let ⟨_, _, kp, _⟩ := z; SqL.of (kp _ _ hM uM)) ?_ ?_⟩
    · rintro i x σ Ha hx ⟨z8, rfl, kp, hua⟩
      obtain ⟨k', hk', rfl⟩ := KX.kind_at hx
      refine ⟨_, rfl, _, rfl, .ref ta, t, k', rfl, ht9.keptD kp u9, hd9, fun Hb sb => ?_⟩
      refine ⟨_, rfl, _, rfl, u, _, rfl, .inl ⟨_, Sum.inr (KX.kS k'), sb _ _ hua, rfl, lt_line (Nat.le_trans (List.length_take_le' _ _) (by show 9 ≤ 100000; decide)), rfl⟩, _, rfl, fun c' o z nn => by rw [upd_ne nn]; exact sb _ _ (kp _ _ z nn), ?_⟩
      rw [upd_same]
      show some (HO.dK (putK _ _ (coefD t k'))) = _
      rw [dictK_put (coefD t) hk']
    rintro σ Ha ⟨z8, rfl, kp, hua⟩
    have hua : Ha u = some (.dK (dictK (coefD t))) := hua
    have hta := ht9.keptD kp u9
    have hha : HandsD Ha hd p n A1 B1 C1 := by
      obtain ⟨g0, g1, g2, q0, q1, q2, he, x0, x1, x2, tt⟩ := hh9
      have ne : ∀ {c : Addr} {o : HO}, H7 c = some o → c ≠ u := fun h q => by rw [q, hu0'] at h; cases h
      have nd : ∀ {c : Addr} {ls}, H9 c = some (.dT ls) → c ≠ u := fun h q => by rw [q, u9] at h; cases h
      have h7 : hd ≠ u := by
        obtain ⟨_, _, _, _, _, _, he7, _⟩ := hh
        exact ne he7
      exact ⟨g0, g1, g2, q0, q1, q2, kp _ _ he h7, kp _ _ x0 (nd x0), kp _ _ x1 (nd x1), kp _ _ x2 (nd x2), tt⟩
    have hfra := tup_keptD kp u9 hfr9
    clear hh hh8 hh9 ht ht4 ht6 ht7 ht8 ht9 hfr hfr6 hfr7 hfr8 hfr9 hM kp u1 u9 t1 s9
    -- two turns
    refine ⟨2, rfl, by omega, by omega, for_range (lo := 0) (n := (2 : Int).toNat) (fun i σ H' => ∃ (z8 z9 z10 : Option V), σ = [some (.ref l), some (.ref b), some (.ref ta), some (.ref fr), some (.int (n : Nat)), some (.ref e), some (.ref hd), some (.ref u), z8, z9, z10, none, none] ∧ Same Ha H') ⟨z8, none, none, rfl, Same.refl _⟩ ?_ ?_⟩
    · rintro i σ Hb hi ⟨y8, y9, y10, rfl, sb⟩
      refine ⟨_, rfl, .ref ta, t, rfl, hta.same sb, hd9, fun Hc w1 sc hw1 => ?_⟩
      refine ⟨w1, t, rfl, hw1, hd9, fun Hd g sd hg0 hg => ?_⟩
      have sbd := sb.trans (sc.trans sd)
      refine ⟨fun σ H' => σ = [some (.ref l), some (.ref b), some (.ref ta), some (.ref fr), some (.int (n : Nat)), some (.ref e), some (.ref hd), some (.ref u), y8, some (.int (0 + (i : Int))), some (.ref g), none, none] ∧ Same Ha H' ∧ H' g = some (.dK (dictK (coefD t))), ?_, ?_⟩
      · refine ⟨_, rfl, _, rfl, g, u, _, _, rfl, rfl, hg, sbd _ _ hua, nine_flat, nine_flat, ?_⟩
        rw [if_neg Bool.false_ne_true]
        unfold coefD
        rw [nine_dEq, decide_eq_true (fun _ _ => rfl)]
        refine ⟨_, rfl, iteF ?_⟩
        refine ⟨g, _, hg, trivial, fun od => ?_⟩
        obtain ⟨He, eHe⟩ : ∃ He, He = upd Hd g (.frz od (.dK (dictK (coefD t)))) := ⟨_, rfl⟩
        have hge : He g = some (.frz od (.dK (dictK (coefD t)))) := by rw [eHe]; exact upd_same
        rw [← eHe]
        refine ⟨_, rfl, g, od, rfl, .inl ⟨_, hge, fun D hD => lc_it walk_keys (fun i H' => Same He H' ∧ H' D = some (.lst (KX.kindV.take i))) ⟨same_new hD, upd_same⟩ (fun i H' _ z => z.1 _ _ hge) ?_ ?_⟩⟩
        · rintro i x Hf Hg hi ⟨sm, hz⟩ ⟨rfl, k', v', hkv, rfl⟩
          rw [numD_len] at hi
          refine ⟨rfl, yes_if ?_⟩
          have hv : KX.kindV[i]? = some (kV k') := by
            have h1 : ((dictK (coefD t)).map fun kv => kV kv.1) = KX.kindV := by unfold dictK; rw [List.map_map]; rfl
            rw [← h1, List.getElem?_map, hkv]
            rfl
          refine ⟨_, rfl, _, hz, lt_line (by have := List.length_take_le i KX.kindV; have h9 : KX.kindV.length = 9 := rfl; omega), Same.grow sm hD, ?_⟩
          rw [upd_same]
          exact congrArg (fun z => some (HO.lst z)) (by rw [List.take_succ, hv]; rfl)
        rintro Hf ⟨sm, hz⟩
        rw [numD_len] at hz
        have hz : Hf D = some (.lst KX.kindV) := hz
        have Dg : D ≠ g := fun q => by rw [q, hge] at hD; cases hD
        have sU : Same Hd (upd Hf g (.dK (dictK (coefD t)))) := unlock hg eHe sm
        refine ⟨sm _ _ hge, ?_⟩
        refine ⟨rfl, fun Hh L2 sh _ hL2 => ?_⟩
        have hDh : Hh D = some (.lst KX.kindV) := sh _ _ (by rw [upd_ne Dg]; exact hz)
        refine ⟨D, L2, _, _, rfl, rfl, SqL.of hDh, SqL.of hL2, eq_kindV.1, eq_kindV.1, _, rfl, ?_⟩
        rw [eq_kindV.2]
        exact iteF ⟨rfl, sbd.trans (sU.trans sh), sh _ _ upd_same⟩
      rintro _ Hc' ⟨rfl, sc', hg'⟩
      have gu : ∀ {c : Addr} {o : HO}, Ha c = some o → c ≠ g := fun h q => by
        rw [q] at h
        rw [sc _ _ (sb _ _ h)] at hg0
        cases hg0
      refine ⟨_, rfl, g, _, rfl, DPut.k (k := Sum.inr "a") hg' (by rw [numD_len]; exact lt_line (by decide)), ?_⟩
      refine ⟨_, rfl, _, rfl, g, _, rfl, DPut.k (k := Sum.inr "plane") upd_same (Nat.lt_of_le_of_lt (length_putK _ _ _) (by rw [numD_len]; exact lt_line (by decide))), ?_⟩
      refine ⟨_, _, _, rfl, fun c' o z => ?_⟩
      rw [upd_ne (gu z), upd_ne (gu z)]
      exact sc' _ _ z
    rintro σ Hb ⟨y8, y9, y10, rfl, sb⟩
    have hhb := hha.same sb
    have htb := hta.same sb
    have hfb := sb _ _ hfra
    refine ⟨_, rfl, fr, _, 0, _, rfl, rfl, SqT.of hfb, rfl, _, rfl, _, rfl, hd, p, n, A1, B1, C1, rfl, hhb, hp, by omega, hpn, RA, RB, RC, fun Hc am sc _ ham => ?_⟩
    have hfc := sc _ _ hfb
    refine ⟨_, rfl, fr, _, 0, _, rfl, rfl, SqT.of hfc, rfl, _, rfl, fr, _, 0, _, rfl, rfl, SqT.of hfc, rfl, _, rfl, _, rfl, _, rfl, hd, .ref ta, t, p, n, A1, B1, C1, rfl, htb.same sc, hd9, hhb.same sc, hp, by omega, hpn, RA, RB, RC, fun Hd q1 L1 sd hq1 T1 => ?_⟩
    have c1 := T1.count II (valB_rref hp RA RB RC t)
    refine ⟨p, q1, L1, _, rfl, hq1, by omega, by omega, c1, ?_⟩
    refine ⟨_, rfl, .ref ta, t, rfl, (htb.same sc).same sd, hd9, fun He w2 se hw2 => ⟨rfl, w2, t, rfl, hw2, hd9, fun Hf g sf _ hg => ?_⟩⟩
    have ham2 := sf _ _ (se _ _ (sd _ _ ham))
    refine ⟨_, rfl, rfl, fun Hg M2 sg _ hM2 => ?_⟩
    have hwf := hta.wf
    have wd := word_dim hp TI hwf
    obtain ⟨cc, hcc⟩ : ∃ cc : Nat → Nat, cc = fun i => (extK (invF p) p n (wholeB p n) A1 B1 C1 i).length := ⟨_, rfl⟩
    rw [← hcc] at ham2
    refine ⟨M2, rfl, ⟨_, SqL.of hM2⟩, fun D hD => lc_it (walk_list (K := K) (a := M2) (xs := KX.kindV)) (fun i H' => Same Hg H' ∧ H' D = some (.lst ((((List.range 9).map fun i => ((cc i * dimM (kA i) (mk (kA i) t) : Nat) : Int)).take i).map V.int))) ⟨same_new hD, upd_same⟩ (fun i H' _ z => SqL.of (z.1 _ _ hM2)) ?_ ?_⟩
    · rintro i v Hh Hi hi ⟨sh, hz⟩ ⟨rfl, hv⟩
      have hi9 : i < 9 := hi
      obtain ⟨k', hk', rfl⟩ := KX.kind_at hv
      rw [(kind_i i hi9).1] at hk'
      obtain rfl := Option.some.inj hk'
      have dl := dimM_le (k := kA i) (m := mk (kA i) t)
      have hgi := sh _ _ (sg _ _ hg)
      have hai := sh _ _ (sg _ _ ham2)
      refine ⟨rfl, yes_if ?_⟩
      refine ⟨_, rfl, _, rfl, g, .int (dimM (kA i) (mk (kA i) t) : Nat), rfl, .inl ⟨_, Sum.inr (KX.kS (kA i)), .inl hgi, rfl, (dictK_get (coefD t) i hi9).symm⟩, _, rfl, _, rfl, am, .int (cc i : Nat), rfl, .inl ⟨_, Sum.inr (KX.kS (kA i)), .inl hai, rfl, (numD_get cc hi9).symm⟩, _, _, rfl, rfl, .inl ⟨by omega, by omega⟩, _, hz, lt_line (by rw [List.length_map]; have := List.length_take_le i ((List.range 9).map fun i => ((cc i * dimM (kA i) (mk (kA i) t) : Nat) : Int)); simp at this; simp; omega), Same.grow sh hD, ?_⟩
      have e0 : ((List.range 9).map fun i => ((cc i * dimM (kA i) (mk (kA i) t) : Nat) : Int))[i]? = some (((cc i * dimM (kA i) (mk (kA i) t) : Nat) : Int)) := by rw [List.getElem?_map, List.getElem?_range hi9]; rfl
      rw [upd_same, take_more e0]
      have e1 : ((dimM (kA i) (mk (kA i) t) : Nat) : Int) * ((cc i : Nat) : Int) = ((cc i * dimM (kA i) (mk (kA i) t) : Nat) : Int) := by rw [Int.natCast_mul, Int.mul_comm]
      dsimp only
      rw [e1]
    rintro Hh ⟨sh, hz⟩
    rw [show KX.kindV.length = 9 from rfl, List.take_of_length_le (by simp)] at hz
    refine ⟨D, _, rfl, SqL.of hz, rfl, ?_⟩
    have es : ((List.range 9).map fun i => ((cc i * dimM (kA i) (mk (kA i) t) : Nat) : Int)).sum = (((valB p n A1 B1 C1 t).length : Nat) : Int) := by
      rw [valB_I, wd, hcc]
      rw [sum_cast]
    rw [es, decide_eq_true rfl]
    exact k _
end
end KV

set_option Elab.async false
set_option linter.all false
set_option maxRecDepth 100000
set_option maxHeartbeats 0
/-! ## the end -/
namespace KV
open PySem PySem.Spec PyProof.Rows L2 VX
theorem facts {P : Program} {w : World} {K : PySem.W.Frag} {h : Heap} {mg : Str → Option Value} {f : Addr} (X : K.In h) (G : h.Ns mainGlobals mg) (hfa : mg ("law" : Str) = some (.ref f)) (c : He5.SaysA fa fn K) (e : ex K = true) :
    ∃ fd : FuncData, (∀ (s : Shared) (v : Value), BindsTo s fd ⟨[v], []⟩ [("_law_script", v)]) ∧ ∀ base : Heap, K.In base → base.Ns mainGlobals mg → FnOk P w K mg base CX0 16 f fd ["_law_script"] (spLaw K) := by
  have T : Txt K mg := txt_mk X G c e
  have D : Dfs K := dfs_mk c e
  have ee := hfa.symm.trans (T.dfs ("law", iLaw) (by decide +kernel))
  cases ee
  obtain ⟨fd, F⟩ := D.def "law" iLaw
  have b := FunD.bindsA (ps := ["_law_script"]) F fun _ _ _ _ _ _ us hl => match us, hl with | [_], _ => rfl
  exact ⟨fd, fun s v => b s [v] rfl, fun base _ _ => ok_law F ⟨T, D⟩⟩
end KV
open PySem PySem.W PySem.Calls PyProof.Rows
set_option maxRecDepth 100000 in
set_option maxHeartbeats 0 in
theorem PySem.Challenge.cw_handspaces_k32_dimensions_of_words_holds : PySem.Challenge.rw_handspaces_k32_dimensions_of_words.Holds := by
  w_on; o_law
  refine HandSHeadRun.head_any (r := KV.R) (q := view KV.R.prog [58]) (H := KV.hk) (ob := KV.ob) (M := 60000) (loose := KV.loose) (d := HandSHeadRun.topDef KV.R.prog 58) (kwd := []) KV.ob_eq
    (by kernel_rfl) (fun s => by kernel_rfl) KV.run (by kernel_rfl) (by kernel_rfl) (by kernel_rfl) (by rfl) (by first | assumption | decide +kernel) (by decide +kernel) ⟨rfl, rfl, rfl, rfl, rfl, by decide +kernel⟩ ?hw ?hc
  case hw => w_witness2
  case hc =>
    refine L2.walk_ofE (l := PySem.Challenge.rw_handspaces_k32_dimensions_of_words) (n := 63) (k := 16) (CX := L2.CX0) (x := "_law_script") rfl (by decide) (by kernel_rfl) ⟨rfl, by decide, by decide⟩ ?F (fun _ _ _ _ h => h)
    intro w mg fa h Y G hmg0
    obtain ⟨K, KX, c, e⟩ := Y
    have hmg : mg ("law" : PySem.Str) = some (.ref fa) := by
      have q : (HandSHeadRun.topDef KV.R.prog 58).name = ("law" : PySem.Str) := by kernel_rfl
      rw [← q]
      exact hmg0
    obtain ⟨fd, hb, hF⟩ := KV.facts (P := (PySem.Challenge.rw_handspaces_k32_dimensions_of_words).prog) (w := w) KX G hmg c e
    exact ⟨K, fd, KV.spLaw K, KX, hb, fun H a ns hl _ hS => ⟨a, ns, rfl, hS, fun _ => rfl⟩, hF⟩
