import PyProof.Rows.All
import Wide.All
import OpenK.AllK
import Wide.FinOn
import HandS.ForMost
import HandS.Exc
import HandS.TryOnly
import HandS.ExcOwn
import HandS.WordsExc
import HandS.TryMany
import HandS.ExcInit
import HandS.ExcField
import HandS.ExcIs
import HandS.ExcValue
import HandS.More
import HandS.IsInst
import HandS.DeepEq
import HandS.Style
import HandS.Conv
import HandS.NoneIn
import HandS.Flow
import KE.KIsAll
import KE.KTryMore
import HandS.Defaults
import HandS.Zip
import HandS.Walk
import HandS.Replace
import HandS.ReplaceDef
import HandS.ReplaceLit
import KE.GoesMore
import KE.GoesEnum
import KE.GoesEnumKw
import OpenK.KMeth
import PyProof.Rows.CallKwBuiltin
import HandS.ClsMeth
import HandS.HeadNt
import HandS.LawCells
import KE.KStateDown
import Lean
import HandS.Head0
import HandS.Head1
import HandS.Head2
import HandS.HeadEnd
import HandS.HeadHook1
import HandS.HeadHook2
import HandS.Property
import HandS.HeadHook3
import HandS.Wide
import HandS.Comp
import HandS.FStr
import HandS.DictComp
import HandS.Finally
import HandS.MakeKwOnly
import HandS.DictEq
import PyProof.FactsAll.dict_1
import PyProof.FactsAll.subtypes
import HandS.Deep
import PySem.Challenge.RW_handspaces_k23_thirty_words
set_option linter.all false
/-! # the walk of a word's text, on lists of signs (no model) -/
namespace KW
def leafC (c : Nat) : Bool := c == 97 || c == 98 || c == 99 || c == 48 || c == 49
def jointC (c : Nat) : Bool := c == 43 || c == 38
/-- one sign: how many are open, whether a word is wanted -/
def stp (o : Nat) (w : Bool) (c : Nat) : Option (Nat × Bool) :=
  if c = 32 then some (o, w) else if w && leafC c then some (o, false) else if w && c == 40 && decide (o < 9) then some (o + 1, true)
  else if !w && jointC c then some (o, true) else if !w && c == 41 && decide (0 < o) then some (o - 1, false) else none
/-- the column of the error, 0 if there is none; k is the column of the next sign -/
def dueAt : List Nat → Nat → Bool → Nat → Nat
  | [], o, w, k => if w || decide (0 < o) then k else 0
  | c :: l, o, w, k => match stp o w c with
    | none => k
    | some p => dueAt l p.1 p.2 (k + 1)
def due (l : List Nat) : Nat := dueAt l 0 true 1
/-- the rest can be read to its end -/
def Acc : Bool → Nat → List Nat → Bool
  | w, d, [] => !w && d == 0
  | true, d, c :: l => (leafC c && Acc false d l) || (c == 40 && decide (d < 9) && Acc true (d + 1) l)
  | false, d, c :: l => (jointC c && Acc true d l) || (c == 41 && decide (0 < d) && Acc false (d - 1) l)
theorem leaf_no {c : Nat} (h : leafC c = true) : c ≠ 32 ∧ c ≠ 40 ∧ c ≠ 41 ∧ jointC c = false := by
  simp only [leafC, Bool.or_eq_true, beq_iff_eq] at h
  refine ⟨by omega, by omega, by omega, ?_⟩
  simp only [jointC, Bool.or_eq_false_iff, beq_eq_false_iff_ne]
  omega
theorem joint_no {c : Nat} (h : jointC c = true) : c ≠ 32 ∧ c ≠ 40 ∧ c ≠ 41 ∧ leafC c = false := by
  simp only [jointC, Bool.or_eq_true, beq_iff_eq] at h
  refine ⟨by omega, by omega, by omega, ?_⟩
  simp only [leafC, Bool.or_eq_false_iff, beq_eq_false_iff_ne]
  omega
theorem step_o {o o' : Nat} {w w' : Bool} {c : Nat} (ho : o ≤ 9) (h : stp o w c = some (o', w')) : o' ≤ 9 := by
  unfold stp at h
  split at h
  · cases h; exact ho
  split at h
  · cases h; exact ho
  split at h
  · rename_i hh
    cases h
    simp only [Bool.and_eq_true, decide_eq_true_eq] at hh
    omega
  split at h
  · cases h; exact ho
  split at h
  · cases h; omega
  · cases h
theorem acc_of {l : List Nat} : ∀ {o : Nat} {w : Bool} {k : Nat}, 0 < k → dueAt l o w k = 0 → Acc w o (l.filter (· != 32)) = true := by
  induction l with
  | nil =>
    intro o w k hk h
    simp only [dueAt] at h
    cases w with
    | true => rw [if_pos (by simp)] at h; omega
    | false =>
      by_cases c : 0 < o
      · rw [if_pos (by simp [c])] at h; omega
      · have : o = 0 := by omega
        subst this
        rfl
  | cons c l ih =>
    intro o w k hk h
    simp only [dueAt] at h
    cases hs : stp o w c with
    | none => rw [hs] at h; dsimp only at h; omega
    | some p =>
      obtain ⟨o', w'⟩ := p
      rw [hs] at h
      dsimp only at h
      have ih' := ih (Nat.succ_pos k) h
      unfold stp at hs
      by_cases c32 : c = 32
      · rw [if_pos c32] at hs
        cases hs
        rw [List.filter_cons_of_neg (by simp [c32])]
        exact ih'
      · rw [if_neg c32] at hs
        rw [List.filter_cons_of_pos (by simp [c32])]
        split at hs
        · rename_i hh
          cases hs
          simp only [Bool.and_eq_true] at hh
          rw [hh.1]
          simp only [Acc, hh.2, ih', Bool.true_and, Bool.true_or]
        split at hs
        · rename_i hh
          cases hs
          simp only [Bool.and_eq_true] at hh
          rw [hh.1.1]
          simp only [Acc, hh.1.2, hh.2, ih', Bool.and_self, Bool.or_true]
        split at hs
        · rename_i hh
          cases hs
          simp only [Bool.and_eq_true, Bool.not_eq_true'] at hh
          rw [hh.1]
          simp only [Acc, hh.2, ih', Bool.true_and, Bool.true_or]
        split at hs
        · rename_i hh
          cases hs
          simp only [Bool.and_eq_true, Bool.not_eq_true'] at hh
          rw [hh.1.1]
          simp only [Acc, hh.1.2, hh.2, ih', Bool.and_self, Bool.or_true]
        · cases hs
/-- the law's order of tests gives the same -/
theorem acc_wanted {d : Nat} {l : List Nat} (h : Acc true d l = true) : ∃ c r, l = c :: r ∧ ((leafC c = true ∧ Acc false d r = true) ∨ (c = 40 ∧ d < 9 ∧ Acc true (d + 1) r = true)) := by
  cases l with
  | nil => simp [Acc] at h
  | cons c r =>
    refine ⟨c, r, rfl, ?_⟩
    simp only [Acc, Bool.or_eq_true, Bool.and_eq_true, beq_iff_eq, decide_eq_true_eq] at h
    rcases h with h | h
    · exact .inl h
    · exact .inr ⟨h.1.1, h.1.2, h.2⟩
theorem acc_joint {d c : Nat} {r : List Nat} (hj : jointC c = true) (h : Acc false d (c :: r) = true) : Acc true d r = true := by
  have n := joint_no hj
  simp only [Acc, Bool.or_eq_true, Bool.and_eq_true, beq_iff_eq, decide_eq_true_eq] at h
  rcases h with h | h
  · exact h.2
  · exact absurd h.1.1 n.2.2.1
theorem acc_close {d : Nat} {l : List Nat} (hd : 0 < d) (hj : ∀ c r, l = c :: r → jointC c = false) (h : Acc false d l = true) : ∃ r, l = 41 :: r ∧ Acc false (d - 1) r = true := by
  cases l with
  | nil =>
    simp only [Acc, Bool.not_false, Bool.true_and, beq_iff_eq] at h
    omega
  | cons c r =>
    have n := hj c r rfl
    simp only [Acc, Bool.or_eq_true, Bool.and_eq_true, beq_iff_eq, decide_eq_true_eq, n] at h
    rcases h with h | h
    · exact absurd h.1 (by simp)
    · exact ⟨r, by rw [h.1.1], h.2⟩
/-- a word as a tree -/
inductive Tr where
  | lf (c : Nat)
  | nd (c : Nat) (l r : Tr)
/-! what is read: from the list before to the list behind, d parentheses open -/
mutual
inductive RP : Nat → List Nat → Tr → List Nat → Prop
  | leaf {d c : Nat} {r : List Nat} : leafC c = true → RP d (c :: r) (.lf c) r
  | paren {d : Nat} {l r : List Nat} {t : Tr} : d < 9 → RS (d + 1) l t (41 :: r) → RP d (40 :: l) t r
inductive RIs : Nat → Nat → Tr → List Nat → Tr → List Nat → Prop
  | stop {d : Nat} {t : Tr} {r : List Nat} : r.head? ≠ some 38 → RIs d 0 t r t r
  | more {d k : Nat} {t u t' : Tr} {r r1 r' : List Nat} : RP d r u r1 → RIs d k (.nd 38 t u) r1 t' r' → RIs d (k + 1) t (38 :: r) t' r'
inductive RI : Nat → List Nat → Tr → List Nat → Prop
  | mk {d k : Nat} {l r r' : List Nat} {t t' : Tr} : RP d l t r → RIs d k t r t' r' → RI d l t' r'
inductive RSs : Nat → Nat → Tr → List Nat → Tr → List Nat → Prop
  | stop {d : Nat} {t : Tr} {r : List Nat} : r.head? ≠ some 43 → RSs d 0 t r t r
  | more {d k : Nat} {t u t' : Tr} {r r1 r' : List Nat} : RI d r u r1 → RSs d k (.nd 43 t u) r1 t' r' → RSs d (k + 1) t (43 :: r) t' r'
inductive RS : Nat → List Nat → Tr → List Nat → Prop
  | mk {d k : Nat} {l r r' : List Nat} {t t' : Tr} : RI d l t r → RSs d k t r t' r' → RS d l t' r'
end
def PartOk (n : Nat) : Prop := ∀ (l : List Nat) (d : Nat), l.length ≤ n → Acc true d l = true → ∃ t r, RP d l t r ∧ Acc false d r = true ∧ r.length < l.length
def InterOk (n : Nat) : Prop := ∀ (l : List Nat) (d : Nat), l.length ≤ n → Acc true d l = true → ∃ t r, RI d l t r ∧ Acc false d r = true ∧ r.length < l.length ∧ r.head? ≠ some 38
def SumOk (n : Nat) : Prop := ∀ (l : List Nat) (d : Nat), l.length ≤ n → Acc true d l = true → ∃ t r, RS d l t r ∧ Acc false d r = true ∧ r.length < l.length ∧ ∀ c s, r = c :: s → jointC c = false
theorem inters {n : Nat} (hp : PartOk n) : ∀ (m : Nat) (r : List Nat) (d : Nat) (t : Tr), r.length ≤ m → r.length ≤ n → Acc false d r = true → ∃ k t' r', RIs d k t r t' r' ∧ Acc false d r' = true ∧ r'.length ≤ r.length ∧ r'.head? ≠ some 38 := by
  intro m
  induction m with
  | zero =>
    intro r d t h _ a
    have : r = [] := List.length_eq_zero_iff.mp (by omega)
    subst this
    exact ⟨0, t, [], .stop (by simp), a, Nat.le_refl _, by simp⟩
  | succ m ih =>
    intro r d t h hn a
    by_cases hh : r.head? = some 38
    · obtain ⟨s, rfl⟩ : ∃ s, r = 38 :: s := by
        cases r with
        | nil => simp at hh
        | cons c s => exact ⟨s, by rw [Option.some.inj hh]⟩
      have a2 := acc_joint (by decide) a
      simp only [List.length_cons] at h hn
      obtain ⟨u, r1, p1, p2, p3⟩ := hp s d (by omega) a2
      obtain ⟨k, t', r', q1, q2, q3, q4⟩ := ih r1 d (.nd 38 t u) (by omega) (by omega) p2
      exact ⟨k + 1, t', r', .more p1 q1, q2, by simp only [List.length_cons]; omega, q4⟩
    · exact ⟨0, t, r, .stop hh, a, Nat.le_refl _, hh⟩
theorem interOk {n : Nat} (hp : PartOk n) : InterOk n := fun l d h a => by
  obtain ⟨t, r, p1, p2, p3⟩ := hp l d h a
  obtain ⟨k, t', r', q1, q2, q3, q4⟩ := inters hp r.length r d t (Nat.le_refl _) (by omega) p2
  exact ⟨t', r', .mk p1 q1, q2, by omega, q4⟩
theorem sums {n : Nat} (hp : InterOk n) : ∀ (m : Nat) (r : List Nat) (d : Nat) (t : Tr), r.length ≤ m → r.length ≤ n → r.head? ≠ some 38 → Acc false d r = true → ∃ k t' r', RSs d k t r t' r' ∧ Acc false d r' = true ∧ r'.length ≤ r.length ∧ r'.head? ≠ some 43 ∧ r'.head? ≠ some 38 := by
  intro m
  induction m with
  | zero =>
    intro r d t h _ _ a
    have : r = [] := List.length_eq_zero_iff.mp (by omega)
    subst this
    exact ⟨0, t, [], .stop (by simp), a, Nat.le_refl _, by simp, by simp⟩
  | succ m ih =>
    intro r d t h hn h38 a
    by_cases hh : r.head? = some 43
    · obtain ⟨s, rfl⟩ : ∃ s, r = 43 :: s := by
        cases r with
        | nil => simp at hh
        | cons c s => exact ⟨s, by rw [Option.some.inj hh]⟩
      have a2 := acc_joint (by decide) a
      simp only [List.length_cons] at h hn
      obtain ⟨u, r1, p1, p2, p3, p4⟩ := hp s d (by omega) a2
      obtain ⟨k, t', r', q1, q2, q3, q4⟩ := ih r1 d (.nd 43 t u) (by omega) (by omega) p4 p2
      exact ⟨k + 1, t', r', .more p1 q1, q2, by simp only [List.length_cons]; omega, q4⟩
    · exact ⟨0, t, r, .stop hh, a, Nat.le_refl _, hh, h38⟩
theorem sumOk {n : Nat} (hp : InterOk n) : SumOk n := fun l d h a => by
  obtain ⟨t, r, p1, p2, p3, p4⟩ := hp l d h a
  obtain ⟨k, t', r', q1, q2, q3, q4, q5⟩ := sums hp r.length r d t (Nat.le_refl _) (by omega) p4 p2
  refine ⟨t', r', .mk p1 q1, q2, by omega, fun c s e => ?_⟩
  subst e
  simp only [jointC, Bool.or_eq_false_iff, beq_eq_false_iff_ne]
  exact ⟨fun e => q4 (by simp [e]), fun e => q5 (by simp [e])⟩
theorem partOk : ∀ n, PartOk n := by
  intro n
  induction n with
  | zero =>
    intro l d h a
    have : l = [] := List.length_eq_zero_iff.mp (by omega)
    subst this
    simp [Acc] at a
  | succ n ih =>
    intro l d h a
    obtain ⟨c, r, rfl, q⟩ := acc_wanted a
    simp only [List.length_cons] at h
    rcases q with ⟨hl, ha⟩ | ⟨rfl, hd, ha⟩
    · exact ⟨.lf c, r, .leaf hl, ha, by simp⟩
    · obtain ⟨t, r1, p1, p2, p3, p4⟩ := sumOk (interOk ih) r (d + 1) (by omega) ha
      obtain ⟨r2, rfl, a2⟩ := acc_close (Nat.succ_pos d) p4 p2
      simp only [List.length_cons] at p3
      exact ⟨t, r2, .paren hd p1, a2, by simp only [List.length_cons]; omega⟩
/-- a text without an error can be read to its end -/
theorem reads {l : List Nat} (h : due l = 0) : ∃ t, RS 0 (l.filter (· != 32)) t [] := by
  have a := acc_of (Nat.succ_pos 0) h
  obtain ⟨t, r, p1, p2, p3, p4⟩ := sumOk (interOk (partOk _)) _ 0 (Nat.le_refl _) a
  refine ⟨t, ?_⟩
  cases r with
  | nil => exact p1
  | cons c s =>
    have := p4 c s rfl
    simp [Acc, this] at p2
end KW

set_option Elab.async false
set_option linter.all false
set_option maxRecDepth 100000
set_option maxHeartbeats 2000000
namespace VX
open PySem PySem.Spec PyProof.Rows L2
/-! ### ints: a power of a greater base -/
def CPw (i j : Int) : Prop := 0 ≤ j ∧ (Builtin.Int.intBits i : Int) * j ≤ 2 ^ 27
theorem op_pw {X : Cx} : OpR X (binaryOp .Pow) (rI CPw fun i j => .int (i ^ j.toNat)) :=
  opI fun _ _ _ _ _ _ _ c q => pow_int c.1 c.2 q
/-! ### repr of data -/
inductive DX (K : PySem.W.Frag) (H : Hp) : V → PyData → Prop where
  | dp {v : V} {d : PyData} (h : Dp K H v d) : DX K H v d
  | dk {a : Addr} {x : Str} {i : Int} (h : H a = some (.dK [(Sum.inr x, .int i)])) : DX K H (.ref a) (.dict [(.str x, .int i)])
structure Shown (K : PySem.W.Frag) (H : Hp) (v : V) (d : PyData) : Prop where
  dx : DX K H v d
  sh : d.showable = true
  dep : d.depth ≤ 8
  sz : d.shown.length ≤ sizeLine
theorem kv_one {kvs : List (Key × V)} {vs : List (Key × Value)} {x : Str} {i : Int} (r : KV kvs vs) (e : kvs = [(Sum.inr x, V.int i)]) : ∃ t, vs = [(Sum.inr x, Value.int i t)] := by
  subst e
  cases r with
  | cons h t =>
    cases t
    rename_i b
    obtain ⟨k, u⟩ := b
    obtain ⟨h1, h2⟩ := h
    obtain ⟨t, h2⟩ := h2
    dsimp only at h1 h2
    subst h1 h2
    exact ⟨t, rfl⟩
theorem DX.reads {X : Cx} {pins : List (Addr × Obj)} {σ : L2.St} {H : Hp} {s : Shared} (I : Inv X pins σ H s) {d : PyData} {v : V} {u : Value} (h : DX X.K H v d) (r : RelV v u) :
    ∃ as, Reads s.heap u d as ∧ (d.hasDict = true → sysModules ∉ as) := by
  cases h with
  | dp h =>
    obtain ⟨as, q⟩ := Dp.reads I d v u h r
    refine ⟨as, q, fun hd => ?_⟩
    exfalso
    have no : ∀ (d : PyData) (v : V), Dp X.K H v d → d.hasDict = false := by
      intro d
      refine PyData.rec (motive_1 := fun d => ∀ v, Dp X.K H v d → d.hasDict = false) (motive_2 := fun ds => ∀ vs, DpAll X.K H vs ds → PyData.hasDictAll ds = false)
        (motive_3 := fun _ => True) (motive_4 := fun _ => True) ?_ ?_ ?_ ?_ ?_ ?_ ?_ ?_ ?_ ?_ ?_ ?_ d
      all_goals first
        | (intros; simp only [PyData.hasDict]; done)
        | (intro xs ih v h; simp only [PyData.hasDict]; cases h with | lst _ ha => exact ih _ ha)
        | (intro xs ih v h; simp only [PyData.hasDict]; cases h with | tup _ ha => exact ih _ ha)
        | (intro xs ih v h; cases h; done)
        | (intro vs h; simp only [PyData.hasDictAll]; done)
        | (intro x xs ih1 ih2 vs h; cases h with | cons h1 h2 => simp only [PyData.hasDictAll, ih1 _ h1, ih2 _ h2, Bool.or_self])
        | (intros; trivial)
    rw [no d v h] at hd
    cases hd
  | @dk a x i h =>
    cases (show u = Value.ref a from r)
    obtain ⟨_, ns, vs, rv, o, es, ep, e, ex, hd, hk, hp, _⟩ := (show ObjOk X.prog X.w H s.heap a (.dK [(Sum.inr x, .int i)]) from I.hok a _ h)
    obtain ⟨t, rfl⟩ := kv_one rv rfl
    obtain ⟨l⟩ := es
    cases hp with
    | @cons en kv tl tk h1 h2 h3 =>
      cases h3
      obtain ⟨t', ek⟩ := Value.isStrOf_shape (x := x) (v := en.key) (show Value.isStrOf x en.key = true from h1)
      have ev : en.val = Value.int i t := h2
      refine ⟨[a] ++ ([] ++ []) ++ ([] ++ []), Reads.dict (as := [] ++ []) (bs := [] ++ []) e ex.1 hd (ReadsAll.cons ?_ .nil) (ReadsAll.cons ?_ .nil), fun _ => ?_⟩
      · show Reads s.heap en.key (.str x) []
        rw [ek]; exact Reads.str x t'
      · show Reads s.heap en.val (.int i) []
        rw [ev]; exact Reads.int i t
      · intro m
        have e' : sysModules = a := by simpa using m
        rw [← e'] at ns
        exact absurd ns (by simp)
theorem call_repr {X : Cx} (hg : X.A.guards = some []) (hu : X.A.units + 64 < cLine) : CallR X (.builtin "repr") (fun xs H Q => ∃ v d, xs = [v] ∧ Shown X.K H v d ∧ Q (.str d.shown) H) := by
  intro pins s σ H xs us Q I r h
  obtain ⟨v, d, rfl, S, q⟩ := h
  obtain ⟨u, rfl, ru⟩ := vals1 r
  obtain ⟨as, R, hs⟩ := S.dx.reads I ru
  have leaf : ∀ {z : Str} {s' : Shared}, s' = { s with toks := s.toks + 1 } → Q (.str z) H → EP X pins σ Q (.str z s.toks) s' := fun {z s'} e q => by
    subst e
    exact ⟨.str z, H, I.tok _, ⟨_, rfl⟩, q⟩
  have sh := S.sh
  have sz := S.sz
  have dp := S.dep
  clear S ru r
  cases R with
  | none => exact P.repr_of_none (leaf rfl (by simpa only [PyData.shown] using q))
  | bool b => exact P.repr_of_bool (leaf rfl (by simpa only [PyData.shown] using q))
  | int i t => exact P.repr_of_int (by simpa [PyData.showable] using sh) (leaf rfl (by simpa only [PyData.shown] using q))
  | str x t => exact P.repr_of_str (leaf rfl (by simpa only [PyData.shown] using q)) (by simpa only [PyData.shown] using sz)
  | list a b c e => exact repr_of_reads' (Reads.list a b c e) sh hs hg (by omega) (fun _ _ z => z) (fun h' u tk k => ⟨.str _, H, I.kept k, ⟨_, rfl⟩, q⟩) sz
  | tuple a b c e => exact repr_of_reads' (Reads.tuple a b c e) sh hs hg (by omega) (fun _ _ z => z) (fun h' u tk k => ⟨.str _, H, I.kept k, ⟨_, rfl⟩, q⟩) sz
  | dict a b c e f => exact repr_of_reads' (Reads.dict a b c e f) sh hs hg (by omega) (fun _ _ z => z) (fun h' u tk k => ⟨.str _, H, I.kept k, ⟨_, rfl⟩, q⟩) sz
/-! ### lists of the very same things -/
def OneV (v : V) : Prop := flatB v = true ∨ ∃ c, v = .ref c
theorem one_eq {A : Around} {s : Shared} {v : V} {u u' : Value} (o : OneV v) (r : RelV v u) (r' : RelV v u') : SeqAt.EqAt A s u u' true := by
  rcases o with o | ⟨c, rfl⟩
  · exact eqAt_same r r' o
  · cases (show u = Value.ref c from r)
    cases (show u' = Value.ref c from r')
    exact SeqAt.EqAt.same _
theorem all_one {A : Around} {s : Shared} : ∀ {xs : List V} {us ws : List Value}, (∀ v ∈ xs, OneV v) → Vals xs us → Vals xs ws → ∀ j (h1 : j < us.length) (h2 : j < ws.length), SeqAt.EqAt A s us[j] ws[j] true
  | [], _, _, _, .nil, .nil, j, h1, _ => absurd h1 (Nat.not_lt_zero j)
  | x :: xs, _, _, o, .cons a b, .cons a' b', 0, _, _ => one_eq (o x List.mem_cons_self) a a'
  | x :: xs, _, _, o, .cons a b, .cons a' b', j + 1, h1, h2 => all_one (fun v hv => o v (List.mem_cons_of_mem _ hv)) b b' j (Nat.lt_of_succ_lt_succ h1) (Nat.lt_of_succ_lt_succ h2)
def rSame (K : PySem.W.Frag) (b : Bool) : R2 := fun x y H Q => ∃ p q xs, x = .ref p ∧ y = .ref q ∧ SqL K H p xs ∧ SqL K H q xs ∧ (∀ v ∈ xs, OneV v) ∧ Q (.bl b) H
theorem op_neSame {X : Cx} (hu : X.A.units < cLine) : OpR X (compareOp .NotEq) (rSame X.K false) := by
  intro pins s σ H x y v u Q I rx ry h
  obtain ⟨p, q, xs, rfl, rfl, hp, hq, ho, hQ⟩ := h
  cases (show v = Value.ref p from rx)
  cases (show u = Value.ref q from ry)
  obtain ⟨us, r1, p1, _⟩ := I.list hp
  obtain ⟨ws, r2, p2, _⟩ := I.list hq
  have hsz : us.toArray.size = ws.toArray.size := by
    rw [List.size_toArray, List.size_toArray, ← r1.length, ← r2.length]
  refine SeqAt.RcNeAt.lists (e := fun _ => true) p1.isList p2.isList hsz hu (fun j h1 h2 => ?_) _ _ _ _ ?_
  · have k := all_one (A := X.A.in1) (s := s) ho r1 r2 j (by simpa using h1) (by simpa using h2)
    simpa using k
  · rw [show ((List.range us.toArray.size).all fun _ => true) = true from List.all_eq_true.mpr fun _ _ => rfl]
    exact ⟨.bl false, H, I, rfl, hQ⟩
theorem op_eqSame {X : Cx} (hu : X.A.units < cLine) : OpR X (compareOp .Eq) (rSame X.K true) := by
  intro pins s σ H x y v u Q I rx ry h
  obtain ⟨p, q, xs, rfl, rfl, hp, hq, ho, hQ⟩ := h
  cases (show v = Value.ref p from rx)
  cases (show u = Value.ref q from ry)
  obtain ⟨us, r1, p1, _⟩ := I.list hp
  obtain ⟨ws, r2, p2, _⟩ := I.list hq
  have hsz : us.toArray.size = ws.toArray.size := by
    rw [List.size_toArray, List.size_toArray, ← r1.length, ← r2.length]
  refine SeqAt.RcAt.lists (e := fun _ => true) p1.isList p2.isList hsz hu (fun j h1 h2 => ?_) _ _ _ _ ?_
  · have k := all_one (A := X.A.in1) (s := s) ho r1 r2 j (by simpa using h1) (by simpa using h2)
    simpa using k
  · rw [show ((List.range us.toArray.size).all fun _ => true) = true from List.all_eq_true.mpr fun _ _ => rfl]
    exact ⟨.bl true, H, I, rfl, hQ⟩
end VX

set_option Elab.async false
set_option linter.all false
set_option maxRecDepth 100000
set_option maxHeartbeats 4000000
/-! exceptions as values -/
namespace VX
open PySem PySem.Spec PyProof.Rows L2
section
variable {X : Cx} {pins : List (Addr × Obj)} {σ : L2.St} {H : Hp} {s s' : Shared}
/-- the same state, the heap grown -/
theorem Inv.up (I : L2.Inv X pins σ H s) (k : ∀ b o, s.heap.get? b = some o → s'.heap.get? b = some o) (ho : s'.os = s.os) (hb : AllBare s'.gens) : L2.Inv X pins σ H s' :=
  I.call' (ch := []) ho (Un.kept k) (I.hok.kept k) hb fun b z => absurd z (by simp)
/-- the same state, the heap grown by one thing that is tracked from now on -/
theorem Inv.upA {a : Addr} {o : HO} (I : L2.Inv X pins σ H s) (k : ∀ b o, s.heap.get? b = some o → s'.heap.get? b = some o) (n : s.heap.get? a = none) (na : H a = none) (new : ObjOk X.prog X.w (upd H a o) s'.heap a o) (ho : s'.os = s.os) (hb : AllBare s'.gens) :
    L2.Inv X pins σ (upd H a o) s' :=
  I.call' (ch := []) ho (Un.laidN k n na) (I.hok.laidN k na new) hb fun b z => absurd z (by simp)
end
/-- an exception that stands at a, of the class cls, its own dict d -/
def ExD (cls : Value) (d : Option Addr) (a : Addr) : HO := .ext fun h => ∃ (oe : Obj) (vs : Array Value), h.get? a = some oe ∧ Zc cls d oe ∧ oe.data = .fields vs
theorem exD_ok {P : Program} {w : World} {H : Hp} {h : Heap} {a : Addr} {cls : Value} {d : Option Addr} {oe : Obj} {vs : Array Value} (e : h.get? a = some oe) (z : Zc cls d oe) (q : oe.data = .fields vs) : ObjOk P w H h a (ExD cls d a) :=
  ⟨⟨oe, vs, e, z, q⟩, ⟨oe, e⟩, fun _ _ ⟨o, v, p, r⟩ k => ⟨o, v, k o p, r⟩⟩
/-- C(..), the exception itself -/
theorem pe_exV {X : Cx} {e : Expr} {t : L2.St → Hp → XK → Prop} (he : PMk X e t) : PE X e (fun σ H Q => t σ H fun cls d H1 => ∀ a, H1 a = none → Q (.ref a) (upd H1 a (ExD cls d a))) := by
  refine ⟨fun pins s σ H Q I h => ?_⟩
  refine thn (he pins s σ H _ I h) fun u s1 hu => ?_
  obtain ⟨a, oe, vs, sI, H', cls, d, rfl, J, k, n, ha, hz, hd, _, na, os, ag, _, q⟩ := hu
  exact ⟨.ref a, _, Inv.upA J k n na (exD_ok ha hz hd) os ag, rfl, q a na⟩
/-- C(..).n -/
theorem pe_exGet {X : Cx} {e : Expr} {n : Str} {pos : Pos} {t : L2.St → Hp → XK → Prop} (he : PMk X e t) (hb : attributeBase e n X.env (eval e X.env) = eval e X.env := by rfl) :
    PE X (.Attribute e n pos) (fun σ H Q => t σ H fun cls d H1 => ∃ (C dd : Addr) (fs : List (Str × V)) (v : V), cls = .ref C ∧ d = some dd ∧ XfC X.K C ∧ PySem.W.findIn X.K (.ref C) n = some none ∧ H1 dd = some (.xd fs) ∧ fs.lookup n = some v ∧ Q v H1) := by
  refine ⟨fun pins s σ H Q I h => ?_⟩
  refine attr_of hb (thn (he pins s σ H _ I h) fun u s1 hu => ?_)
  obtain ⟨a, oe, vs, sI, H', cls, d, rfl, J, k, n0, ha, hz, hd, _, na, os, ag, _, C, dd, fs, v, rfl, rfl, T, hno, hx, hl, q⟩ := hu
  have J1 := Inv.up (s' := s1) J k os ag
  obtain ⟨mA, hns, hr⟩ := (show ObjOk X.prog X.w H' s1.heap dd (.xd fs) from J1.hok dd _ hx)
  obtain ⟨od, ho, hlk⟩ := lookIn_ns hns
  obtain ⟨u, hu, ru⟩ := RelO.some_of (v := v) (o := mA n) (by rw [← hl]; exact hr n)
  have it : PySem.W.InstAt s1.heap a oe C (some od) := ⟨ha, hz.1, by unfold PySem.W.notCls; rw [hd] <;> rfl, by rw [hz.2]; exact ho⟩
  exact HandSPX.exc_get J1.kIn it T.ga T.gg T.exC (PySem.W.findObj_own T.hdC hno rfl (by rw [hlk, hu])) (handed_of ru) ⟨v, H', J1.tok _, ru, q⟩
end VX

set_option Elab.async false
set_option linter.all false
set_option maxRecDepth 100000
set_option maxHeartbeats 4000000
/-! isinstance of an exception that may have its own dict -/
namespace VX
open PySem PySem.Spec PySem.Calls PyProof.Rows PySem.W
section
variable {pg : Program} {wd : World} {B : Around} {Er : Value → Shared → Prop} {st : Shared} {F : Frag} {y D : Addr} {oy : Obj} {od : Option Obj}
theorem bindsAt {C : Addr} {nm : Str} {a g : Value} (hc : (clsIn F C).isSome = true) (h1 : findIn F (.ref C) nm = some (some a)) (h2 : specialIn F a "__get__" = some (some g)) (h3 : takesIn F a = some true) : findObj F C od nm = some (.bind g a) := by
  cases e : clsIn F C with
  | none => rw [e] at hc; cases hc
  | some cd => simp [findObj, e, h1, h2, h3]
structure ExIs (F : Frag) (D : Addr) : Prop where
  xc : L2.ExcC F D
theorem clsSome (h : hasDictIn F D = true) : (clsIn F D).isSome = true := by
  obtain ⟨cd, hc, _⟩ := any_some h
  rw [hc]; rfl
theorem class_of_exc {Q : Option Value → Shared → Prop} (T : L2.ExcC F D) (X : F.In st.heap) (I : InstAt st.heap y oy D od) (h : Q (some (.ref D)) { st with toks := st.toks + 1 }) : wpAny (model pg wd) B (getAttr? (.ref y) "__class__") Q Er st := by
  have fb : findObj F D od "__class__" = some (.bind (.builtin "getset_descriptor.__get__") (.builtin "object.__class__")) := bindsAt (clsSome T.hd) T.ha T.hn T.ht
  obtain ⟨hp, gs, dr, tk, os⟩ := st
  have a0 := I.type (M := model pg wd)
  have a1 := looks_findIn (M := model pg wd) X T.hg
  have a2 := looks_findIn (M := model pg wd) X T.hk
  have a3 := looks_find (M := model pg wd) X I fb
  have sb : Looks (model pg wd) hp (isInstance (.ref y) (.type "BaseException")) true := a0.andThen (looks_subIn X T.hs)
  have ne : (Value.builtin "BaseException.__getattribute__" == Value.builtin "object.__getattribute__") = false := by decide +kernel
  have nf : (onTheHeap (Value.ref D) && Value.builtin "BaseException.__getattribute__" == Value.builtin "object.__getattribute__") = false := by rw [ne]; rfl
  unfold getAttr? getAttrBy? getAttrBy
  refine wpAny_bind (wpAny_mkText (wpAny_bind (wpAny_attempt (wpAny_holding (wpAny_bind (a0.at (wpAny_bind (a1.at ?z1))))))))
  case z1 =>
    show wpAny _ _ (if (onTheHeap (Value.ref D) && Value.builtin "BaseException.__getattribute__" == Value.builtin "object.__getattribute__") = true then _ else _) _ _ _
    rw [nf, if_neg Bool.false_ne_true]; unfold getAttrByItsOwn hookBefore
    refine wpAny_bind ?z2
    case z2 =>
      rw [if_pos (show onTheHeap (Value.ref D) = true from rfl)]; refine a2.at (wpAny_bind (wpAny_attempt (wpAny_holding ?z3)))
      case z3 =>
        unfold callGetattribute; rw [show (false && onTheHeap (Value.builtin "BaseException.__getattribute__")) = false from rfl, if_neg Bool.false_ne_true]
        unfold boundAndCalled; rw [PySem.F.excAttr_ValueError.ga.bind (.ref y)]
        refine wpAny_bind (wpAny_pure ?z4)
        case z4 =>
          show wpAny _ _ (call (.builtin "BaseException.__getattribute__") [.ref y, .str "__class__" tk]) _ _ _
          refine wpAny_call (codeAny_call_builtin PySem.F.excAttr_ValueError.ga.plain PySem.F.entry_bexc_ga ?z5)
          case z5 =>
            refine @check_slot (model pg wd) _ _ ⟨hp, gs, dr, tk + 1, os⟩ "BaseException.__getattribute__" "BaseException" "__getattribute__" (.ref y) [.str "__class__" tk] [] _ (by decide +kernel) (by decide +kernel) sb (PySem.F.args_bexc_ga (.ref y) (.str "__class__" tk)) ?z6
            case z6 =>
              unfold Builtin.«object.__getattribute__»
              refine wpAny_bind (wpAny_of_eq (a := ((Value.ref y : Value), [Value.str "__class__" tk])) (by first | rfl | (simp only [slotArgs]; rfl)) (wpAny_bind (wpAny_pure (wpAny_bind (a0.at (wpAny_bind (a3.at ?z7)))))))
              case z7 =>
                show wpAny _ _ (holding [Value.builtin "object.__class__"] (call (.builtin "getset_descriptor.__get__") [.builtin "object.__class__", .ref y, .ref D]) >>= ret) _ _ _
                refine wpAny_bind (wpAny_holding (wpAny_call (class_get (s := ⟨hp, gs, dr, tk + 1, os⟩) (ox := oy) (od := od) X I T.hm (wpAny_pure ?z8))))
                case z8 =>
                  show wpAny _ _ (handedOut (.ref D)) _ _ _
                  rw [handedOut_of (v := .ref D) rfl]
                  first | exact wpAny_pure (wpAny_pure h) | exact wpAny_pure h | exact wpAny_pure (wpAny_bind (wpAny_pure (wpAny_pure h)))
theorem kitx_exd (T : L2.ExcC F D) : KitX F (.ref y) (.ref D) (fun h => ∃ oy od, InstAt h y oy D od) where
  ty := fun _ _ _ ⟨_, _, I⟩ => I.type
  it := fun M h X _ A Q E s k q => by
    have z := clsSome T.hd
    unfold clsIn at z
    split at z
    · rename_i hk
      unfold isType loadHead
      exact wpAny_bind (wpAny_loadPart (k _ _ (X _ _ hk)) (wpAny_pure q))
    · cases z
  ne := fun h tp dd its n sl X htp => by
    cases e : (Value.ref D == Value.ref tp) with
    | false => rfl
    | true =>
      have e2 : D = tp := Value.ref.inj (beq_iff_eq.mp e)
      subst e2
      have z := clsSome T.hd
      unfold clsIn at z
      split at z
      · rename_i hk
        exact nomatch (X _ _ hk).symm.trans htp
      · cases z
  ca := fun X ⟨_, _, I⟩ q => class_of_exc T X I q
end
end VX
namespace VX
open PySem PySem.Spec PyProof.Rows L2
/-- isinstance(e, c) of such an exception -/
def rIsX (K : PySem.W.Frag) : List V → Hp → VK → Prop := fun xs H Q => ∃ (a D : Addr) (d : Option Addr) (c : V) (cv : Value) (b : Bool), xs = [.ref a, c] ∧ ExcC K D ∧ H a = some (ExD (.ref D) d a) ∧ (∀ dd, d = some dd → ∃ o, H dd = some o) ∧ ClsV c cv ∧ PySem.W.kitOne K (.ref D) cv = some b ∧ Q (.bl b) H
theorem call_isX {X : Cx} : CallR X (.builtin "isinstance") (rIsX X.K) := by
  intro pins s σ H xs us Q I r h
  obtain ⟨a, D, d, c, cv, b, rfl, T, ha, hd, hc, e, q⟩ := h
  obtain ⟨u1, u2, rfl, r1, r2⟩ := vals2 r
  have e2 := hc.eq r2
  subst e2
  cases (show u1 = Value.ref a from r1)
  have ok : ObjOk X.prog X.w H s.heap a (.ext fun h => ∃ (oe : Obj) (vs : Array Value), h.get? a = some oe ∧ Zc (.ref D) d oe ∧ oe.data = .fields vs) := I.hok a _ ha
  obtain ⟨⟨oe, vs, ho, hz, hf⟩, _, _⟩ := ok
  have J : ∃ od, PySem.W.InstAt s.heap a oe D od := by
    have nc : PySem.W.notCls oe = true := by unfold PySem.W.notCls; rw [hf] <;> rfl
    cases d with
    | none => exact ⟨none, ho, hz.1, nc, by rw [hz.2]; trivial⟩
    | some dd =>
      obtain ⟨o, hdd⟩ := hd dd rfl
      obtain ⟨ob, hob⟩ := objOk_get (I.hok dd o hdd)
      exact ⟨some ob, ho, hz.1, nc, by rw [hz.2]; exact hob⟩
  obtain ⟨od, J⟩ := J
  exact PySem.W.kia_one (kitx_exd T) I.kIn ⟨oe, od, J⟩ e (fun z => nomatch z) fun tk => ⟨.bl b, H, I.tok tk, rfl, q⟩
end VX

set_option Elab.async false
set_option linter.all false
set_option maxRecDepth 100000
set_option maxHeartbeats 4000000
/-! C(f = v), C an exception's class with its own __init__ -/
namespace VX
open PySem PySem.Calls PySem.HandSPX
section
variable {M : Model} {pg : Program} {wd : World} {B : Around} {Er : Value → Shared → Prop} {R : Result → Shared → Prop} {hh : Heap} {gs : Array GenState} {dr : Drawn} {tk : Nat} {os : OsState}
variable {nm q : Str} {C N : Addr} {bs bm bB : List Value} {hd : Bool} {sn : List Str} {sub : List Value} {ab : Bool} {col : Option Bool} {dd : Option Addr} {m0 m1 m2 m3 m5 : Option Value} {T nid iid : String} {kw : List (Str × Value)}
theorem chkNewK (F : ExcBaseFacts T nid iid bB) (hT : ∀ Y : String, bm.contains (.type Y) = bB.contains (.type Y)) {Q : Unit → Shared → Prop} (hC : hh.get? C = some (excClassObj nm q C N bs bm hd sn sub ab col dd m0 m1 m2 m3 m5 nid)) (hq : Q () ⟨hh, gs, dr, tk, os⟩) :
    wpAny M B (checkBuiltinCall nid ⟨[.ref C], kw⟩) Q Er ⟨hh, gs, dr, tk, os⟩ := by
  have hc : (Value.ref C :: bm).contains (.type T) = true := by rw [List.contains_cons, hT, F.hasB, Bool.or_true]
  have hs := F.noStar
  simp only [checkBuiltinCall, F.newKind, F.newSplit, F.newRow]
  repeat (first | refine wpAny_loadPart_at hC ?_ | (refine wpAny_isSubtype_exc hC ?_; rw [hc]) | refine wpAny_staticBase_exc hC ?_ | refine wpAny_madeBy_exc hC ?_ | simp only [bne_self_eq_false, Bool.false_eq_true, if_false] | wp_step)
  exact hq
end
section
variable {pg : Program} {wd : World} {B : Around} {Er : Value → Shared → Prop} {R : Result → Shared → Prop} {hh : Heap} {gs : Array GenState} {dr : Drawn} {tk : Nat} {os : OsState}
variable {nm q : Str} {C N : Addr} {bs bm bB : List Value} {hd : Bool} {sn : List Str} {sub : List Value} {ab : Bool} {col : Option Bool} {dd : Option Addr} {m0 m1 m2 m3 m5 : Option Value} {T nid iid : String} {kw : List (Str × Value)}
/-- the heap behind C.__new__(C, f = v) -/
abbrev born (hh : Heap) (C : Addr) : Heap := (hh.push (W.kdv_tup [])).push (excO C hh.objs.size)
theorem newK (F : ExcBaseFacts T nid iid bB) (hT : ∀ Y : String, bm.contains (.type Y) = bB.contains (.type Y)) (hC : hh.get? C = some (excClassObj nm q C N bs bm hd sn sub ab col dd m0 m1 m2 m3 m5 nid))
    (hq : R (.ok (.ret (.ref (hh.objs.size + 1)))) ⟨born hh C, gs, dr, tk, os⟩) : codeAny (model pg wd) B (.builtin nid ⟨[.ref C], kw⟩) R ⟨hh, gs, dr, tk, os⟩ := by
  have he := F.ends
  have cB : (Value.ref C :: bm).contains (.type T) = true := by rw [List.contains_cons, hT, F.hasB, Bool.or_true]
  have cA : (Value.ref C :: bm).contains (.type "AttributeError") = false := by rw [List.contains_cons, hT, F.noAttr]; rfl
  have cN : (Value.ref C :: bm).contains (.type "NameError") = false := by rw [List.contains_cons, hT, F.noName]; rfl
  refine codeAny_builtinAt F.entry ?_
  unfold Builtin.«BaseException.__new__»
  refine wpAt_bind ?_
  show wpAt _ _ _ (stack >>= _) _ _ _
  refine wpAt_bind (wpAt_stack fun p below => wpAt_of_wpAny ?_)
  wp_walk
  refine wpAt_of_wpAny ?_
  rw [F.owner]
  repeat (first | with_reducible refine wpAny_madeHere_exc F.canon hC ?_ | with_reducible refine wpAny_loadPart_at hC ?_ | (with_reducible refine wpAny_isSubtype_exc hC ?_; first | rw [cB] | rw [cA] | rw [cN]) | wp_step)
  show R _ _
  rw [Heap.size_push]
  exact hq
theorem typeCallK (F : ExcBaseFacts T nid iid bB) (hT : ∀ Y : String, bm.contains (.type Y) = bB.contains (.type Y)) {fI : Addr} {Q : Fin → Shared → Prop} (hC : hh.get? C = some (excClassObj nm q C N bs bm hd sn sub ab col dd m0 m1 m2 m3 m5 nid))
    (hi : W.Looks (model pg wd) hh (typeLookup (.ref C) "__init__") (some (.ref fI))) (hb : ∀ o, W.Looks (model pg wd) hh (bindSpecial (.ref fI) o) (.ref fI, [o]))
    (hq : codeAny (model pg wd) B (.call (.ref fI) ⟨[.ref (hh.objs.size + 1)], kw⟩) (fun r s' => match r with | .ok (.ret v) => v = .none ∧ Q (.done (.ret (.ref (hh.objs.size + 1)))) s' | .ok _ => False | .error e => Er e s') ⟨born hh C, gs, dr, tk, os⟩) :
    wpAny (model pg wd) B (Builtin.«type.__call__» ⟨[.ref C], kw⟩) Q Er ⟨hh, gs, dr, tk, os⟩ := by
  repeat (first | with_reducible refine wpAny_loadPart_at hC ?_ | with_reducible refine wpAny_madeBy_exc hC ?_ | wp_step)
  refine codeAny_call_builtin_code (Code.quiet_builtin _ F.quiet) (chkNewK F hT hC (newK F hT hC ?_))
  show wpAny _ _ _ _ _ _
  have k : ∀ b o, hh.get? b = some o → (born hh C).get? b = some o := fun b o e => Heap.get?_push_of_some _ (Heap.get?_push_of_some _ e)
  have hC1 := k _ _ hC
  have hg : (born hh C).get? (hh.objs.size + 1) = some (excO C hh.objs.size) := by heap_get
  have cC : (Value.ref C :: bm).contains (.ref C) = true := by simp
  have i1 := hi.keeps k
  have b1 := (hb (.ref (hh.objs.size + 1))).keeps k
  unfold isInstance
  repeat (first | with_reducible refine wpAny_loadPart_at hg ?_ | (with_reducible refine wpAny_isSubtype_exc hC1 ?_; rw [cC]) | wp_step)
  show wpAny _ _ (typeLookup (.ref C) _) _ _ _
  refine i1.at ?_
  refine wpAny_holding (wpAny_bind (b1.at (wpAny_bind (wpAny_call (codeAny_mono hq fun r s' z => ?_)))))
  rcases r with e | (v | _ | _ | _) <;> first | exact z | exact z.elim | skip
  obtain ⟨rfl, z⟩ := z
  first
    | exact wpAny_pure (wpAny_pure z)
    | (wp_walk; exact z)
theorem callK (F : ExcBaseFacts T nid iid bB) (hT : ∀ Y : String, bm.contains (.type Y) = bB.contains (.type Y)) {fI : Addr} (hC : hh.get? C = some (excClassObj nm q C N bs bm hd sn sub ab col dd m0 m1 m2 m3 m5 nid))
    (hi : W.Looks (model pg wd) hh (typeLookup (.ref C) "__init__") (some (.ref fI))) (hb : ∀ o, W.Looks (model pg wd) hh (bindSpecial (.ref fI) o) (.ref fI, [o]))
    (hq : codeAny (model pg wd) (B.under (.builtin "type.__call__" ⟨[.ref C], kw⟩)) (.call (.ref fI) ⟨[.ref (hh.objs.size + 1)], kw⟩) (W.InitBack (hh.objs.size + 1) R) ⟨born hh C, gs, dr, tk, os⟩) :
    codeAny (model pg wd) B (.call (.ref C) ⟨[], kw⟩) R ⟨hh, gs, dr, tk, os⟩ := by
  have f1 := tc_lookup
  have f2 := tc_bind (.ref C)
  have tT : (⟨hh, gs, dr, tk, os⟩ : Shared).TypeIs (.ref C) "type" := ⟨_, hC, rfl⟩
  have ck : wpAny (model pg wd) B.in1 (checkBuiltinCall "type.__call__" ⟨[.ref C], kw⟩) (fun _ s => s = ⟨hh, gs, dr, tk, os⟩) (fun _ _ => False) ⟨hh, gs, dr, tk, os⟩ := by
    have f3 := tc_sub
    simp only [checkBuiltinCall, tc_kind, tc_split]
    repeat (any_goals (first | assumption | rfl | with_reducible refine wpAny_loadPart_at hC ?_ | with_reducible refine wpAny_onRaise ?_ | with_reducible refine wpAny_map ?_ | wp_step))
  refine codeAny_of_tree ?_
  show wpAny _ _ (callAny (.ref C) _) _ _ _
  repeat (any_goals (first | assumption | with_reducible refine wpAny_loadPart_at hC ?_ | wp_step))
  refine ⟨rfl, codeAny_call_builtin_at (Code.quiet_builtin _ (by decide +kernel)) entry_typeCall (wpAny_mono ck (fun _ s' e => ?_) fun _ _ z => False.elim z)⟩
  subst e
  refine typeCallK F hT hC hi hb (codeAny_mono hq fun r s' z => ?_)
  rcases r with e | (v | _ | _ | _) <;> exact z
end
end VX
namespace VX
open PySem PySem.Spec PyProof.Rows L2
/-- C(f = v), C's own __init__ keeping sp -/
def tMkK (C : Addr) (sp : Sp) (ta : TA) : L2.St → Hp → XK → Prop := fun σ H Q => ta σ H fun zs H1 => zs.length = 1 ∧ ∀ a, H1 a = none → sp (.ref a :: zs) (upd H1 a (exo a C none))
  (fun v H2 => v = .non ∧ ∃ (d : Addr) (fs : List (Str × V)), H2 a = some (exo a C (some d)) ∧ H2 d = some (exd d fs) ∧ H1 d = none ∧ Q (.ref C) (some d) (upd (del H2 a) d (.xd fs))) (fun _ _ _ => False)
theorem pmk_oexK {X : Cx} {CX : CXT} {x f : Str} {C fI : Addr} {k : Nat} {fd : FuncData} {sp : Sp} {p kpos pos : Pos} {e : Expr} {ta : TA} (T : OexC X.K C) (iC : PySem.W.findIn X.K (.ref C) "__init__" = some (some (.ref fI))) (tI : PySem.W.typeIn X.K (.ref fI) = some (.type "function"))
    (F1 : FnOk X.prog X.w X.K X.mg X.base CX k fI fd ["self", f] sp) (hr : Room (k + 1) X.A) (hb : ∀ (s : Shared) (u v : Value), X.K.In s.heap → BindsTo s fd ⟨[u], [(f, v)]⟩ [("self", u), (f, v)]) (hx : Passes CX X (fun _ _ _ => False)) (hg : Gl X x) (hm : X.mg x = some (.ref C))
    (ha : PK X [⟨some f, e, kpos⟩] ta) (hdb : (x == ("__debug__" : Str)) = false := by decide) (hpl : ((backTo pos (starEach [] X.env)).any (·.1) || (backToKw pos (keywordEach [⟨some f, e, kpos⟩] X.env)).any (·.1.isNone)) = false := by rfl)
    (hall : (backToKw pos (keywordEach [⟨some f, e, kpos⟩] X.env)).all (·.1.isSome) = true := by rfl) (hks : (backToKw pos (keywordEach [⟨some f, e, kpos⟩] X.env)).filterMap (·.1) = [f] := by rfl) :
    PMk X (.Call (.Name x p) [] [⟨some f, e, kpos⟩] pos) (tMkK C sp ta) := by
  intro pins s σ H Q I h
  obtain ⟨nm, q, N, bs, bm, sn, sub, ab, col, dd, k0, k1, k2, k3, k5, hC, hbm⟩ := T.cls
  refine wpAny_Call_Name_kw (ld_glob I hg hm ?_ hdb)
  refine PySem.W.callWith_KW0 (h₀ := X.base) I.ok.mod.kin T.kC hall ?_ hpl
  refine thn (ha.run pos pins s σ H _ I h) fun ws s1 ⟨zs, H1, I1, rz, l1, q1⟩ => ⟨I1.kIn, ?_⟩
  rw [hks]
  obtain ⟨z, rfl⟩ : ∃ z, zs = [z] := by
    cases zs with
    | nil => cases l1
    | cons z r =>
      cases r with
      | nil => exact ⟨z, rfl⟩
      | cons _ _ => cases l1
  obtain ⟨u, rfl, ru⟩ := vals1 rz
  show wpAny _ _ (call (.ref C) [] [(f, u)]) _ _ _
  obtain ⟨hp, g, dr, tk, os⟩ := s1
  have hsz : hp.objs.size ≤ hp.objs.size + 1 := Nat.le_succ _
  have hn : H1 (hp.objs.size + 1) = none := I1.hok.fresh hsz
  have hq := q1 (hp.objs.size + 1) hn
  have kk : ∀ b o, hp.get? b = some o → (born hp C).get? b = some o := fun b o e => Heap.get?_push_of_some _ (Heap.get?_push_of_some _ e)
  have hget : (born hp C).get? (hp.objs.size + 1) = some (PySem.HandSPX.excO C hp.objs.size) := by heap_get
  have I2 : L2.Inv X pins σ (upd H1 (hp.objs.size + 1) (exo (hp.objs.size + 1) C none)) ⟨born hp C, g, dr, tk, os⟩ :=
    I1.laid (t' := tk) (a := hp.objs.size + 1) (o := exo (hp.objs.size + 1) C none) (h' := born hp C) kk hsz (exo_ok hget)
  have r2 : Vals [V.ref (hp.objs.size + 1), z] [Value.ref (hp.objs.size + 1), u] := .cons rfl (.cons ru .nil)
  have e1 : Env0 X.prog X.w X.K X.mg X.base (X.A.under (.builtin "type.__call__" ⟨[.ref C], [(f, u)]⟩)) X.stack ⟨born hp C, g, dr, tk, os⟩ (upd H1 (hp.objs.size + 1) (exo (hp.objs.size + 1) C none)) := I2.env0.make C [] [(f, u)]
  refine wpAny_call (callK PySem.F.excBase_ValueError (fun Y => PySem.HandSPX.refsVE_contains Y bm hbm) (I1.kIn _ _ hC) (PySem.W.looks_findIn I1.kIn iC) (fun o => PySem.W.bind_fn I1.kIn o tI)
    (codeAny_mono (F1.run _ X.stack _ _ ⟨[Value.ref (hp.objs.size + 1)], [(f, u)]⟩ [Value.ref (hp.objs.size + 1), u] _ _ (fun _ _ _ => False) (hr.make C [] [(f, u)]) e1 (hb _ _ _ I2.kIn) r2 hq) fun r s' hq' => ?_))
  cases r with
  | error er => exact hx pins σ _ _ er s' I2 hq'
  | ok fl =>
    cases fl with
    | ret u =>
      obtain ⟨v, H2, os2, bare2, un2, hok2, rv, ev, d, fs, ea, ed, hd1, q2⟩ := hq'
      subst ev
      obtain ⟨h2, g2, d2, t2, os'⟩ := s'
      exact ⟨rv, mk_end (raises_own T.exC T.tyC) I1 hsz kk un2 hok2 os2 bare2 ea ed hd1 q2⟩
    | next => exact False.elim hq'
    | brk => exact False.elim hq'
    | cont => exact False.elim hq'
/-- C(), C an exception's class without an __init__ of its own -/
theorem pmk_own0 {X : Cx} {C : Addr} {bmB : List Value} {B newId initId : String} {x : Str} {p pos : Pos} (F : ExcBaseFacts B newId initId bmB) (q : PySem.W.excIn X.K C bmB newId = true) (gC : X.mg x = some (.ref C)) (kC : PySem.W.keepIn X.K (.ref C) = true) (r : Raises X (.ref C)) (hg : Gl X x)
    (hdb : (x == ("__debug__" : Str)) = false := by decide) : PMk X (.Call (.Name x p) [] [] pos) (fun _ H Q => Q (.ref C) none H) := by
  intro pins s σ H Q I h
  refine wpAny_Call_Name_kw (ld_glob I hg gC ?_ hdb)
  refine PySem.W.callWith_K0 I.kIn kC ?_
  show wpAny _ _ (call (.ref C) []) _ _ _
  obtain ⟨bm, N, nm, qn, bs, hdct, sn, sub, ab, col, dd, k0, k1, k2, k3, k5, mN, hC, hN, hni, T⟩ := exc_obj I.kIn q
  refine wpAny_call_exc_subT F T hC hN hni (fun h' e hm => ?_) (by show 0 ≤ sizeLine; omega)
  exact mk_of I hm r h (I.hok.gone hm.new)
end VX

set_option Elab.async false
set_option linter.all false
set_option maxRecDepth 100000
set_option maxHeartbeats 4000000
/-! defs that are called where no repr runs -/
namespace VX
open PySem PySem.Spec PyProof.Rows L2
/-- a def's promise, kept wherever no repr runs around the call -/
structure GFn (P : Program) (w : World) (K : PySem.W.Frag) (mg : Str → Option Value) (base : Heap) (k : Nat) (f : Addr) (fd : FuncData) (ps : List Str) (sp : Sp) : Prop where
  len : ∀ {vs H Q E}, sp vs H Q E → vs.length = ps.length
  go : ∀ {A : Around}, A.guards = some [] → Room k A → ∀ {outer : List Env} {s : Shared} {H : Hp}, Env0 P w K mg base A outer s H → ∀ {args : Args} {us : List Value} {vs : List V} {Q : VK} {E : XK}, BindsTo s fd args (ps.zip us) → Vals vs us → sp vs H Q E →
    codeAny (model P w) A (.call (.ref f) args) (CR CX0 outer P w H s Q E) s
section
variable {P : Program} {w : World} {K : PySem.W.Frag} {mg : Str → Option Value} {base : Heap} {x qual : Str} {pa : Arguments} {bd : List Stmt} {sc : Scope} {f : Addr} {fd : FuncData} {N ps : List Str} {k : Nat} {sp : Sp}
/-- the rule for such a def: the guards told -/
theorem GFn.of (F : FunD K x qual pa bd sc [] [] f fd) (S : FnScope N ps sc) (len : ∀ {vs H Q E}, sp vs H Q E → vs.length = ps.length)
    (body : ∀ (cdv : Value) (A : Around) (outer : List Env) (s : Shared) (H : Hp) (vs : List V) (Q : VK) (E : XK), A.guards = some [] → Room k (A.deeper (envOfC qual sc s.heap.objs.size f cdv)) → sp vs H Q E →
      ∃ t, PSs (cxOf CX0 P w K mg base N qual sc f cdv A outer s H E).nox bd t ∧ t { nx := fun _ H' => Q .non H', rt := Q } (start N vs) H) : GFn P w K mg base (k + 1) f fd ps sp := by
  obtain ⟨oc, od, dV, kV, doc, pm, an, cdv, ct, osl, rfl, lk, hcd, _, _⟩ := F.ex
  refine ⟨len, fun {A} hg hr {outer s H} e0 {args us vs Q E} hb r q => ?_⟩
  have KX : K.In s.heap := e0.mod.kin.keeps fun b o e => (e0.bs b o e).1
  have nl : s.heap.NoLimit := e0.mod.nolimit.keeps fun b o e => (e0.bs b o e).1
  have kinds : ∀ y ∈ ps.zip us, sc.names.lookup y.1 = some .local ∨ (sc.names.lookup y.1 = some .cell ∧ ((cellsFrom (s.heap.objs.size + 1) sc.names []).lookup y.1).isSome = true) := by
    rintro ⟨n, v⟩ hy
    have hn := S.par n (List.of_mem_zip hy).1
    exact hn.elim .inl fun z => .inr ⟨z, PySem.W.cellsFrom_some _ _ _ (.inl z)⟩
  refine codeAny_call_function hr.depth (KX _ _ lk) rfl S.co S.gen rfl (PySem.W.codeRec_of KX hcd) (hb _ _ _ _ (wpAny_newFunctionEnv_cells S.kind kinds ?_))
  rintro env rfl s1 ic
  refine ⟨nl.keeps ic.toInCall.keep, codeAny_func ?_⟩
  obtain ⟨t, ht, tq⟩ := body cdv A outer s H vs Q E hg (hr.deeper _) q
  have I : L2.Inv (cxOf CX0 P w K mg base N qual sc f cdv A outer s H E) [] (start N vs) H s1 := inv_start S hr.hd e0 (len q) r ic
  have back : ∀ {σ' : L2.St} {H' : Hp} {s' : Shared} {v : V} {u : Value}, L2.Inv (cxOf CX0 P w K mg base N qual sc f cdv A outer s H E) [] σ' H' s' → RelV v u → Q v H' → CE outer P w H s Q u s' :=
    fun J rv z => ⟨_, _, J.os, J.bare, J.base, J.hok, rv, z⟩
  refine wpAny_mono (ht.nox.run [] s1 (start N vs) H _ I tq) (fun fl s' h => ?_) fun _ _ h => h
  cases fl with
  | next => obtain ⟨_, _, J, z⟩ := h; exact back (v := V.non) (u := Value.none) J rfl z
  | ret u => obtain ⟨_, _, _, J, rv, z⟩ := h; exact back J rv z
  | brk => obtain ⟨_, _, _, z⟩ := h; exact z.elim
  | cont => obtain ⟨_, _, _, z⟩ := h; exact z.elim
end
section
variable {X : Cx} {k : Nat} {f : Addr} {fd : FuncData} {ps : List Str} {sp : Sp} {x : Str} {p pos : Pos} {e : Expr} {es : List Expr} {t : TA}
/-- f(e, ..) of such a def, where no repr runs -/
theorem pe_gcall (F : GFn X.prog X.w X.K X.mg X.base k f fd ps sp) (hg0 : X.A.guards = some []) (hr : Room k X.A) (hg : Gl X x) (hm : X.mg x = some (.ref f)) (hk : PySem.W.keepIn X.K (.ref f) = true) (hb : Binds X.K fd ps []) (ha : PA X (e :: es) t)
    (hdb : (x == ("__debug__" : Str)) = false := by decide) (he : starEach (e :: es) X.env = (false, eval e X.env) :: starEach es X.env := by rfl) (hpl : (backTo pos (starEach es X.env)).any (·.1) = false := by rfl) :
    PE X (.Call (.Name x p) (e :: es) [] pos) (tCall sp [] E0 t) := by
  refine ⟨fun pins s σ H Q I h => wpAny_Call_Name_kw (ld_glob I hg hm ?_ hdb)⟩
  refine PySem.W.callWith_K (h₀ := X.base) I.ok.mod.kin hk (thn (ha.run pos pins s σ H _ I h) fun us s1 ⟨vs, H1, I1, r, q⟩ => ⟨I1.kIn, ?_⟩) he hpl
  have q : sp vs H1 Q E0 := by have z : sp (vs ++ []) H1 Q E0 := q; rw [List.append_nil] at z; exact z
  have hl : us.length = ps.length := by rw [← r.length]; exact F.len q
  have b := hb s1 us I1.kIn (by rw [List.append_nil]; exact hl)
  rw [List.append_nil] at b
  refine wpAny_call (codeAny_mono (F.go hg0 hr I1.env0 b r q) fun r s' hq => ?_)
  match r, hq with
  | .ok (.ret u), hq => exact I1.after hq
  | .error _, hq => exact hq.elim
end
/-- the call's base: the heap without the script -/
theorem base_of {P : Program} {w : World} {K : PySem.W.Frag} {mg mb : Str → Option Value} {s : Shared} {H : Hp} {a : Addr} {vs : Array Value} (KX : K.In s.heap) (g1 : s.heap.Ns mainGlobals mg) (g2 : s.heap.Ns builtinsNs mb) (g3 : ∀ x : Str, x ≠ "__name__" → mb x = bootBuiltins x)
    (g4 : s.heap.NoLimit) (g5 : s.gens = #[]) (ha : s.heap.get? a = some { cls := .type "list", data := .seq vs }) (ok : HOk P w H s.heap) (only : ∀ b, b ≠ a → H b = none) (hK : H a ≠ none → K.lookup a = none) : Env0 P w K mg (hidT s.heap H) callerA [] s H := by
  have dk : ∀ {b : Addr} {o : Obj} {es : Array DictEntry} {ep : Nat}, s.heap.get? b = some o → o.data = .dict es ep → H b = none := by
    intro b o es ep e d
    by_cases hb : b = a
    · rw [hb, ha] at e
      rw [← Option.some.inj e] at d
      cases d
    · exact only b hb
  have ns : ∀ {b : Addr} {m : Str → Option Value}, s.heap.Ns b m → (hidT s.heap H).Ns b m := by
    rintro b m ⟨o, es, ep, e, d, r⟩
    exact ⟨o, es, ep, hidT_get e (dk e d), d, r⟩
  have kin : K.In (hidT s.heap H) := by
    intro b o e
    refine hidT_get (KX b o e) ?_
    by_cases hb : b = a
    · subst hb
      cases z : H b with
      | none => rfl
      | some u => rw [hK (by rw [z]; exact fun n => nomatch n)] at e; cases e
    · exact only b hb
  obtain ⟨mc, l1, l2⟩ := g4
  exact { frames := rfl, mod := { kin := kin, glob := ns g1, blt := ⟨mb, ns g2, g3⟩, nolimit := ⟨mc, ns l1, l2⟩ }, bs := fun b o e => of_hidT e, bsz := Nat.le_of_eq (hidT_size _ _), funs := trivial, frf := fun b hb => (nomatch hb), hok := ok, bare := .of_eq g5 }
/-- the law's own end, its def's promise kept where no repr runs -/
theorem walk_g {l : PySem.W.OpenLaw} {n k : Nat} {q : Program} {loose : List Str} {XP : (Str → Option Value) → Heap → Prop} {YP : World → Heap → Prop} {d : DefRec} {x : Str}
    (hn : l.most = some n) (hn2 : n ≤ sizeLine) (hdf : d.params.defaults = []) (hr : Room k callerA)
    (F : ∀ (w : World) (mg : Str → Option Value) (fa : Addr) (h : Heap), YP w h → h.Ns mainGlobals mg → mg d.name = some (.ref fa) →
      ∃ (K : PySem.W.Frag) (fd : FuncData) (sp : Sp), K.In h ∧ (∀ (s : Shared) (u : Value), BindsTo s fd ⟨[u], []⟩ [(x, u)]) ∧
        (∀ (H : Hp) (a : Addr) (ns : List Int), ns.length ≤ n → Only H → SqL K H a (ns.map V.int) → sp [.ref a] H (fun v _ => v = .bl true) fun _ _ _ => False) ∧
        ∀ base : Heap, K.In base → base.Ns mainGlobals mg → GFn l.prog w K mg base k fa fd [x] sp) :
    PySem.W.WalkO q loose XP YP l.row.toRowW d [] (fun f vs => PySem.call f vs) := by
  refine Att.attach_call hn hdf fun w s₀ s₁ mg mb fa o pm cd doc a vs ns G Y ho hd hcd hmg hobj hints hlen hg => ?_
  obtain ⟨K, fd, sp, KX, hb, hsp, hF⟩ := F w mg fa _ Y G.T.g hmg
  have rv := vals_ints hints
  have lv := hints.length
  have core : ∀ H : Hp, Only H → SqL K H a (ns.map V.int) → HOk l.prog w H s₁.heap → (∀ b, b ≠ a → H b = none) → (H a ≠ none → K.lookup a = none) →
      codeAny (model l.prog w) callerA (.call (.ref fa) ⟨[.ref a], []⟩) (fun r s' => r = .ok (.ret (.bool true)) ∧ OldK s₁.heap s'.heap ∧ s'.os = s₁.os ∧ AllBare s'.gens) s₁ := by
    intro H oH sH ok on hK
    have e0 := base_of (P := l.prog) (w := w) (mg := mg) KX G.T.g G.T.b G.T.builtins G.T.nolimit hg hobj ok on hK
    refine codeAny_mono ((hF _ e0.mod.kin e0.mod.glob).go (A := callerA) rfl hr e0 (us := [.ref a]) (vs := [V.ref a]) (hb s₁ (.ref a)) (.cons rfl .nil) (hsp H a ns hlen oH sH)) fun r s' h => ?_
    match r, h with
    | .error _, h => exact h.elim
    | .ok (.ret u), h =>
      obtain ⟨v, H', os, bare, un, ok', rr, rfl⟩ := h
      refine ⟨congrArg (fun u => Except.ok (Flow.ret u)) rr, OldK.of_keep fun b o e => ?_, os, bare⟩
      rcases oH b with z | ⟨ob, xs, z⟩
      · exact un.keep b o e z (fun m => nomatch m) (by simp)
      · have f1 := (ok b _ z).1
        have f2 := (ok' b _ (un.frzs b ob _ z)).1
        rw [e] at f1
        rw [f2, ← Option.some.inj f1]
  cases hk : K.lookup a with
  | some o1 =>
    have e := KX a o1 hk
    rw [hobj] at e
    cases e
    refine core (fun _ => none) (fun _ => .inl rfl) (.inr ⟨_, vs.toArray, _, hk, rfl, rfl, rfl, ?_, by simpa using rv⟩) (fun b u z => nomatch z) (fun b _ => rfl) fun z => absurd rfl z
    rw [List.size_toArray, lv]
    exact Nat.le_trans hlen hn2
  | none =>
    let fz : HO := .frz { cls := .type "list", data := .seq vs.toArray } (.lst (ns.map V.int))
    refine core (upd (fun _ => none) a fz) (fun b => ?_) (.inl (.inr ⟨_, upd_same⟩)) (fun b u z => ?_) (fun b hb => upd_ne hb) fun _ => hk
    · by_cases hb : b = a
      · exact .inr ⟨_, _, by rw [hb]; exact upd_same⟩
      · exact .inl (upd_ne hb)
    · by_cases hb : b = a
      · subst hb
        rw [upd_same] at z
        cases z
        exact ⟨hobj, by rw [List.length_map]; exact Nat.le_trans hlen hn2, vs, _, rv, hobj⟩
      · rw [upd_ne hb] at z
        cases z
end VX

set_option Elab.async false
set_option linter.all false
set_option maxRecDepth 100000
set_option maxHeartbeats 4000000
/-! # for i, c in enumerate(a text, start=k); x + y by an own __add__; replace in a def -/
namespace VX
open PySem PySem.Spec PyProof.Rows L2
/-! ### enumerate(text, start=k) -/
def IteS (x : Str) (k0 : Int) : It :=
  ⟨fun i _ => i < x.cps.size, fun i H v H' => ∃ T c, v = .ref T ∧ H T = none ∧ x.cps[i]? = some c ∧ H' = upd H T (.tup [.int (k0 + (i : Nat)), .str ⟨#[c]⟩]), fun i _ => x.cps.size = i⟩
structure EnS (x : Str) (t : Tok) (k0 : Int) (h : Heap) (e j : Addr) (i : Nat) : Prop where
  en : ∃ old, IsEnum h e j (k0 + (i : Int)) old
  hj : h.IsStrIter j (strIterType x) x t i
  ei : e ≠ j
theorem turn_enumS {P : Program} {w : World} {K : PySem.W.Frag} {elts : List Expr} {kk : Nat} {tpos : Pos} (x : Str) (t : Tok) (k0 : Int) (e it : Addr) :
    Turn P w K (.Tuple elts kk tpos) (IteS x k0) [e, it] e (fun i h => EnS x t k0 h e it i) where
  mem := by simp
  obj := fun i h st b hb => by
    obtain ⟨⟨old, he⟩, ⟨o, ho, _, hd⟩, _⟩ := st
    rcases (by simpa using hb : b = e ∨ b = it) with rfl | rfl
    · exact ⟨_, he, fun v q => nomatch q⟩
    · exact ⟨o, ho, fun v q => by rw [hd] at q; cases q⟩
  keep := fun i h h' st k => by
    obtain ⟨⟨old, he⟩, ⟨o, ho, r⟩, n1⟩ := st
    exact ⟨⟨old, k e (by simp) _ he⟩, ⟨o, k it (by simp) _ ho, r⟩, n1⟩
  item := by
    intro X hP hw hK hc i pins s σ H E I hf st hg
    subst hP hw hK
    obtain ⟨⟨old, he⟩, hit, n1⟩ := st
    have el : e < s.heap.objs.size := Heap.lt_size he
    have il : it < s.heap.objs.size := by obtain ⟨_, q, _⟩ := id hit; exact Heap.lt_size q
    refine wpAny_pyNext_enum_itemC (Draws.text (prog := X.prog) (w := X.w) (A := X.A.in1) (I.ok.hd hc) it x t) he hit hg n1 (by simp [n1]) fun y h' tk hy ho hst hT _ hk => ?_
    obtain ⟨c, u, hcx, rfl⟩ := hy
    refine ⟨_, rfl, wpAny_letOwnedTupleGo_enum (s := { s with heap := h', toks := tk + 1 }) ho fun h2 he2 sb => ?_⟩
    have hT2 : h2.get? s.heap.objs.size = some { cls := .type "tuple", data := .seq #[.int (k0 + (i : Int)) tk, .str ⟨#[c]⟩ u] } := (sb.2 _ (Nat.ne_of_gt el)).trans hT
    have new : ObjOk X.prog X.w (upd H s.heap.objs.size (.tup [.int (k0 + (i : Nat)), .str ⟨#[c]⟩])) h2 s.heap.objs.size (.tup [.int (k0 + (i : Nat)), .str ⟨#[c]⟩]) :=
      ⟨by show 2 ≤ sizeLine; decide, [.int (k0 + (i : Int)) tk, .str ⟨#[c]⟩ u], .cons ⟨_, rfl⟩ (.cons ⟨_, rfl⟩ .nil), ⟨_, hT2, rfl, _, rfl⟩⟩
    have I1 : Inv X pins σ (upd H s.heap.objs.size (.tup [.int (k0 + (i : Nat)), .str ⟨#[c]⟩])) { s with heap := h2, toks := tk + 1 } :=
      I.turnedNew (ch := [e, it]) (fun b ob hb q => (sb.2 b fun z => hb (by simp [z])).trans (hk b ob (fun z => hb (by simp [z])) (fun z => hb (by simp [z])) q)) hf (Nat.le_refl _) new
    refine ⟨.ref s.heap.objs.size, _, I1, rfl, ⟨_, c, rfl, I.hok.fresh (Nat.le_refl _), hcx, rfl⟩, ⟨⟨.str ⟨#[c]⟩ u, ?_⟩, ?_, n1⟩, fun b hb => ?_⟩
    · rw [show k0 + ((i + 1 : Nat) : Int) = k0 + (i : Int) + 1 by omega]
      exact he2
    · obtain ⟨o, ho', r⟩ := hst
      exact ⟨o, (sb.2 it (Ne.symm n1)).trans ho', r⟩
    · have lt : b < s.heap.objs.size := by
        rcases (by simpa using hb : b = e ∨ b = it) with rfl | rfl
        · exact el
        · exact il
      rw [upd_ne (Nat.ne_of_lt lt)]
      exact (hf b hb).1
  done := by
    intro X hP hw hK hc i pins s σ H E I hf st hg
    subst hP hw hK
    obtain ⟨⟨old, he⟩, hit, n1⟩ := st
    obtain ⟨f0, f1, f2, f3, f4, f5⟩ := hf it (by simp)
    have hg : x.cps.size = i := hg
    subst hg
    exact wpAny_pyNext_enum_endD (Draws.text (prog := X.prog) (w := X.w) (A := X.A.in1) (I.ok.hd hc) it x t) he hit fun h' eb => ⟨rfl, I.turned (t' := s.toks) (fun b o hb q => eb b o hb q) f0 f1 f3 f4 f5⟩
  self := fun A i s Q E st h => let ⟨_, he⟩ := st.en; wpAny_pyIter_enum he h
def iEnumS (ta : TA) (k0 : Int) : TI := fun σ H R => ta σ H fun vs H1 => ∃ x, vs = [.str x] ∧ R (IteS x k0) H1
theorem walk_enumS {x : Str} {k0 : Int} : Walk (IteS x k0) x.cps.size (fun _ => True) (YPair (fun i => some (.int (k0 + (i : Nat)))) (fun i => x.cps[i]?.map fun c => .str ⟨#[c]⟩)) := by
  refine ⟨fun i _ hi _ => hi, fun _ _ => rfl, fun i H v H' _ _ y => ?_⟩
  obtain ⟨T, c, k1, k2, k3, k4⟩ := y
  exact ⟨T, .int (k0 + (i : Nat)), .str ⟨#[c]⟩, k1, k2, k4, rfl, by show x.cps[i]?.map _ = _; rw [k3]; rfl⟩
theorem callWith_type_kw {M : Model} {A : Around} {E : Value → Shared → Prop} {s : Shared} {pos : Pos} {T : String} {args : List (Bool × Sem Value)} {kws : List (Option Str × Sem Value)} {Q : Value → Shared → Prop} (hplain : args.any (·.1) = false) (hkw : kws.any (·.1.isNone) = false)
    (h : wpAny M A (evalArgs (.type T) true args kws) (fun a s₁ => wpAny M A (call (.type T) a.pos a.kw) Q E s₁) E s) :
    wpAny M A (callWith pos (.type T) [] args kws) Q E s := by
  unfold callWith
  refine wpAny_bind (wpAny_holding (wpAny_mono h (fun a s₁ h₁ => wpAny_bind (wpAny_standAt ?_)) fun _ _ x => x))
  simp only [hplain, hkw, Bool.or_false]
  refine wpAny_bind (wpAny_pure ?_)
  exact wpAny_bind (wpAny_mono h₁ (fun r s₂ hr => wpAny_bind (wpAny_holding (wpAny_point (wpAny_pure hr)))) fun _ _ x => x)
theorem pi_enumS {X : Cx} {e : Expr} {ta : TA} {p pos tpos kp kp2 : Pos} {elts : List Expr} {kk jz : Nat} {k0 : Int} (hg : Gl X "enumerate") (hm : X.mg "enumerate" = none) (ha : PA X [e] ta) (h0 : -(2 ^ 63) ≤ k0 := by decide) (h1 : k0 < 2 ^ 63 := by decide)
    (st : starEach [e] X.env = (false, eval e X.env) :: starEach [] X.env := by rfl)
    (hall : (backToKw pos (keywordEach [⟨some "start", .Constant (.int k0) jz kp, kp2⟩] X.env)).all (·.1.isSome) = true := by rfl)
    (hkw : (backToKw pos (keywordEach [⟨some "start", .Constant (.int k0) jz kp, kp2⟩] X.env)).any (·.1.isNone) = false := by rfl)
    (hks : (backToKw pos (keywordEach [⟨some "start", .Constant (.int k0) jz kp, kp2⟩] X.env)).filterMap (·.1) = [("start" : Str)] := by rfl)
    (hpl : (backTo pos (starEach [e] X.env)).any (·.1) = false := by rfl)
    (hbt : backTo pos (starEach [e] X.env) = (false, eval e X.env) :: backTo pos (starEach [] X.env) := by rfl) :
    PI X (.Tuple elts kk tpos) (.Call (.Name "enumerate" p) [e] [⟨some "start", .Constant (.int k0) jz kp, kp2⟩] pos) (iEnumS ta k0) := by
  have hk : PK X [⟨some "start", .Constant (.int k0) jz kp, kp2⟩] (tCons (tC (.int k0)) tNil) := pk_cons pe_int pk_nil
  refine ⟨fun pins s σ H R I h => ?_⟩
  refine wpAny_Call_Name_kw (ld_blt I hg hm boot_enumerate ?_)
  refine callWith_type_kw hpl hkw ?_
  have run := ha.run pos pins s σ H _ I h
  rw [hbt] at run ⊢
  refine evalArgs_kwB hall (thn run fun us s1 ⟨vs, H1, I1, r1, x, ex, q1⟩ => ?_)
  subst ex
  obtain ⟨u, rfl, ru⟩ := vals1 r1
  obtain ⟨t, rfl⟩ := ru
  refine thn (hk.run pos pins s1 σ H1 (fun zs H2 => H2 = H1 ∧ zs = [.int k0]) I1 ⟨rfl, rfl⟩) fun ws s2 ⟨zs, H2, I2, rz, e1, e2⟩ => ?_
  subst e1 e2
  obtain ⟨u2, rfl, ru2⟩ := vals1 rz
  obtain ⟨t2, rfl⟩ := ru2
  rw [hks]
  show wpAny _ _ (call (.type "enumerate") [.str x t] [(Str.ofString "start", .int k0 t2)]) _ _ _
  refine enum_begins_start (begins_text x t) trivial h0 h1 fun h' he' ht _ hkk => wpAny_pyIter_enum he' ?_
  have I3 : Inv X pins σ H2 { s2 with heap := h' } := I2.kept (t' := s2.toks) hkk
  refine ⟨s2.heap.objs.size + 1, [s2.heap.objs.size + 1, s2.heap.objs.size], _, _, H2, rfl, I3, turn_enumS x t k0 (s2.heap.objs.size + 1) s2.heap.objs.size, ⟨⟨.none, ?_⟩, ⟨_, ht, rfl, rfl⟩, Nat.succ_ne_self _⟩, fun b hb => ?_, q1⟩
  · simpa using he'
  · have le : s2.heap.objs.size ≤ b := by
      rcases (by simpa using hb : b = s2.heap.objs.size + 1 ∨ b = s2.heap.objs.size) with z | z
      · rw [z]; exact Nat.le_add_right _ _
      · rw [z]; exact Nat.le_refl _
    exact I2.fpOk le (I2.hok.fresh le)
/-! ### x + y by an own __add__ -/
def rOwnB (C : Addr) (sp : Sp) (E : XK) : R2 := fun x y H Q => ∃ a b dx dy fs gs, x = .ref a ∧ y = .ref b ∧ H a = some (.ins C dx fs) ∧ H b = some (.ins C dy gs) ∧ sp [.ref a, .ref b] H Q E
theorem op_ownB {X : Cx} {CX : CXT} {C f : Addr} {n : Nat} {sp : Sp} {E : XK} {op : Operator} (F : FnR X.prog X.w X.K X.mg X.base CX n f sp) (hc : PySem.W.selfFirst X.K C = true)
    (hs : PySem.W.findIn X.K (.ref C) (PySem.dunder op.info.2) = some (some (.ref f))) (hf : PySem.W.isFn X.K (.ref f) = true) (hx : Passes CX X E) (hr : Room n X.A) : OpR X (binaryOp op) (rOwnB C sp E) := by
  intro pins s σ H x y v u Q I rx ry hq
  obtain ⟨a, b, dx, dy, fs, gs, rfl, rfl, ha, hb, h⟩ := hq
  cases rx
  cases ry
  obtain ⟨mA, J, _⟩ := ins_get I.hok ha
  obtain ⟨mB, J', _⟩ := ins_get I.hok hb
  obtain ⟨od, J, _⟩ := J.look
  obtain ⟨od', J', _⟩ := J'.look
  obtain ⟨m, hF⟩ := I.fr
  refine PySem.W.binop_K (op := op) hF I.ok.mod.kin J J'.type hc hs hf ?_
  have r2 : Vals [V.ref a, V.ref b] [Value.ref a, Value.ref b] := .cons rfl (.cons rfl .nil)
  refine wpAny_call (codeAny_mono (run_fnR F hr hx I r2 h) fun r s' z => ?_)
  cases r with
  | error e => exact z
  | ok fl =>
    cases fl with
    | ret w =>
      obtain ⟨v, H1, I1, rv, q⟩ := z
      show PySem.W.CmpBack _ w s'
      cases w with
      | notImplemented => cases v <;> first | (cases rv; done) | (obtain ⟨_, z⟩ := rv; cases z)
      | _ => exact ⟨v, H1, I1, rv, q⟩
    | next => exact z.elim
    | brk => exact z.elim
    | cont => exact z.elim
end VX

set_option Elab.async false
set_option linter.all false
set_option maxRecDepth 100000
set_option maxHeartbeats 4000000
/-! # a def whose body gives out a token; a Hook with one more Bool, classmethods -/
namespace VX
open PySem PySem.Spec PyProof.Rows L2 CwR
section
variable {P : Program} {w : World} {K : PySem.W.Frag} {mg : Str → Option Value} {base : Heap} {x qual : Str} {params : Arguments} {body : List Stmt} {scope : Scope} {dvs : List V} {kws : List (Str × V)} {f : Addr} {fd : FuncData}
theorem okT {CX : CXT} {N ps : List Str} {k : Nat} {sp : Sp} (F : FunD K x qual params body scope dvs kws f fd) (S : FnScope N ps scope) (hnc : ∀ y ∈ scope.names, y.2 ≠ .cell) (hps : 1 ≤ ps.length) (len : ∀ vs H Q E, sp vs H Q E → vs.length = ps.length)
    (hbody : ∀ (cdv : Value) (A : Around) (outer : List Env) (s : Shared) (H : Hp) (vs : List V) (Q : VK) (E : XK), Room k (A.deeper (envOfC qual scope s.heap.objs.size f cdv)) → sp vs H Q E →
      ∃ t, PSsT (cxOf CX P w K mg base N qual scope f cdv A outer s H E) body t ∧ t { nx := fun _ H' => Q .non H', rt := Q } (start N vs) H) : FnOk P w K mg base CX (k + 1) f fd ps sp := by
  obtain ⟨oc, od, dV, kV, doc, pm, an, cdv, ct, osl, rfl, lk, hcd, _, _⟩ := F.ex
  exact fn_ofT lk hcd S hnc hps len fun A outer s H vs Q E hr hsp => hbody cdv A outer s H vs Q E hr hsp
end
section
variable {X : Cx} {CX : CXT} {k : Nat} {f C : Addr} {fd : FuncData} {ps : List Str} {sp : Sp} {dvs : List V} {ds : List Value} {E : XK} {x m : Str} {p pos apos : Pos} {e o : Expr} {es : List Expr} {ta : TE} {t : TA} {te : TE}
theorem pet_call (F : FnOk X.prog X.w X.K X.mg X.base CX k f fd ps sp) (hr : Room k X.A) (hg : Gl X x) (hm : X.mg x = some (.ref f)) (hk : PySem.W.keepIn X.K (.ref f) = true) (hb : Binds X.K fd ps ds) (hd : Vals dvs ds) (hx : Passes CX X E)
    (ha : PAT X (e :: es) t) (hdb : (x == ("__debug__" : Str)) = false := by decide) (he : starEach (e :: es) X.env = (false, eval e X.env) :: starEach es X.env := by rfl) (hpl : (backTo pos (starEach es X.env)).any (·.1) = false := by rfl) :
    PET X (.Call (.Name x p) (e :: es) [] pos) (tCall sp dvs E t) := by
  intro pins s σ H Q h0 I h
  refine wpAny_Call_Name_kw (ld_glob I hg hm ?_ hdb)
  refine PySem.W.callWith_K (h₀ := X.base) I.ok.mod.kin hk (thn (ha pos pins s σ H _ h0 I h) fun us s1 ⟨vs, H1, I1, r, q⟩ => ⟨I1.kIn, ?_⟩) he hpl
  exact run_fn F hr hb hd hx I1 r q
theorem pst_asg {tg : Expr} {g : TG} (he : PET X e te) (hg : PG X tg g) (hs : swapsWithSole [tg] e pos.line X.env = pure false := by rfl) (hw : swappedStores [tg] e X.env = pure none := by rfl)
    (h1 : (assignEach [tg] X.env).map (·.2) = [assign tg X.env] := by rfl) : PST X (.Assign [tg] e pos) (tAsg te g) := by
  intro pins s σ H D h0 I h
  refine wpAny_Assign_stores (thn (he pins s σ H _ h0 I h) fun v s1 ⟨x, H1, I1, r1, q1⟩ => ?_) hs hw
  rw [h1]
  exact thn (hg.run pins s1 σ H1 x v _ I1 r1 q1) fun _ s2 q => q
end
/-! ### a Hook -/
open He5 in
def hookMA (n : Nat) (fa : List He.Fa) (fn : List DefA) (ex : PySem.W.Frag → Bool) : PySem.W.Hook where
  α := He.AlD × Bool
  obs := fun s => (obsA fa fn (He.frG s.heap.get? (asA s.heap.get? n)), ex (He.frG s.heap.get? (asA s.heap.get? n)))
  val := fun _ => (valA fn, true)
  says := fun _ h => ∃ K : PySem.W.Frag, K.In h ∧ SaysA fa fn K ∧ ex K = true
  of := fun _ _ e => ⟨_, He.frG_in, congrArg (fun z : He.AlD × Bool => z.1) e, congrArg (fun z : He.AlD × Bool => z.2) e⟩
  keeps := fun _ _ _ ⟨K, hK, c⟩ k => ⟨K, PySem.W.Frag.In.keeps hK k, c⟩
open He5 in
def obsMA (n : Nat) (fa : List He.Fa) (fn : List DefA) (ex : PySem.W.Frag → Bool) (g : Addr → Option Obj) : He.AlD × Bool := (fun K => (obsA fa fn K, ex K)) (He.frG g (asA g n))
theorem obsMA_eq {n : Nat} {fa : List He.Fa} {fn : List He5.DefA} {ex : PySem.W.Frag → Bool} {g : Addr → Option Obj} {s : Shared} (h : ∀ a, g a = s.heap.get? a) : obsMA n fa fn ex g = (hookMA n fa fn ex).obs s := by
  have e : g = s.heap.get? := funext h
  rw [e] <;> rfl
/-! ### an error's class, as Bools of the written part -/
def clsB (K : PySem.W.Frag) (C : Addr) : Bool := match K.lookup C with
  | some ⟨.type "type", _, .cls cd, sl⟩ => (match cd.mro, sl.toList with
    | .ref D :: bm, [_, _, _, _, some (.builtin n), _] => D == C && (n == "ValueError.__new__" && (!cd.hasDel && (cd.hasDict && PySem.HandSPX.refsVE bm)))
    | _, _ => false)
  | _ => false
theorem clsB_ok {K : PySem.W.Frag} {C : Addr} (h : clsB K C = true) : ∃ nm q N bs bm sn sub ab col dd k0 k1 k2 k3 k5, K.lookup C = some (excClassObj nm q C N bs bm true sn sub ab col dd k0 k1 k2 k3 k5 "ValueError.__new__") ∧ PySem.HandSPX.refsVE bm = true := by
  unfold clsB at h
  split at h
  · rename_i dd cd sl ho
    split at h
    · rename_i D bm k0 k1 k2 k3 n k5 hm hs
      simp only [Bool.and_eq_true, beq_iff_eq, Bool.not_eq_true'] at h
      obtain ⟨rfl, rfl, hdel, hdc, hv⟩ := h
      obtain ⟨nm, bs, mro, ns, qn, hd, sn, sub, ab, col, del⟩ := cd
      dsimp only at hm hdel hdc
      subst hm hdel hdc
      have hsl : sl = #[k0, k1, k2, k3, some (.builtin "ValueError.__new__"), k5] := by
        obtain ⟨l⟩ := sl
        simp only at hs
        rw [hs]
      subst hsl
      exact ⟨nm, qn, ns, bs, bm, sn, sub, ab, col, dd, k0, k1, k2, k3, k5, ho, hv⟩
    · cases h
  · cases h
/-- of every error's class -/
def exB (K : PySem.W.Frag) (C : Addr) : Bool := He.eqO (PySem.W.findIn K (.ref C) "__getattribute__") (some (some (.builtin "BaseException.__getattribute__"))) && (He.eqO (PySem.W.findIn K (.ref C) "__getattr__") (some none) && (decide (PySem.W.subIn K (.ref C) (.type "BaseException") = some true) && (PySem.W.hasDictIn K C &&
  (He.eqO (PySem.W.findIn K (.ref C) "__class__") (some (some (.builtin "object.__class__"))) && (He.eqO (PySem.W.specialIn K (.builtin "object.__class__") "__get__") (some (some (.builtin "getset_descriptor.__get__"))) && (decide (PySem.W.takesIn K (.builtin "object.__class__") = some true) && (decide (PySem.W.mroIn K C (.type "object") = some true) &&
  (decide (PySem.W.typeIn K (.ref C) = some (.type "type")) && PySem.W.keepIn K (.ref C)))))))))
structure ExF (K : PySem.W.Frag) (C : Addr) : Prop where
  xf : XfC K C
  xc : ExcC K C
  ty : PySem.W.typeIn K (.ref C) = some (.type "type")
  kp : PySem.W.keepIn K (.ref C) = true
theorem exB_ok {K : PySem.W.Frag} {C : Addr} (h : exB K C = true) : ExF K C := by
  obtain ⟨h1, h⟩ := He.ba h
  obtain ⟨h2, h⟩ := He.ba h
  obtain ⟨h3, h⟩ := He.ba h
  obtain ⟨h4, h⟩ := He.ba h
  obtain ⟨h5, h⟩ := He.ba h
  obtain ⟨h6, h⟩ := He.ba h
  obtain ⟨h7, h⟩ := He.ba h
  obtain ⟨h8, h⟩ := He.ba h
  obtain ⟨h9, h10⟩ := He.ba h
  have e3 := of_decide_eq_true h3
  exact ⟨⟨He.eqO_ok h1, He.eqO_ok h2, e3, h4⟩, ⟨He.eqO_ok h1, He.eqO_ok h2, e3, h4, He.eqO_ok h5, He.eqO_ok h6, of_decide_eq_true h7, of_decide_eq_true h8⟩, of_decide_eq_true h9, h10⟩
/-- of one with an __init__ of its own that stores the field f -/
def inB (K : PySem.W.Frag) (C : Addr) (f : Str) : Bool := clsB K C && (He.eqO (PySem.W.findIn K (.ref C) "__setattr__") (some (some (.builtin "object.__setattr__"))) && (He.eqO (PySem.W.findIn K (.ref C) f) (some none) &&
  (He.eqO (PySem.W.findIn K (.ref C) "__init__") (some (some (.ref (He.ma K C "__init__")))) && decide (PySem.W.typeIn K (.ref (He.ma K C "__init__")) = some (.type "function")))))
structure InF (K : PySem.W.Frag) (C : Addr) (f : Str) : Prop where
  oe : OexC K C
  no : PySem.W.findIn K (.ref C) f = some none
  ini : PySem.W.findIn K (.ref C) "__init__" = some (some (.ref (He.ma K C "__init__")))
  fn : PySem.W.typeIn K (.ref (He.ma K C "__init__")) = some (.type "function")
theorem inB_ok {K : PySem.W.Frag} {C : Addr} {f : Str} (x : ExF K C) (h : inB K C f = true) : InF K C f := by
  obtain ⟨h1, h⟩ := He.ba h
  obtain ⟨h2, h⟩ := He.ba h
  obtain ⟨h3, h⟩ := He.ba h
  obtain ⟨h4, h5⟩ := He.ba h
  exact ⟨⟨clsB_ok h1, He.eqO_ok h2, x.xf.exC, x.ty, x.kp⟩, He.eqO_ok h3, He.eqO_ok h4, of_decide_eq_true h5⟩
/-! ### short facts -/
theorem same_new {H : Hp} {a : Addr} {o : HO} (h : H a = none) : Same H (upd H a o) := fun c u e => by
  rw [upd_ne (ne_of_none e h)]
  exact e
theorem same_two {H : Hp} {a b : Addr} {o u : HO} (ha : H a = none) (hb : upd H a o b = none) : Same H (upd (upd H a o) b u) := fun c z e => by
  have k : upd H a o c = some z := by rw [upd_ne (ne_of_none e ha)]; exact e
  rw [upd_ne (ne_of_none k hb)]
  exact k
theorem none_of {H : Hp} {a b : Addr} {o : HO} (hb : upd H a o b = none) : H b = none := by
  by_cases e : b = a
  · rw [e, upd_same] at hb; cases hb
  · rwa [upd_ne e] at hb
def Kept (b : Addr) (H H' : Hp) : Prop := ∀ c o, H c = some o → c ≠ b → H' c = some o
theorem kept_box {H : Hp} {b : Addr} {o : HO} : Kept b H (upd H b o) := fun c u e n => by
  rw [upd_ne n]
  exact e
theorem Kept.of {H H' : Hp} {b : Addr} (k : Same H H') : Kept b H H' := fun c o e _ => k c o e
theorem Kept.trans {H H' H'' : Hp} {b : Addr} (k : Kept b H H') (q : Kept b H' H'') : Kept b H H'' := fun c o e n => q c o (k c o e n) n
theorem lt_line {n : Nat} (h : n ≤ 100000) : n < sizeLine := Nat.lt_of_le_of_lt h (by decide)
/-! ### an error's __init__ -/
def spIni (K : PySem.W.Frag) (C : Addr) (g : Str) : Sp := fun vs H Q _ => ∃ (a : Addr) (v : V), vs = [.ref a, v] ∧ H a = some (exo a C none) ∧ ∀ dx, H dx = none → dx ≠ a → Q .non (upd (upd H dx (exd dx [(g, v)])) a (exo a C (some dx)))
section
variable {P : Program} {w : World} {K : PySem.W.Frag} {mg : Str → Option Value} {base : Heap} {f : Addr} {fd : FuncData}
theorem ok_ini {x g qual : Str} {pa : Arguments} {bd : List Stmt} {sc : Scope} {C : Addr} {q1 q2 q3 q4 : Pos} (F : FunD K x qual pa bd sc [] [] f fd) (S : FnScope ["self", g] ["self", g] sc) (hb : bd = [.Assign [.Attribute (.Name "self" q1) g q2] (.Name g q3) q4]) (I : InF K C g)
    (hd : (g == ("__debug__" : Str)) = false) (hc : (g == ("__classdict__" : Str)) = false) : FnOk P w K mg base CX0 1 f fd ["self", g] (spIni K C g) := by
  subst hb
  refine F.ok S (fun vs H Q E h => ?_) (fun cdv A outer s H vs Q E hr h => ?_)
  · obtain ⟨a, v, rfl, _⟩ := h
    rfl
  · obtain ⟨a, v, rfl, ha, k⟩ := h
    refine ⟨_, PSs.nox (pss_one (ps_ost (pe_var (i := 0) rfl (vis_par S (x := "self") (.head _))) (pe_var (i := 1) rfl (vis_par S (.tail _ (.head _))) hd hc))), ?_⟩
    exact ⟨_, rfl, _, rfl, a, C, rfl, I.oe, I.no, .inl ⟨ha, k⟩⟩
/-- an error's __init__: its promise, its arguments by place -/
def IniOk (P : Program) (w : World) (K : PySem.W.Frag) (mg : Str → Option Value) (base : Heap) (x g : Str) : Prop := ∃ fd, FnOk P w K mg base CX0 1 (He.ma K (He.ga K x) "__init__") fd ["self", g] (spIni K (He.ga K x) g) ∧ Binds K fd ["self", g] []
end
/-! ### the draws' box -/
/-- the box, of which at most N numbers were mixed -/
def BoxK (H : Hp) (b : Addr) (N : Nat) : Prop := ∃ x y z : Int, H b = some (.lst [.int x, .int y, .int z]) ∧ 0 ≤ x ∧ 0 ≤ y ∧ y ≤ N ∧ 0 ≤ z ∧ z ≤ 100000000
theorem Kept.refl {b : Addr} {H : Hp} : Kept b H H := fun _ _ h _ => h
theorem BoxK.same {H H' : Hp} {b : Addr} {N : Nat} (s : Same H H') (h : BoxK H b N) : BoxK H' b N := by
  obtain ⟨x, y, z, hb, r⟩ := h
  exact ⟨x, y, z, s _ _ hb, r⟩
theorem BoxK.at {H : Hp} {b : Addr} {N : Nat} (h : BoxK H b N) : ∃ xs, H b = some (.lst xs) := let ⟨_, _, _, hb, _⟩ := h; ⟨_, hb⟩
theorem BoxK.mono {H : Hp} {b : Addr} {N M : Nat} (h : BoxK H b N) (l : N ≤ M) : BoxK H b M := by
  obtain ⟨x, y, z, hb, x0, y0, yN, r⟩ := h
  exact ⟨x, y, z, hb, x0, y0, by omega, r⟩
def spTake : Sp := fun vs H Q _ => ∃ (b : Addr) (m x y z : Int), vs = [.ref b, .int m] ∧ H b = some (.lst [.int x, .int y, .int z]) ∧ 0 ≤ x ∧ 0 ≤ y ∧ y ≤ 1000000 ∧ 0 ≤ z ∧ z ≤ 100000000 ∧ 0 < m ∧ m ≤ 1000000000 ∧
  ∀ d x' y', 0 ≤ d → d < m → 0 ≤ x' → x' ≤ x → y ≤ y' → y' ≤ y + 1 → Q (.int d) (upd H b (.lst [.int x', .int y', .int z]))
theorem take_use {H : Hp} {b : Addr} {N : Nat} {m : Int} {Q : VK} {E : XK} (h : BoxK H b N) (hN : N ≤ 900000) (m0 : 0 < m) (m1 : m ≤ 1000000000)
    (k : ∀ d H', 0 ≤ d → d < m → Kept b H H' → BoxK H' b (N + 1) → (∀ c, H c = none → H' c = none) → Q (.int d) H') : spTake [.ref b, .int m] H Q E := by
  obtain ⟨x, y, z, hb, x0, y0, yN, z0, z1⟩ := h
  refine ⟨b, m, x, y, z, rfl, hb, x0, y0, by omega, z0, z1, m0, m1, fun d x' y' d0 d1 x0' x1' y1 y2 => k d _ d0 d1 (fun c o q ne => by rw [upd_ne ne]; exact q) ⟨x', y', z, upd_same, x0', by omega, by omega, z0, z1⟩ fun c hc => ?_⟩
  rw [upd_ne (fun e => by rw [e, hb] at hc; cases hc)]
  exact hc
theorem pw_ok {i : Int} (h0 : 0 ≤ i) (h1 : i < 2 ^ 90) : CPw i 3 := by
  refine ⟨by decide, ?_⟩
  have h : Builtin.Int.intBits i ≤ 90 := intBits_le (by omega)
  have h2 : (Builtin.Int.intBits i : Int) ≤ 90 := by exact_mod_cast h
  omega
def spBox (K : PySem.W.Frag) : Sp := fun vs H Q _ => ∃ (l : Addr) (ns : List Int) (j : Nat), vs = [.ref l, .int j] ∧ SqL K H l (ns.map V.int) ∧ j ≤ 100 ∧ ∀ p H', H p = none → Same H H' → BoxK H' p 0 → Q (.ref p) H'
theorem atI_ex {xs : List V} {d : Int} (h0 : 0 ≤ d) (h1 : d < xs.length) : ∃ v, atI xs d = some v ∧ v ∈ xs := by
  have hl : d.toNat < xs.length := by omega
  refine ⟨xs[d.toNat], ?_, List.getElem_mem hl⟩
  have e : ((d.toNat : Nat) : Int) = d := Int.toNat_of_nonneg h0
  have q := atI_nat (xs := xs) (j := d.toNat) (List.getElem?_eq_getElem hl)
  rwa [e] at q
/-- the heap behind an error's making -/
theorem raise_heap {H : Hp} {a d C : Addr} {g : Str} {v : V} (ha : H a = none) (hd : d ≠ a) : upd (del (upd (upd (upd H a (exo a C none)) d (exd d [(g, v)])) a (exo a C (some d))) a) d (.xd [(g, v)]) = upd H d (.xd [(g, v)]) := by
  funext b
  by_cases hb : b = d
  · rw [hb, upd_same, upd_same]
  · rw [upd_ne hb, upd_ne hb]
    by_cases hba : b = a
    · rw [hba, del_same, ha]
    · rw [del_ne hba, upd_ne hba, upd_ne hb, upd_ne hba]
/-- what C(v) asks, C of one field -/
theorem make_read {K : PySem.W.Frag} {C : Addr} {g : Str} {v : V} {H : Hp} {X : XK} (k : ∀ d, H d = none → X (.ref C) (some d) (upd H d (.xd [(g, v)]))) (a : Addr) (ha : H a = none) :
    spIni K C g [.ref a, v] (upd H a (exo a C none)) (fun u H2 => u = .non ∧ ∃ (d : Addr) (fs : List (Str × V)), H2 a = some (exo a C (some d)) ∧ H2 d = some (exd d fs) ∧ H d = none ∧ X (.ref C) (some d) (upd (del H2 a) d (.xd fs))) (fun _ _ _ => False) := by
  refine ⟨a, v, rfl, upd_same, fun d hd ne => ⟨rfl, d, [(g, v)], upd_same, ?_, ?_, ?_⟩⟩
  · rw [upd_ne ne, upd_same]
  · rwa [upd_ne ne] at hd
  · rw [raise_heap ha ne]
    rw [upd_ne ne] at hd
    exact k d hd
end VX

set_option Elab.async false
set_option linter.all false
set_option maxRecDepth 100000
set_option maxHeartbeats 4000000
/-! several except clauses, each «as n», one name -/
namespace VX
open PySem PySem.Spec PyProof.Rows L2
/-- what the clauses wish of an exception of the body, from the first on; the name in slot i is empty behind a suite -/
def wNamed (K : PySem.W.Frag) (i : Nat) (Wout : WX) (D : Ends) : List (Value × (Addr → Value → Option Addr → TS)) → WX
  | [] => Wout
  | (c, ts) :: r => fun cls d σ H => ∃ b, PySem.W.exmOne K cls c = some b ∧ (b = true → ∀ a, H a = none →
      ts a cls d { nx := fun σ' H' => D.nx (σ'.set i none) H', rt := D.rt, bk := fun σ' H' => D.bk (σ'.set i none) H', ct := fun σ' H' => D.ct (σ'.set i none) H' } (σ.set i (some (.ref a))) H) ∧ (b = false → wNamed K i Wout D r cls d σ H)
inductive Clauses (X : Cx) (n : Str) : List ExceptHandler → List (Value × (Addr → Value → Option Addr → TS)) → Prop
  | nil : Clauses X n [] []
  | cons {x : Str} {c : Value} {ts : Addr → Value → Option Addr → TS} {b₀ : Stmt} {su : List Stmt} {p1 p2 : Pos} {hs : List ExceptHandler} {l : List (Value × (Addr → Value → Option Addr → TS))} (hc : Names X x c)
      (hsu : ∀ (a : Addr) (oe : Obj) (cls : Value) (d : Option Addr) (pn : List (Addr × Obj)), Zc cls d oe → (∃ vs, oe.data = .fields vs) → PSs (X.suite a ((a, oe) :: pn)) (b₀ :: su) (ts a cls d)) (r : Clauses X n hs l) :
      Clauses X n (.ExceptHandler (some (.Name x p1)) (some n) (b₀ :: su) p2 :: hs) ((c, ts) :: l)
theorem ps_try_named {X : Cx} {n : Str} {i : Nat} {body : List Stmt} {h₀ : ExceptHandler} {hds : List ExceptHandler} {l : List (Value × (Addr → Value → Option Addr → TS))} {pos : Pos} {tb : WX → TS} {Wout : WX}
    (hs : X.stack = X.env :: X.outer) (hf : X.env.frame = some X.env.locals) (hN : X.N.Nodup) (hi : X.N[i]? = some n) (hln : X.env.kindOf n = some .local) (tk : Takes X Wout)
    (hb : ∀ (W : WX) (pn : List (Addr × Obj)) (xe : Value → Shared → Prop), Takes (X.tr pn xe) W → PassesOwn (model X.prog X.w) X.A X.env xe → PSs (X.tr pn xe) body (tb W)) (hh : Clauses X n (h₀ :: hds) l) :
    PS X (.Try body (h₀ :: hds) [] [] pos) (fun D σ H => tb (wNamed X.K i Wout D l) D σ H) := by
  refine ⟨fun pins s σ H D I h => wpAny_Try_except ?_⟩
  have ok := I.ok
  have fr : X.A.frames = some (X.env :: X.outer) := by rw [ok.frames, hs]
  have lc : Loc X.env.scope n := .inl hln
  refine wpAny_mono ((hb (wNamed X.K i Wout D l) (X.pn ++ pins) (fun e t1 => wpAny (model X.prog X.w) X.A (noteFrame e X.env) (fun _ t2 => wpAny (model X.prog X.w) X.A (setFlight e none) (fun _ t3 =>
    wpAny (model X.prog X.w) X.A (handleBy e X.env (h₀ :: hds)) (SP X pins D) X.xe t3) X.xe t2) X.xe t1) (fun u s' xx => ?caught) PassesOwn.looking).run [] s σ H D (I.toTry _) h) (fun f s1 q => ?through) (fun _ _ z => z)
  case through =>
    cases f with
    | next => obtain ⟨σ', H', J, q⟩ := q; exact wpAny_execs_nil ⟨σ', H', J.ofTry ok, q⟩
    | brk => obtain ⟨σ', H', J, q⟩ := q; exact ⟨σ', H', J.ofTry ok, q⟩
    | cont => obtain ⟨σ', H', J, q⟩ := q; exact ⟨σ', H', J.ofTry ok, q⟩
    | ret u => obtain ⟨v, σ', H', J, r, q⟩ := q; exact ⟨v, σ', H', J.ofTry ok, r, q⟩
  case caught =>
    obtain ⟨a, B, sI, ps', σ', H', cls, d, rfl, J', nb, up, sky, na, os, ag, w⟩ := xx
    have J : L2.Inv X pins σ' H' sI := J'.ofTry ok
    have sk : Sky B (X.env :: X.outer) a (Zc cls d) X.env.locals s'.heap := by rw [← hs]; exact sky
    show wpAny (model X.prog X.w) X.A (noteFrame (.ref a) X.env) _ _ _
    refine Sky.land Zc.steady fr hf sk fun h3 fl3 up3 => ?_
    have J3 : L2.Inv X pins σ' H' { s' with heap := h3 } := J.landed nb fl3.1 (up.trans up3) os ag
    obtain ⟨oe, vs, he, hz, hd⟩ := fl3.there
    have nfr : a ∉ frs (X.env :: X.outer) := fun hm => by
      obtain ⟨_, o', e', hnf⟩ := fl3.2.2.1.mem hm
      rw [he] at e'
      cases e'
      exact hnf _ hd
    have nL : a ≠ X.env.locals := fun z => nfr (List.mem_filterMap.mpr ⟨X.env, .head _, by rw [hf, z]⟩)
    have nF : a ∉ X.fs := fun hm => by
      obtain ⟨e, m, q⟩ := List.mem_filterMap.mp hm
      exact nfr (List.mem_filterMap.mpr ⟨e, .tail _ m, q⟩)
    have S3 := J3.suite he hd na nL nF
    have go : ∀ {hs' : List ExceptHandler} {l' : List (Value × (Addr → Value → Option Addr → TS))}, Clauses X n hs' l' → wNamed X.K i Wout D l' cls d σ' H' → wpAny (model X.prog X.w) X.A (handleBy (.ref a) X.env hs') (SP X pins D) X.xe { s' with heap := h3 } := by
      intro hs' l' hk
      induction hk with
      | nil =>
        intro w
        refine wpAny_handleBy_nil ?_
        obtain ⟨_, _, _, oe1, vs1, T, oT, ts1, he1, hz1, hd1, h1, _⟩ := id fl3
        unfold PySem.passOn
        refine wpAny_bind (wpAny_field he1 hd1 h1 ?_)
        rw [if_neg (show ¬ ((Value.ref T == Value.none) = true) by simp)]
        have fin : wpAny (model X.prog X.w) X.A (setFlight (.ref a) X.env.frame) (fun _ s4 => wpAny (model X.prog X.w) X.A (throw (.ref a) : Sem Flow) (SP X pins D) X.xe s4) X.xe { s' with heap := h3 } := by
          rw [hf]
          exact HandSPX.setFlight_upZ fl3 fun h4 hh4 up4 => wpAny_throw (tk _ _ ⟨a, B, sI, pins, σ', H', cls, d, rfl, J, nb, (up.trans up3).trans up4, .inr (.inr (by rw [hs]; exact hh4)), na, os, ag, w⟩)
        first | exact wpAny_bind (wpAny_pure (wpAny_bind fin)) | exact wpAny_bind fin
      | @cons x c ts b₀ su p1 p2 hs2 l2 hc hsu r ih =>
        rintro ⟨b, hb1, hy, hno⟩
        refine wpAny_handleBy_cons (codeAny_handlers_test ?_) (by intro q; cases q)
        have ty : PySem.W.Looks (model X.prog X.w) h3 (typeOf (.ref a)) cls := fun A Q E t k q => wpAny_typeOf_ref (k _ _ he) (by rw [hz.1]; exact q)
        have lk := PySem.W.exm_one (M := model X.prog X.w) (J3.kIn) ty hb1
        have asked : ∀ {Q E : Value → Shared → Prop}, Q c { s' with heap := h3 } → wpAny (model X.prog X.w) (X.A.mark (some (.ref a))) (eval (.Name x p1) X.env) Q E { s' with heap := h3 } := by
          intro Q E q
          obtain ⟨hg, hdb, hm | ⟨hm, hv, hn⟩⟩ := hc
          · exact ld_glob (X := X.suite a ((a, oe) :: (X.pn ++ pins))) S3 hg hm q hdb
          · exact ld_blt (X := X.suite a ((a, oe) :: (X.pn ++ pins))) S3 hg hm hv q hn hdb
        refine asked (lk.here ?_)
        cases b with
        | false => exact ih (hno rfl)
        | true =>
          refine codeAny_handlers_suite_as (HandSPX.lands_againZ fl3 fun h4 fl4 up4 => ?_)
          have J4 : L2.Inv X pins σ' H' { s' with heap := h4 } := J.landed nb fl4.1 ((up.trans up3).trans up4) os ag
          obtain ⟨oe4, vs4, he4, hz4, hd4⟩ := fl4.there
          refine store_ok (X := X.suite a ((a, oe4) :: (X.pn ++ pins))) (v := .ref a) (J4.suite he4 hd4 na nL nF) hN hi lc rfl (fun s5 S5 => ?_) (.inr hln)
          refine wpAny_mono ((hsu a oe4 cls d (X.pn ++ pins) hz4 ⟨_, hd4⟩).run [] s5 _ H' _ S5 (hy rfl a na)) (fun f s6 q => ?_) (fun _ _ z => False.elim z)
          have over : ∀ {σ6 : L2.St} {H6 : Hp} {Q : Shared → Prop}, L2.Inv (X.suite a ((a, oe4) :: (X.pn ++ pins))) [] σ6 H6 s6 → (∀ s7, L2.Inv X pins (σ6.set i none) H6 s7 → Q s7) →
              wpAny (model X.prog X.w) X.A (do bindName X.env n .none; unbindBehindTheSuite X.env n p2) (fun _ s7 => Q s7) X.xe s6 := fun S6 hq => gone_ok (S6.unsuite ok) hN hi hln hq
          cases f with
          | next => obtain ⟨σ6, H6, S6, q6⟩ := q; exact over S6 fun s7 J7 => ⟨_, _, J7, q6⟩
          | brk => obtain ⟨σ6, H6, S6, q6⟩ := q; exact over S6 fun s7 J7 => ⟨_, _, J7, q6⟩
          | cont => obtain ⟨σ6, H6, S6, q6⟩ := q; exact over S6 fun s7 J7 => ⟨_, _, J7, q6⟩
          | ret u => obtain ⟨v6, σ6, H6, S6, r6, q6⟩ := q; exact over S6 fun s7 J7 => ⟨_, _, _, J7, r6, q6⟩
    exact go hh w
end VX

set_option Elab.async false
set_option linter.all false
set_option maxRecDepth 100000
set_option maxHeartbeats 4000000
/-! # facts of a module's top, as Bools of the written part -/
namespace VY
open PySem PySem.Spec PyProof.Rows L2 VX
/-- a property's getter -/
def pG (K : PySem.W.Frag) (C : Addr) (m : Str) : Addr := match PySem.W.recIn K (He.ma K C m) "property" with
  | some (.ref g :: _) => g
  | _ => 0
def propB (K : PySem.W.Frag) (C : Addr) (m : Str) : Bool := He.eqO (PySem.W.findIn K (.ref C) m) (some (some (.ref (He.ma K C m)))) && (He.eqO (PySem.W.specialIn K (.ref (He.ma K C m)) "__get__") (some (some (.builtin "property.__get__"))) && (decide (PySem.W.takesIn K (.ref (He.ma K C m)) = some true) &&
  (match PySem.W.recIn K (He.ma K C m) "property" with
    | some (.ref _ :: _) => true
    | _ => false)))
theorem propB_ok {K : PySem.W.Frag} {C : Addr} {m : Str} (h : propB K C m = true) : PropOf K C m (He.ma K C m) (pG K C m) := by
  obtain ⟨h1, h⟩ := He.ba h
  obtain ⟨h2, h⟩ := He.ba h
  obtain ⟨h3, h4⟩ := He.ba h
  refine ⟨He.eqO_ok h1, He.eqO_ok h2, of_decide_eq_true h3, ?_⟩
  unfold pG
  split at h4
  · rename_i g r e
    exact ⟨r, by rw [e]⟩
  · cases h4
/-- an empty tuple stands at a -/
def nilB (K : PySem.W.Frag) (a : Addr) : Bool := match K.lookup a with
  | some ⟨.type c, _, .seq its _, _⟩ => decide (c = "tuple") && decide (its.size = 0)
  | _ => false
theorem nilB_ok {K : PySem.W.Frag} {a : Addr} (h : nilB K a = true) (H : Hp) : SqT K H a [] := by
  unfold nilB at h
  cases q : K.lookup a with
  | none => rw [q] at h; cases h
  | some o =>
    obtain ⟨oc, od, dt, osl⟩ := o
    rw [q] at h
    cases oc with
    | type c =>
      cases dt with
      | seq its n =>
        obtain ⟨h1, h2⟩ := He.ba (show (decide (c = "tuple") && decide (its.size = 0)) = true from h)
        have e : its = #[] := Array.eq_empty_of_size_eq_zero (of_decide_eq_true h2)
        subst e
        exact .inr ⟨_, #[], n, q, congrArg Value.type (of_decide_eq_true h1), rfl, by simp, .nil⟩
      | _ => cases h
    | _ => cases dt <;> cases h
/-- a keyword-only default that is an object -/
def kwA (C m x : Str) (K : PySem.W.Frag) : Addr := match K.lookup (He.ma K (He.ga K C) m) with
  | some ⟨_, _, .func fd, _⟩ => (match fd.kwdefaults with
    | .ref D => (match PySem.W.nsIn K D x with
      | some (some (.ref a)) => a
      | _ => 0)
    | _ => 0)
  | _ => 0
def crB (K : PySem.W.Frag) (C : Addr) : Bool := PySem.W.readsIn K C (.type "type") && He.eqO (PySem.W.specialIn K (.ref C) "__getattribute__") (some (some (.builtin "type.__getattribute__")))
theorem crB_ok {K : PySem.W.Frag} {C : Addr} (h : crB K C = true) : ClX.CRead K C (.type "type") := by
  obtain ⟨h1, h2⟩ := He.ba h
  exact ⟨h1, He.eqO_ok h2⟩
def cmB (K : PySem.W.Frag) (C : Addr) (m : Str) : Bool := He5.wrapB K C "classmethod" "classmethod.__get__" m && PySem.W.fnIn K (He5.wf K C "classmethod" m)
theorem cmB_ok {K : PySem.W.Frag} {C : Addr} {m : Str} (h : cmB K C m = true) : ClX.CMet K C (.type "type") m (He.ma K C m) (He5.wf K C "classmethod" m) := by
  obtain ⟨h1, h2⟩ := He.ba h
  exact He5.cmet_of h1 h2
/-- an own operator's def -/
structure OpOf (K : PySem.W.Frag) (C : Addr) (m : Str) : Prop where
  find : PySem.W.findIn K (.ref C) m = some (some (.ref (He.ma K C m)))
  fn : PySem.W.isFn K (.ref (He.ma K C m)) = true
def opB (K : PySem.W.Frag) (C : Addr) (m : Str) : Bool := He.eqO (PySem.W.findIn K (.ref C) m) (some (some (.ref (He.ma K C m)))) && PySem.W.isFn K (.ref (He.ma K C m))
theorem opB_ok {K : PySem.W.Frag} {C : Addr} {m : Str} (h : opB K C m = true) : OpOf K C m := by
  obtain ⟨h1, h2⟩ := He.ba h
  exact ⟨He.eqO_ok h1, h2⟩
/-- what the class of an instance is -/
structure TyOf (K : PySem.W.Frag) (C : Addr) : Prop where
  c1 : PySem.W.findIn K (.ref C) "__class__" = some (some (.builtin "object.__class__"))
  c2 : PySem.W.specialIn K (.builtin "object.__class__") "__get__" = some (some (.builtin "getset_descriptor.__get__"))
  c3 : PySem.W.takesIn K (.builtin "object.__class__") = some true
  c4 : PySem.W.mroIn K C (.type "object") = some true
def tyB (K : PySem.W.Frag) (C : Addr) : Bool := He.eqO (PySem.W.findIn K (.ref C) "__class__") (some (some (.builtin "object.__class__"))) && (He.eqO (PySem.W.specialIn K (.builtin "object.__class__") "__get__") (some (some (.builtin "getset_descriptor.__get__"))) &&
  (decide (PySem.W.takesIn K (.builtin "object.__class__") = some true) && decide (PySem.W.mroIn K C (.type "object") = some true)))
theorem tyB_ok {K : PySem.W.Frag} {C : Addr} (h : tyB K C = true) : TyOf K C := by
  obtain ⟨a1, e⟩ := He.ba h
  obtain ⟨a2, e⟩ := He.ba e
  obtain ⟨a3, a4⟩ := He.ba e
  exact ⟨He.eqO_ok a1, He.eqO_ok a2, of_decide_eq_true a3, of_decide_eq_true a4⟩
structure ExcOf (K : PySem.W.Frag) (C : Addr) : Prop where
  x : PySem.W.excIn K C He.veBase "ValueError.__new__" = true
  k : PySem.W.keepIn K (.ref C) = true
  b : PySem.W.subIn K (.ref C) (.type "BaseException") = some true
  t : PySem.W.typeIn K (.ref C) = some (.type "type")
end VY

set_option Elab.async false
set_option linter.all false
set_option maxRecDepth 100000
set_option maxHeartbeats 4000000
/-! # a written dict with text keys; a Hook with such tables -/
namespace VY
open PySem PySem.Spec PyProof.Rows L2 VX
/-- at a: a written dict with these entries in this order -/
structure WDict (K : PySem.W.Frag) (w : World) (a : Addr) (kvs : List (Str × V)) : Prop where
  ex : ∃ es n, K.lookup a = some ⟨.type "dict", none, .dict es n, #[]⟩ ∧ Paired (fun (e : DictEntry) (q : Str × V) => (∃ t, e.key = .str q.1 t) ∧ e.hash = PyData.keyHash w.params q.1 ∧ RelV q.2 e.val) es.toList kvs
  low : (a == sysModules) = false
  nd : (kvs.map (·.1)).Nodup
  len : kvs.length ≤ sizeLine
def kvK (kvs : List (Str × V)) : List (Key × V) := kvs.map fun q => (Sum.inr q.1, q.2)
theorem WDict.pairs {P : Program} {w : World} : ∀ {es : List DictEntry} {kvs : List (Str × V)}, Paired (fun (e : DictEntry) (q : Str × V) => (∃ t, e.key = .str q.1 t) ∧ e.hash = PyData.keyHash w.params q.1 ∧ RelV q.2 e.val) es kvs →
    Pairs (mixKind P w) es ((es.zip kvs).map fun z => (Sum.inr z.2.1, z.1.val)) ∧ KV (kvK kvs) ((es.zip kvs).map fun z => ((Sum.inr z.2.1 : Key), z.1.val)) ∧ (∀ e ∈ es, ∃ k, (mixKind P w).is k e.key = true ∧ e.hash = (mixKind P w).hash k) ∧ ((es.zip kvs).map fun z => ((Sum.inr z.2.1 : Key), z.1.val)).map (·.1) = kvs.map fun q => (Sum.inr q.1 : Key)
  | _, _, .nil => ⟨Pairs.nil, Paired.nil, (fun e h => nomatch h), rfl⟩
  | e :: es, q :: kvs, .cons ⟨⟨t, hk⟩, hh, hv⟩ r => by
    obtain ⟨a, b, c, d⟩ := WDict.pairs (P := P) r
    have his : (mixKind P w).is (Sum.inr q.1) e.key = true := by rw [hk]; exact keyIs_str q.1 t
    refine ⟨.cons his rfl a, .cons ⟨rfl, hv⟩ b, fun x hx => ?_, ?_⟩
    · rcases List.mem_cons.mp hx with hx | hx
      · rw [hx]
        exact ⟨_, his, hh⟩
      · exact c x hx
    · simp only [List.zip_cons_cons, List.map_cons, d]
theorem WDict.dictOf {K : PySem.W.Frag} {w : World} {a : Addr} {kvs : List (Str × V)} {P : Program} {h : Heap} (D : WDict K w a kvs) (X : K.In h) : ∃ vs, KV (kvK kvs) vs ∧ h.DictOf (mixKind P w) a vs := by
  obtain ⟨es, n, hl, hp⟩ := D.ex
  obtain ⟨p1, p2, p3, p4⟩ := WDict.pairs (P := P) hp
  refine ⟨_, p2, _, es, n, X _ _ hl, ⟨rfl, rfl, rfl⟩, rfl, fun e he => p3 e (by simpa using he), p1, ?_⟩
  rw [p4]
  have : (kvs.map fun q => (Sum.inr q.1 : Key)) = (kvs.map (·.1)).map Sum.inr := by rw [List.map_map]; rfl
  rw [this]
  exact List.Pairwise.map _ (fun a b h e => h (Sum.inr.inj e)) D.nd
/-- dict(d) of a written dict -/
theorem call_dictW {X : Cx} (K : PySem.W.Frag) (w : World) (hK : X.K = K := by rfl) (hw : X.w = w := by rfl) : CallR X (.type "dict") (fun xs H Q => ∃ (a : Addr) (kvs : List (Str × V)), xs = [.ref a] ∧ WDict K w a kvs ∧ ∀ p, H p = none → Q (.ref p) (upd H p (.dK (kvK kvs)))) := by
  subst hK hw
  intro pins s σ H xs us Q I r q
  obtain ⟨a, kvs, ex, hd, q⟩ := q
  subst ex
  obtain ⟨u, eu, rx⟩ := vals1 r
  subst eu
  cases rx
  obtain ⟨vs, rel, dd⟩ := hd.dictOf (P := X.prog) I.kIn
  have hz : (kvK kvs).length ≤ sizeLine := by unfold kvK; rw [List.length_map]; exact hd.len
  refine kt_call_dict hd.low dd (by rw [← rel.length]; exact hz) fun h' d' hs => ?_
  have hm : (s.heap.objs.size == sysModules) = false := beq_eq_false_iff_ne.mpr (Nat.ne_of_gt I.big)
  exact ⟨.ref s.heap.objs.size, upd H s.heap.objs.size (.dK (kvK kvs)), I.laid (t' := s.toks) (fun b u e => (hs.2 b (Nat.ne_of_lt (Heap.lt_size e))).trans (Heap.get?_push_of_some _ e)) (Nat.le_refl _)
    (show ObjOk X.prog X.w _ _ _ (.dK (kvK kvs)) from ⟨hz, hm, vs, rel, d'⟩), rfl, q _ (I.hok.fresh (Nat.le_refl _))⟩
/-- d[k] of a written dict -/
theorem op_itemW {X : Cx} (K : PySem.W.Frag) (w : World) (hK : X.K = K := by rfl) (hw : X.w = w := by rfl) : OpR X getItem (fun x y H Q => ∃ (a : Addr) (kvs : List (Str × V)) (z : Str) (v0 : V), x = .ref a ∧ y = .str z ∧ WDict K w a kvs ∧ (z, v0) ∈ kvs ∧ Q v0 H) := by
  subst hK hw
  intro pins s σ H x y v u Q I rx ry h
  obtain ⟨a, kvs, z, v0, rfl, rfl, D, hm, q⟩ := h
  cases rx
  obtain ⟨t, rfl⟩ := ry
  obtain ⟨es, n, hl, hp⟩ := D.ex
  have lit : ∀ {es : List DictEntry} {kvs : List (Str × V)}, Paired (fun (e : DictEntry) (q : Str × V) => (∃ t, e.key = .str q.1 t) ∧ e.hash = PyData.keyHash X.w.params q.1 ∧ RelV q.2 e.val) es kvs → PySem.W.KeysLit X.w.params es := by
    intro es kvs h
    induction h with
    | nil => trivial
    | cons h _ ih =>
      obtain ⟨⟨t, h1⟩, h2, _⟩ := h
      exact ⟨⟨_, t, h1, h2⟩, ih⟩
  have fnd : ∀ {es : List DictEntry} {kvs : List (Str × V)}, Paired (fun (e : DictEntry) (q : Str × V) => (∃ t, e.key = .str q.1 t) ∧ e.hash = PyData.keyHash X.w.params q.1 ∧ RelV q.2 e.val) es kvs → (kvs.map (·.1)).Nodup → (z, v0) ∈ kvs →
      ∃ e, es.find? (fun d => Value.isStrOf z d.key) = some e ∧ RelV v0 e.val := by
    intro es kvs h
    induction h with
    | nil => intro _ h; cases h
    | @cons e q es kvs h hr ih =>
      intro nd hm
      obtain ⟨⟨t, h1⟩, h2, h3⟩ := h
      have eis : Value.isStrOf z e.key = decide (z = q.1) := by
        rw [h1]
        show (q.1 == z) = decide (z = q.1)
        rw [Bool.eq_iff_iff, beq_iff_eq, decide_eq_true_eq]
        exact eq_comm
      rw [List.find?_cons, eis]
      rw [List.map_cons, List.nodup_cons] at nd
      rcases List.mem_cons.mp hm with hm | hm
      · cases hm
        rw [decide_eq_true rfl]
        exact ⟨e, rfl, h3⟩
      · have ne : z ≠ q.1 := fun e => nd.1 (by rw [← e]; exact List.mem_map.mpr ⟨_, hm, rfl⟩)
        rw [decide_eq_false ne]
        exact ih nd.2 hm
  obtain ⟨e, he, hv⟩ := fnd hp D.nd hm
  refine wpAny_getItem_of (PySem.strKind_is X.prog X.w z t) (PySem.W.mapOf_K (prog := X.prog) I.kIn hl (lit hp)) (v := e.val) ?_ ⟨v0, H, I.tok _, hv, q⟩
  show findBy Value.isStrOf es z = some e.val
  obtain ⟨l⟩ := es
  unfold findBy
  rw [List.find?_toArray]
  rw [show l.find? (fun d => Value.isStrOf z d.key) = some e from he]
  rfl
/-- the i-th value of the dict x of the module, if it is an object -/
def dvalA (x : Str) (i : Nat) (K : PySem.W.Frag) : Addr := match K.lookup (He.ga K x) with
  | some ⟨_, _, .dict es _, _⟩ => (match es.toList[i]? with
    | some ⟨_, _, .ref a⟩ => a
    | _ => 0)
  | _ => 0
/-- a tuple of these stands at a -/
def tupAB (K : PySem.W.Frag) (a : Addr) (vs : List He.Dv) : Bool := match K.lookup a with
  | some ⟨.type c, _, .seq its _, _⟩ => decide (c = "tuple") && (decide (its.size ≤ sizeLine) && He.relAll (vs.map (He.Dv.v K)) its.toList)
  | _ => false
theorem tupAB_ok {K : PySem.W.Frag} {a : Addr} {vs : List He.Dv} (h : tupAB K a vs = true) (H : Hp) : SqT K H a (vs.map (He.Dv.v K)) := by
  unfold tupAB at h
  cases q : K.lookup a with
  | none =>
    rw [q] at h
    cases h
  | some o =>
    obtain ⟨oc, od, dt, osl⟩ := o
    rw [q] at h
    cases oc with
    | type c =>
      cases dt with
      | seq its n =>
        obtain ⟨h1, h2⟩ := He.ba (show (decide (c = "tuple") && (decide (its.size ≤ sizeLine) && He.relAll (vs.map (He.Dv.v K)) its.toList)) = true from h)
        obtain ⟨h3, h4⟩ := He.ba h2
        exact .inr ⟨_, its, n, q, congrArg Value.type (of_decide_eq_true h1), rfl, of_decide_eq_true h3, He.relAll_ok h4⟩
      | _ => cases h
    | _ => cases dt <;> cases h
/-! ### the Hook -/
abbrev Tab : Type := Str × List (Str × He.Dv)
def obsV (K : PySem.W.Frag) (a : Addr) (vs : List He.Dv) : Bool := match K.lookup a with
  | some ⟨_, _, .dict es _, _⟩ => He.relAll (vs.map (He.Dv.v K)) (es.toList.map (·.val))
  | _ => false
open He5 in
def hookMT (n : Nat) (fa : List He.Fa) (fn : List DefA) (ex : PySem.W.Frag → Bool) (ts : List Tab) : PySem.W.Hook where
  α := (He.AlD × Bool) × List (Option (List (Option (Str × Int))))
  obs := fun s => ((obsA fa fn (He.frG s.heap.get? (asA s.heap.get? n)), ex (He.frG s.heap.get? (asA s.heap.get? n))), ts.map fun t => He.dicW (He.frG s.heap.get? (asA s.heap.get? n)) (He.ga (He.frG s.heap.get? (asA s.heap.get? n)) t.1))
  val := fun w => ((valA fn, true), ts.map fun t => some (He.keysIn w.params (t.2.map (·.1))))
  says := fun w h => ∃ K : PySem.W.Frag, K.In h ∧ SaysA fa fn K ∧ ex K = true ∧ (ts.map fun t => He.dicW K (He.ga K t.1)) = ts.map fun t => some (He.keysIn w.params (t.2.map (·.1)))
  of := fun _ _ e => ⟨_, He.frG_in, congrArg (fun z : (He.AlD × Bool) × List (Option (List (Option (Str × Int)))) => z.1.1) e, congrArg (fun z : (He.AlD × Bool) × List (Option (List (Option (Str × Int)))) => z.1.2) e, congrArg (fun z : (He.AlD × Bool) × List (Option (List (Option (Str × Int)))) => z.2) e⟩
  keeps := fun _ _ _ ⟨K, hK, c⟩ k => ⟨K, PySem.W.Frag.In.keeps hK k, c⟩
open He5 in
def obsMT (n : Nat) (fa : List He.Fa) (fn : List DefA) (ex : PySem.W.Frag → Bool) (ts : List Tab) (g : Addr → Option Obj) : (He.AlD × Bool) × List (Option (List (Option (Str × Int)))) := (fun K => ((obsA fa fn K, ex K), ts.map fun t => He.dicW K (He.ga K t.1))) (He.frG g (asA g n))
theorem obsMT_eq {n : Nat} {fa : List He.Fa} {fn : List He5.DefA} {ex : PySem.W.Frag → Bool} {ts : List Tab} {g : Addr → Option Obj} {s : Shared} (h : ∀ a, g a = s.heap.get? a) : obsMT n fa fn ex ts g = (hookMT n fa fn ex ts).obs s := by
  have e : g = s.heap.get? := funext h
  rw [e] <;> rfl
theorem pair_of {P : Params} {K : PySem.W.Frag} : ∀ {es : List DictEntry} {kds : List (Str × He.Dv)}, es.map He.keyOf = He.keysIn P (kds.map (·.1)) → He.relAll ((kds.map (·.2)).map (He.Dv.v K)) (es.map (·.val)) = true →
    Paired (fun (e : DictEntry) (q : Str × V) => (∃ t, e.key = .str q.1 t) ∧ e.hash = PyData.keyHash P q.1 ∧ RelV q.2 e.val) es (kds.map fun q => (q.1, q.2.v K))
  | [], [], _, _ => .nil
  | [], _ :: _, h, _ => by cases h
  | e :: es, [], h, _ => by cases h
  | e :: es, q :: kds, h, hr => by
    have h1 : He.keyOf e :: es.map He.keyOf = some (q.1, PyData.keyHash P q.1) :: He.keysIn P (kds.map (·.1)) := h
    injection h1 with h2 h3
    have hr2 : Vals ((q.2.v K) :: ((kds.map (·.2)).map (He.Dv.v K))) (e.val :: es.map (·.val)) := He.relAll_ok hr
    cases hr2 with
    | cons r1 r2 =>
      refine .cons ⟨?_, ?_, r1⟩ (pair_of h3 ?_)
      · unfold He.keyOf at h2
        split at h2
        · rename_i x t hq
          obtain ⟨h5, h6⟩ := Prod.mk.inj (Option.some.inj h2)
          exact ⟨t, by rw [hq, h5]⟩
        · cases h2
      · unfold He.keyOf at h2
        split at h2
        · rename_i x t hq
          obtain ⟨h5, h6⟩ := Prod.mk.inj (Option.some.inj h2)
          exact h6
        · cases h2
      · have := hr
        simp only [List.map_cons, He.relAll, Bool.and_eq_true] at this
        exact this.2
theorem wdict_of {K : PySem.W.Frag} {w : World} {ts : List Tab} (c : (ts.map fun t => He.dicW K (He.ga K t.1)) = ts.map fun t => some (He.keysIn w.params (t.2.map (·.1)))) (t : Tab) (ht : t ∈ ts) (hv : obsV K (He.ga K t.1) (t.2.map (·.2)) = true) (hn : (t.2.map (·.1)).Nodup) (hl : t.2.length ≤ sizeLine) :
    WDict K w (He.ga K t.1) (t.2.map fun q => (q.1, q.2.v K)) := by
  have e : He.dicW K (He.ga K t.1) = some (He.keysIn w.params (t.2.map (·.1))) := by
    obtain ⟨i, hi, rfl⟩ := List.mem_iff_getElem.mp ht
    have q : (ts.map fun t => He.dicW K (He.ga K t.1))[i]? = (ts.map fun t => some (He.keysIn w.params (t.2.map (·.1))))[i]? := by rw [c]
    rw [List.getElem?_map, List.getElem?_map, List.getElem?_eq_getElem hi] at q
    exact Option.some.inj q
  have ee := e
  unfold He.dicW at e
  unfold obsV at hv
  cases q : K.lookup (He.ga K t.1) with
  | none => rw [q] at e; cases e
  | some o =>
    obtain ⟨oc, od, dt, osl⟩ := o
    rw [q] at e hv
    cases oc with
    | type c =>
      cases od with
      | none =>
        cases dt with
        | dict es n =>
          have h1 : (match decide (c = "dict") && (osl.isEmpty && !((He.ga K t.1) == sysModules)) with
            | true => some (es.toList.map He.keyOf)
            | false => none) = some (He.keysIn w.params (t.2.map (·.1))) := e
          cases z : decide (c = "dict") && (osl.isEmpty && !((He.ga K t.1) == sysModules)) with
          | false => rw [z] at h1; cases h1
          | true =>
            rw [z] at h1
            obtain ⟨z1, z2⟩ := He.ba z
            obtain ⟨z3, z4⟩ := He.ba z2
            have e1 : c = "dict" := of_decide_eq_true z1
            have e2 : osl = #[] := Array.isEmpty_iff.mp z3
            have e3 : ((He.ga K t.1) == sysModules) = false := by
              cases y : (He.ga K t.1) == sysModules with
              | false => rfl
              | true => rw [y] at z4; cases z4
            subst e1 e2
            exact ⟨⟨es, n, q, pair_of (Option.some.inj h1) hv⟩, e3, by rw [List.map_map]; exact hn, by rw [List.length_map]; exact hl⟩
        | _ => cases e
      | some b => cases dt <;> cases e
    | _ => cases od <;> cases dt <;> cases e
end VY

set_option Elab.async false
set_option linter.all false
set_option maxRecDepth 100000
set_option maxHeartbeats 4000000
/-! # law_k23_thirty_words: the defs of the text, what a walk knows of the module -/
namespace KT
open PySem PySem.Spec PyProof.Rows L2 VX
def top (i : Nat) : Stmt := PySem.Challenge.pw_handspaces_k23_thirty_words.main.body.getD i (.Pass ⟨0, 0, 0, 0⟩)
abbrev iFits : Nat := 13
abbrev iLeaves : Nat := 14
abbrev iRen : Nat := 15
abbrev iPText : Nat := 16
abbrev iCheck : Nat := 17
abbrev iSum : Nat := 18
abbrev iInter : Nat := 19
abbrev iPart : Nat := 20
abbrev iRW : Nat := 21
abbrev iWithin : Nat := 25
abbrev iSumM : Nat := 26
abbrev iComM : Nat := 27
abbrev iLetM : Nat := 28
abbrev iMark : Nat := 29
abbrev iMarks : Nat := 30
abbrev iPW : Nat := 31
abbrev iPlain : Nat := 32
abbrev iCell : Nat := 34
abbrev iBox : Nat := 35
abbrev iTake : Nat := 36
abbrev iTree : Nat := 37
abbrev iLWord : Nat := 38
abbrev iLMark : Nat := 39
abbrev iLWithin : Nat := 40
abbrev iTexts : Nat := 41
abbrev iOf : Nat := 42
abbrev iKey : Nat := 43
abbrev iLaw : Nat := 44
abbrev iWord : Nat := 22
abbrev s_Word_init : Stmt := inClass (top 22) 0
abbrev s_Word_read : Stmt := inClass (top 22) 1
abbrev s_Word_sign : Stmt := inClass (top 22) 2
abbrev s_Word_parts : Stmt := inClass (top 22) 3
abbrev s_Word_add : Stmt := inClass (top 22) 4
abbrev s_Word_and : Stmt := inClass (top 22) 5
abbrev s_Word_eq : Stmt := inClass (top 22) 6
abbrev s_Word_len : Stmt := inClass (top 22) 7
abbrev s_Word_text : Stmt := inClass (top 22) 8
abbrev s_Word_dual : Stmt := inClass (top 22) 10
abbrev s_BadSign_init : Stmt := inClass (top 3) 0
abbrev s_BadColumn_init : Stmt := inClass (top 4) 0
def defs : List (Str × Nat) := ([("fits", iFits), ("leaves", iLeaves), ("renamed", iRen), ("part_text", iPText), ("check_text", iCheck), ("read_sum", iSum), ("read_intersection", iInter), ("read_part", iPart), ("read_word", iRW), ("is_within", iWithin), ("sum_mark", iSumM), ("common_mark", iComM), ("letter_mark", iLetM), ("mark", iMark), ("marks", iMarks), ("plain_words", iPW), ("plain", iPlain), ("_law_cell", iCell), ("_law_box", iBox), ("_law_take", iTake), ("_law_tree", iTree), ("_law_word", iLWord), ("_law_mark", iLMark), ("_law_within", iLWithin)] : List (Str × Nat)) ++
  ([("_law_texts", iTexts), ("_law_of", iOf), ("_law_key", iKey), ("law", iLaw)] : List (Str × Nat))
def free : List Str := ["len", "int", "abs", "range", "tuple", "list", "isinstance", "bool", "all", "any", "sum", "enumerate", "zip", "dict", "str", "repr", "sorted", "max", "min", "ValueError", "TypeError", "set", "type", "reversed"]
abbrev FnP (K : PySem.W.Frag) (x : Str) (i : Nat) (f : Addr) (fd : FuncData) : Prop := FunD K x x (defArgs (top i)) (defBody (top i)) (defScope (top i)) [] [] f fd
structure Txt (K : PySem.W.Frag) (mg : Str → Option Value) : Prop where
  dfs : ∀ p ∈ defs, mg p.1 = some (.ref (He.ga K p.1))
  free : ∀ x ∈ free, mg x = none
  g_HANDS : mg "HANDS" = some (.ref (He.ga K "HANDS"))
  t_HANDS : ∀ H, SqT K H (He.ga K "HANDS") [.str "a", .str "b", .str "c"]
  s_PLANE : ∃ t, mg "PLANE" = some (.str "plane" t)
  g_KINDS : mg "KINDS" = some (.ref (He.ga K "KINDS"))
  t_KINDS : ∀ H, SqT K H (He.ga K "KINDS") [.str "", .str "a", .str "b", .str "c", .str "ab", .str "ac", .str "bc", .str "abc", .str "plane"]
  g_LEAVES : mg "LEAVES" = some (.ref (He.ga K "LEAVES"))
  t_LEAVES : ∀ H, SqT K H (He.ga K "LEAVES") [.str "a", .str "b", .str "c", .str "0", .str "1"]
  g_JOINTS : mg "JOINTS" = some (.ref (He.ga K "JOINTS"))
  t_JOINTS : ∀ H, SqT K H (He.ga K "JOINTS") [.str "+", .str "&"]
  n_MOST_OPEN : ∃ t, mg "MOST_OPEN" = some (.int 9 t)
  g_PLAIN_TEXTS : mg "PLAIN_TEXTS" = some (.ref (He.ga K "PLAIN_TEXTS"))
  t_PLAIN_TEXTS : ∀ H, SqT K H (He.ga K "PLAIN_TEXTS") [.str "0", .str "a & b & c", .str "a & b", .str "a & c", .str "b & c", .str "a & b + a & c", .str "a & b + b & c", .str "a & c + b & c", .str "a & b + a & c + b & c", .str "a & (b + c)", .str "b & (a + c)", .str "c & (a + b)", .str "a & (b + c) + b & c", .str "b & (a + c) + a & c", .str "c & (a + b) + a & b", .str "(a + b) & (a + c) & (b + c)", .str "a", .str "b", .str "c", .str "a + b & c", .str "b + a & c", .str "c + a & b", .str "(a + b) & (a + c)", .str "(a + b) & (b + c)", .str "(a + c) & (b + c)", .str "a + b", .str "a + c", .str "b + c", .str "a + b + c", .str "1"]
  g_DUALS : mg "DUALS" = some (.ref (He.ga K "DUALS"))
  g_Word : mg "Word" = some (.ref (He.ga K "Word"))
  c_Word : Cls K (He.ga K "Word")
  a_Word_sign : NoAttr K (He.ga K "Word") "_sign"
  a_Word_parts : NoAttr K (He.ga K "Word") "_parts"
  f_Word : PySem.W.selfFirst K (He.ga K "Word") = true
  ty_Word : VY.TyOf K (He.ga K "Word")
  r_Word : ClX.CRead K (He.ga K "Word") (.type "type")
  k_Word : Mk K (He.ga K "Word") (He.ma K (He.ga K "Word") "__init__")
  cm_Word_read : ClX.CMet K (He.ga K "Word") (.type "type") "read" (He.ma K (He.ga K "Word") "read") (He5.wf K (He.ga K "Word") "classmethod" "read")
  p_Word_sign : PropOf K (He.ga K "Word") "sign" (He.ma K (He.ga K "Word") "sign") (VY.pG K (He.ga K "Word") "sign")
  p_Word_parts : PropOf K (He.ga K "Word") "parts" (He.ma K (He.ga K "Word") "parts") (VY.pG K (He.ga K "Word") "parts")
  o_Word_add : VY.OpOf K (He.ga K "Word") "__add__"
  o_Word_and : VY.OpOf K (He.ga K "Word") "__and__"
  o_Word_eq : VY.OpOf K (He.ga K "Word") "__eq__"
  o_Word_len : VY.OpOf K (He.ga K "Word") "__len__"
  m_Word_text : Meth K (He.ga K "Word") "text" (He.ma K (He.ga K "Word") "text")
  m_Word_dual : Meth K (He.ga K "Word") "dual" (He.ma K (He.ga K "Word") "dual")
  g_BadSign : mg "BadSign" = some (.ref (He.ga K "BadSign"))
  xf_BadSign : ExF K (He.ga K "BadSign")
  if_BadSign : InF K (He.ga K "BadSign") "told"
  g_BadColumn : mg "BadColumn" = some (.ref (He.ga K "BadColumn"))
  xf_BadColumn : ExF K (He.ga K "BadColumn")
  if_BadColumn : InF K (He.ga K "BadColumn") "column"
  e_BadSign : PySem.W.exmOne K (.ref (He.ga K "BadSign")) (.ref (He.ga K "BadSign")) = some true
  e_BadColumn : PySem.W.exmOne K (.ref (He.ga K "BadColumn")) (.ref (He.ga K "BadColumn")) = some true
theorem Txt.fr {K : PySem.W.Frag} {mg : Str → Option Value} (T : Txt K mg) (x : Str) (h : x ∈ KT.free := by decide +kernel) : mg x = none := T.free x h
theorem Txt.df {K : PySem.W.Frag} {mg : Str → Option Value} (T : Txt K mg) (x : Str) (i : Nat) (h : (x, i) ∈ defs := by decide +kernel) : mg x = some (.ref (He.ga K x)) := T.dfs (x, i) h
structure Dfs (K : PySem.W.Frag) : Prop where
  d : ∀ p ∈ defs, ∃ fd, FnP K p.1 p.2 (He.ga K p.1) fd
  Word_init : (∃ fd, FunD K "__init__" "Word.__init__" (defArgs s_Word_init) (defBody s_Word_init) (defScope s_Word_init) [.ref (He.dflAt ("Word", some "__init__") 0 K)] [] (He.ma K (He.ga K "Word") "__init__") fd) ∧ (∀ H, SqT K H (He.dflAt ("Word", some "__init__") 0 K) [])
  Word_read : (∃ fd, FunD K "read" "Word.read" (defArgs s_Word_read) (defBody s_Word_read) (defScope s_Word_read) [] [] (He5.wf K (He.ga K "Word") "classmethod" "read") fd)
  Word_sign : (∃ fd, FunD K "sign" "Word.sign" (defArgs s_Word_sign) (defBody s_Word_sign) (defScope s_Word_sign) [] [] (VY.pG K (He.ga K "Word") "sign") fd)
  Word_parts : (∃ fd, FunD K "parts" "Word.parts" (defArgs s_Word_parts) (defBody s_Word_parts) (defScope s_Word_parts) [] [] (VY.pG K (He.ga K "Word") "parts") fd)
  Word_add : (∃ fd, FunD K "__add__" "Word.__add__" (defArgs s_Word_add) (defBody s_Word_add) (defScope s_Word_add) [] [] (He.ma K (He.ga K "Word") "__add__") fd)
  Word_and : (∃ fd, FunD K "__and__" "Word.__and__" (defArgs s_Word_and) (defBody s_Word_and) (defScope s_Word_and) [] [] (He.ma K (He.ga K "Word") "__and__") fd)
  Word_eq : (∃ fd, FunD K "__eq__" "Word.__eq__" (defArgs s_Word_eq) (defBody s_Word_eq) (defScope s_Word_eq) [] [] (He.ma K (He.ga K "Word") "__eq__") fd)
  Word_len : (∃ fd, FunD K "__len__" "Word.__len__" (defArgs s_Word_len) (defBody s_Word_len) (defScope s_Word_len) [] [] (He.ma K (He.ga K "Word") "__len__") fd)
  Word_text : (∃ fd, FunD K "text" "Word.text" (defArgs s_Word_text) (defBody s_Word_text) (defScope s_Word_text) [] [] (He.ma K (He.ga K "Word") "text") fd)
  Word_dual : (∃ fd, FunD K "dual" "Word.dual" (defArgs s_Word_dual) (defBody s_Word_dual) (defScope s_Word_dual) [] [] (He.ma K (He.ga K "Word") "dual") fd)
  BadSign_init : ∃ fd, FunD K "__init__" "BadSign.__init__" (defArgs s_BadSign_init) (defBody s_BadSign_init) (defScope s_BadSign_init) [] [] (He.ma K (He.ga K "BadSign") "__init__") fd
  BadColumn_init : ∃ fd, FunD K "__init__" "BadColumn.__init__" (defArgs s_BadColumn_init) (defBody s_BadColumn_init) (defScope s_BadColumn_init) [] [] (He.ma K (He.ga K "BadColumn") "__init__") fd
structure Tabs (K : PySem.W.Frag) (w : World) : Prop where
  d_DUALS : VY.WDict K w (He.ga K "DUALS") [("+", .str "&"), ("&", .str "+"), ("0", .str "1"), ("1", .str "0")]
theorem Dfs.def {K : PySem.W.Frag} (A : Dfs K) (x : Str) (i : Nat) (h : (x, i) ∈ defs := by decide +kernel) : ∃ fd, FnP K x i (He.ga K x) fd := A.d (x, i) h
end KT

set_option linter.all false
/-! # marks on a kind (no model): a kind is the list of its signs -/
namespace KW
def isW (x y : Nat) : Bool := x == y || (x == 48 || y == 49)
def sumM (x y : Nat) : Nat := if isW x y then y else if isW y x then x else 49
def comM (x y : Nat) : Nat := if isW x y then x else if isW y x then y else 48
def hand (c : Nat) : Bool := c == 97 || c == 98 || c == 99
def PL : List Nat := [112, 108, 97, 110, 101]
def letM (c : Nat) (k : List Nat) : Nat := if k = PL then c else if c ∈ k then 49 else 48
/-- the program's mark -/
def mk (k : List Nat) : Tr → Nat
  | .lf c => if hand c then letM c k else c
  | .nd c l r => if c = 43 then sumM (mk k l) (mk k r) else comM (mk k l) (mk k r)
def WF : Tr → Bool
  | .lf c => leafC c
  | .nd c l r => jointC c && WF l && WF r
def dep : Tr → Nat
  | .lf _ => 0
  | .nd _ l r => max (dep l) (dep r) + 1
/-- the law's mark of a plane -/
def lp : Tr → Nat
  | .lf c => c
  | .nd c l r => if lp l = lp r then lp l else
      if lp l = (if c = 43 then 48 else 49) ∨ lp r = (if c = 43 then 48 else 49) then (if lp l = (if c = 43 then 48 else 49) then lp r else lp l) else (if c = 43 then 49 else 48)
/-- the law's mark of a line -/
def li (k : List Nat) : Tr → Int
  | .lf c => if c = 49 ∨ (hand c = true ∧ c ∈ k) then 1 else 0
  | .nd c l r => if c = 43 then (if li k l + li k r > 0 then 1 else 0) else li k l * li k r
def five (c : Nat) : Bool := c == 48 || c == 49 || c == 97 || c == 98 || c == 99
theorem leaf_five {c : Nat} (h : leafC c = true) : five c = true := by
  simp only [leafC, five, Bool.or_eq_true, beq_iff_eq] at *
  omega
theorem sum_five : ∀ {x y : Nat}, five x = true → five y = true → five (sumM x y) = true := by
  intro x y hx hy
  unfold sumM
  split
  · exact hy
  · split
    · exact hx
    · rfl
theorem com_five : ∀ {x y : Nat}, five x = true → five y = true → five (comM x y) = true := by
  intro x y hx hy
  unfold comM
  split
  · exact hx
  · split
    · exact hy
    · rfl
theorem mk_five {k : List Nat} : ∀ {t : Tr}, WF t = true → five (mk k t) = true
  | .lf c, h => by
    simp only [mk]
    split
    · unfold letM
      split
      · exact leaf_five h
      · split <;> rfl
    · exact leaf_five h
  | .nd c l r, h => by
    simp only [WF, Bool.and_eq_true] at h
    simp only [mk]
    split
    · exact sum_five (mk_five h.1.2) (mk_five h.2)
    · exact com_five (mk_five h.1.2) (mk_five h.2)
theorem joint_two {c : Nat} (h : jointC c = true) : c = 43 ∨ c = 38 := by simpa [jointC] using h
theorem five_cases {c : Nat} (h : five c = true) : c = 48 ∨ c = 49 ∨ c = 97 ∨ c = 98 ∨ c = 99 := by simpa [five, or_assoc] using h
theorem lp_sum {x y : Nat} (hx : five x = true) (hy : five y = true) : (if x = y then x else if x = 48 ∨ y = 48 then (if x = 48 then y else x) else 49) = sumM x y := by
  rcases five_cases hx with rfl | rfl | rfl | rfl | rfl <;> rcases five_cases hy with rfl | rfl | rfl | rfl | rfl <;> decide
theorem lp_com {x y : Nat} (hx : five x = true) (hy : five y = true) : (if x = y then x else if x = 49 ∨ y = 49 then (if x = 49 then y else x) else 48) = comM x y := by
  rcases five_cases hx with rfl | rfl | rfl | rfl | rfl <;> rcases five_cases hy with rfl | rfl | rfl | rfl | rfl <;> decide
theorem lp_mk : ∀ {t : Tr}, WF t = true → lp t = mk PL t
  | .lf c, h => by
    simp only [lp, mk, letM, if_true]
    split <;> rfl
  | .nd c l r, h => by
    simp only [WF, Bool.and_eq_true] at h
    have e1 := lp_mk h.1.2
    have e2 := lp_mk h.2
    have f1 := mk_five (k := PL) h.1.2
    have f2 := mk_five (k := PL) h.2
    simp only [lp, mk, e1, e2]
    rcases joint_two h.1.1 with rfl | rfl
    · simpa using lp_sum f1 f2
    · simpa using lp_com f1 f2
def bit (c : Nat) : Prop := c = 48 ∨ c = 49
theorem li_mk {k : List Nat} (hk : k ≠ PL) : ∀ {t : Tr}, WF t = true → bit (mk k t) ∧ li k t = (mk k t : Int) - 48
  | .lf c, h => by
    simp only [li, mk, letM, if_neg hk]
    by_cases hh : hand c = true
    · rw [if_pos hh]
      have c49 : c ≠ 49 := by
        intro e; subst e; cases hh
      by_cases hm : c ∈ k
      · rw [if_pos hm, if_pos (.inr ⟨hh, hm⟩)]
        exact ⟨.inr rfl, by decide⟩
      · rw [if_neg hm, if_neg (by simp [c49, hm])]
        exact ⟨.inl rfl, by decide⟩
    · rw [if_neg hh]
      have hc : c = 48 ∨ c = 49 := by
        simp only [WF, leafC, hand, Bool.or_eq_true, beq_iff_eq] at h hh
        omega
      rcases hc with rfl | rfl
      · exact ⟨.inl rfl, by simp [hh]⟩
      · exact ⟨.inr rfl, by simp⟩
  | .nd c l r, h => by
    simp only [WF, Bool.and_eq_true] at h
    obtain ⟨b1, e1⟩ := li_mk hk h.1.2
    obtain ⟨b2, e2⟩ := li_mk hk h.2
    simp only [li, mk, e1, e2]
    generalize mk k l = x at *
    generalize mk k r = y at *
    rcases joint_two h.1.1 with rfl | rfl <;> rcases b1 with rfl | rfl <;> rcases b2 with rfl | rfl <;> exact ⟨by unfold bit; decide, by decide⟩
/-- the law's within -/
def liW (k : List Nat) (s t : Tr) : Bool := if k = PL then isW (lp s) (lp t) else decide (li k s ≤ li k t)
theorem liW_eq {k : List Nat} {s t : Tr} (hs : WF s = true) (ht : WF t = true) : liW k s t = isW (mk k s) (mk k t) := by
  unfold liW
  by_cases hk : k = PL
  · subst hk
    rw [if_pos rfl, lp_mk hs, lp_mk ht]
  · rw [if_neg hk]
    obtain ⟨b1, e1⟩ := li_mk hk hs
    obtain ⟨b2, e2⟩ := li_mk hk ht
    rw [e1, e2]
    generalize mk k s = x at *
    generalize mk k t = y at *
    rcases b1 with rfl | rfl <;> rcases b2 with rfl | rfl <;> decide
/-- the nine kinds -/
def kinds : List (List Nat) := [[], [97], [98], [99], [97, 98], [97, 99], [98, 99], [97, 98, 99], PL]
/-- the first kind at which two words part, go beyond -/
def partK (s t : Tr) : Option (List Nat) := kinds.find? fun k => mk k s != mk k t
def gapK (s t : Tr) : Option (List Nat) := kinds.find? fun k => !isW (mk k s) (mk k t)
end KW

set_option Elab.async false
set_option linter.all false
set_option maxRecDepth 100000
set_option maxHeartbeats 4000000
/-! # C.m(..) of a classmethod within a try -/
namespace VX
open PySem PySem.Spec PyProof.Rows L2 ClX
section
variable {X : Cx} {pins : List (Addr × Obj)} {σ : L2.St} {H : Hp} {s : Shared}
theorem run_fnRS {CX : CXT} {k : Nat} {f : Addr} {sp : Sp} {E : XK} {Q : VK} {us : List Value} {vs : List V} (F : FnR X.prog X.w X.K X.mg X.base CX k f sp) (hr : Room k X.A) (hx : PassesAt CX X σ E) (I : L2.Inv X pins σ H s) (r : Vals vs us) (h : sp vs H Q E) :
    codeAny (model X.prog X.w) X.A (.call (.ref f) ⟨us, []⟩) (fun r s' => match r with | .ok (.ret v) => EP X pins σ Q v s' | .ok _ => False | .error e => X.xe e s') s := by
  refine codeAny_mono (F X.A X.stack s H us vs Q E hr I.env0 r h) fun r s' hq => ?_
  cases r with
  | error e => exact hx pins H s e s' I hq
  | ok fl =>
    cases fl with
    | ret u => exact I.after hq
    | next => exact False.elim hq
    | brk => exact False.elim hq
    | cont => exact False.elim hq
theorem run_cmS {CX : CXT} {k : Nat} {C g q : Addr} {sp : Sp} {E : XK} {Q : VK} {us : List Value} {vs : List V} (F : FnR X.prog X.w X.K X.mg X.base CX k g sp) (hr : Room k X.A) (hx : PassesAt CX X σ E) (I : L2.Inv X ((q, PySem.W.methodObj (.ref g) (.ref C)) :: pins) σ H s)
    (r : Vals vs us) (h : sp (.ref C :: vs) H Q E) : wpAny (model X.prog X.w) X.A (call (.ref q) us) (EP X pins σ Q) X.xe s := by
  have z : wpAny (model X.prog X.w) X.A (call (.ref q) us) (EP X ((q, PySem.W.methodObj (.ref g) (.ref C)) :: pins) σ Q) X.xe s :=
    wpAny_call (PySem.W.method_call (pin_at I) (run_fnRS (us := .ref C :: us) (vs := .ref C :: vs) F hr hx I (.cons rfl r) h))
  exact thn z fun _ _ y => unpinE y
end
def tCMethS (C : Addr) (sp : Sp) (E : L2.St → XK) (ta : TE) (t : TA) : TE := fun σ H Q => ta σ H fun x H1 => x = .ref C ∧ t σ H1 fun vs H2 => sp (.ref C :: vs) H2 Q (E σ)
theorem pe_cmethS {X : Cx} {CX : CXT} {k : Nat} {C p g : Addr} {mc : Value} {sp : Sp} {E : L2.St → XK} {o e : Expr} {es : List Expr} {m : Str} {pos apos : Pos} {ta : TE} {t : TA} {pl : Sem Bool} (he : PE X o ta) (r : CRead X.K C mc) (c : CMet X.K C mc m p g) (F : FnR X.prog X.w X.K X.mg X.base CX k g sp) (hr : Room k X.A) (hx : ∀ σ, PassesAt CX X σ (E σ)) (ha : PA X (e :: es) t)
    (hst : starEach (e :: es) X.env = (false, eval e X.env) :: starEach es X.env := by rfl) (hpl : (backTo pos (starEach es X.env)).any (·.1) = false := by rfl)
    (ht : eval (.Call (.Attribute o m apos) (e :: es) [] pos) X.env = (do
      let ov ← eval o X.env
      standAt apos.atName
      let (f, first) ← holding [ov] (getMethod ov m pl)
      callWith pos f first (backTo pos (starEach (e :: es) X.env)) (backToKw pos (keywordEach [] X.env))) := by rfl) :
    PE X (.Call (.Attribute o m apos) (e :: es) [] pos) (tCMethS C sp E ta t) := by
  refine ⟨fun pins s σ H Q I h => ?_⟩
  refine PySem.W.methodCall_KW (pl := pl) (thn (he.run pins s σ H _ I h) fun u s1 ⟨x, H1, I1, rx, ex, q⟩ => ?_) ht
  subst ex
  obtain rfl : u = Value.ref C := rx
  refine getmethcm_ok I1 r c fun s2 I2 => ?_
  refine callwith_cm I2 (base_none I1 (Nat.le_refl _)) c.fi (thn (ha.run pos _ s2 σ H1 _ I2 q) fun us s3 ⟨vs, H2, I3, rv, q2⟩ => ⟨⟨pin_at I3, I3.kIn⟩, ?_⟩) hst hpl
  exact run_cmS F hr (hx σ) I3 rv q2
theorem yes_if {σ : L2.St} {H : Hp} {A B : Hp → Prop} (h : A H) : tYes σ H fun b H3 => if b = true then A H3 else B H3 := by
  show if true = true then A H else B H
  rw [if_pos rfl]
  exact h
theorem no_if {σ : L2.St} {H : Hp} {A : Hp → Prop} (h : A H) : tYes σ H fun b H3 => b = true → A H3 := fun _ => h
/-- a list that grows outside of what stood -/
theorem Same.grow {H H3 : Hp} {D : Addr} {o : HO} (s : Same H H3) (hD : H D = none) : Same H (upd H3 D o) := fun b u q => by
  rw [upd_ne (ne_of_none q hD)]
  exact s b u q
theorem take_more {α β : Type} {g : α → β} {xs : List α} {i : Nat} {x : α} (h : xs[i]? = some x) : (xs.take (i + 1)).map g = (xs.take i).map g ++ [g x] := by
  rw [List.take_succ, h, List.map_append]
  rfl
theorem take_one {α : Type} {xs : List α} {i : Nat} {x : α} (h : xs[i]? = some x) : xs.take (i + 1) = xs.take i ++ [x] := by
  rw [List.take_succ, h]
  rfl
/-! ### a text times an int; an item of a displayed list, drawn -/
theorem op_mulS {X : Cx} : OpR X (binaryOp .Mult) (fun x y H Q => ∃ a n, x = .str a ∧ y = .int n ∧ a.length ≤ 1000 ∧ 0 ≤ n ∧ n ≤ 1000 ∧ Q (.str (Txt.mul a n)) H) := by
  intro pins s σ H x y v u Q I rx ry h
  obtain ⟨a, n, rfl, rfl, ha, h0, h1, q⟩ := h
  obtain ⟨t, rfl⟩ := rx
  obtain ⟨t', rfl⟩ := ry
  have hp : (a.length : Int) * n ≤ 1000000 := by
    have := Int.mul_le_mul (show (a.length : Int) ≤ 1000 by omega) h1 h0 (by decide)
    omega
  refine SB.mul ⟨?_, fun h2 _ h3 => ?_, fun h2 _ => ?_⟩ fun t' k => ⟨.str (Txt.mul a n), H, I.tok _, ⟨t', rfl⟩, q⟩
  · rw [decide_eq_false (by omega), decide_eq_false (by omega)]; rfl
  · have h5 : (1000 : Int) ≤ (2 ^ 63 - 1) / n := by
      rw [Int.le_ediv_iff_mul_le (by omega)]
      omega
    omega
  · have h6 : a.length * n.toNat ≤ 1000000 := by
      have e : ((a.length * n.toNat : Nat) : Int) = (a.length : Int) * n := by rw [Int.natCast_mul, Int.toNat_of_nonneg h0]
      omega
    have h7 : (1000000 : Nat) ≤ sizeLine := by decide
    exact decide_eq_false (by show ¬ a.length * n.toNat > sizeLine; omega)
theorem pick_use {K : PySem.W.Frag} {H : Hp} {b l0 : Addr} {N : Nat} {m : Int} {vs : List V} {Q : VK} {E : XK} (h : BoxK H b N) (hl : H l0 = none) (hN : N ≤ 900000) (hm : (vs.length : Int) = m) (m0 : 0 < m) (m1 : m ≤ 1000)
    (k : ∀ v H', v ∈ vs → Kept b H H' → BoxK H' b (N + 1) → Q v H') : spTake [.ref b, .int m] (upd H l0 (.lst vs)) (fun y H2 => rIxL K (.ref l0) y H2 Q) E := by
  have n0 : l0 ≠ b := fun e => by obtain ⟨xs, hx⟩ := h.at; rw [e, hx] at hl; cases hl
  refine take_use (h.same (same_new hl)) hN m0 (by omega) fun d H1 d0 d1 kp bx _ => ?_
  obtain ⟨v, hv, hm⟩ := atI_ex (xs := vs) d0 (by omega)
  exact ⟨l0, vs, d, v, rfl, rfl, SqL.of (kp _ _ upd_same n0), hv, k v H1 hm ((Kept.of (same_new hl)).trans kp) bx⟩
end VX

set_option Elab.async false
set_option linter.all false
set_option maxRecDepth 100000
set_option maxHeartbeats 4000000
/-! # the facts under the parts' names -/
namespace KT
open PySem PySem.Spec PyProof.Rows L2 VX
abbrev wC (K : PySem.W.Frag) : Addr := He.ga K "Word"
abbrev propG (K : PySem.W.Frag) (m : Str) : Addr := VY.pG K (wC K) m
def kindV : List V := [.str "", .str "a", .str "b", .str "c", .str "ab", .str "ac", .str "bc", .str "abc", .str "plane"]
section
variable {K : PySem.W.Frag} {mg : Str → Option Value}
theorem Txt.leaves (T : Txt K mg) : mg "LEAVES" = some (.ref (He.ga K "LEAVES")) := T.g_LEAVES
theorem Txt.joints (T : Txt K mg) : mg "JOINTS" = some (.ref (He.ga K "JOINTS")) := T.g_JOINTS
theorem Txt.hands (T : Txt K mg) : mg "HANDS" = some (.ref (He.ga K "HANDS")) := T.g_HANDS
theorem Txt.kinds (T : Txt K mg) : mg "KINDS" = some (.ref (He.ga K "KINDS")) := T.g_KINDS
theorem Txt.plane (T : Txt K mg) : ∃ t, mg "PLANE" = some (.str "plane" t) := T.s_PLANE
theorem Txt.most (T : Txt K mg) : ∃ t, mg "MOST_OPEN" = some (.int 9 t) := T.n_MOST_OPEN
theorem Txt.ltup (T : Txt K mg) : ∀ H, SqT K H (He.ga K "LEAVES") [.str "a", .str "b", .str "c", .str "0", .str "1"] := T.t_LEAVES
theorem Txt.jtup (T : Txt K mg) : ∀ H, SqT K H (He.ga K "JOINTS") [.str "+", .str "&"] := T.t_JOINTS
theorem Txt.htup (T : Txt K mg) : ∀ H, SqT K H (He.ga K "HANDS") [.str "a", .str "b", .str "c"] := T.t_HANDS
theorem Txt.ktup (T : Txt K mg) : ∀ H, SqT K H (He.ga K "KINDS") [.str "", .str "a", .str "b", .str "c", .str "ab", .str "ac", .str "bc", .str "abc", .str "plane"] := T.t_KINDS
theorem Txt.word (T : Txt K mg) : mg "Word" = some (.ref (He.ga K "Word")) := T.g_Word
theorem Txt.cls (T : Txt K mg) : Cls K (He.ga K "Word") := T.c_Word
theorem Txt.fs (T : Txt K mg) : NoAttr K (He.ga K "Word") "_sign" := T.a_Word_sign
theorem Txt.fp (T : Txt K mg) : NoAttr K (He.ga K "Word") "_parts" := T.a_Word_parts
theorem Txt.mks (T : Txt K mg) : Mk K (He.ga K "Word") (He.ma K (He.ga K "Word") "__init__") := T.k_Word
theorem Txt.ps (T : Txt K mg) : PropOf K (He.ga K "Word") "sign" (He.ma K (He.ga K "Word") "sign") (VY.pG K (He.ga K "Word") "sign") := T.p_Word_sign
theorem Txt.pp (T : Txt K mg) : PropOf K (He.ga K "Word") "parts" (He.ma K (He.ga K "Word") "parts") (VY.pG K (He.ga K "Word") "parts") := T.p_Word_parts
theorem Txt.cr (T : Txt K mg) : ClX.CRead K (He.ga K "Word") (.type "type") := T.r_Word
theorem Txt.cm (T : Txt K mg) : ClX.CMet K (He.ga K "Word") (.type "type") "read" (He.ma K (He.ga K "Word") "read") (He5.wf K (He.ga K "Word") "classmethod" "read") := T.cm_Word_read
theorem Txt.first (T : Txt K mg) : PySem.W.selfFirst K (He.ga K "Word") = true := T.f_Word
theorem Txt.badc (T : Txt K mg) : mg "BadColumn" = some (.ref (He.ga K "BadColumn")) := T.g_BadColumn
theorem Txt.exf (T : Txt K mg) : ExF K (He.ga K "BadColumn") := T.xf_BadColumn
theorem Txt.inf (T : Txt K mg) : InF K (He.ga K "BadColumn") "column" := T.if_BadColumn
theorem Txt.exm (T : Txt K mg) : PySem.W.exmOne K (.ref (He.ga K "BadColumn")) (.ref (He.ga K "BadColumn")) = some true := T.e_BadColumn
theorem Txt.add (T : Txt K mg) : PySem.W.findIn K (.ref (wC K)) "__add__" = some (some (.ref (He.ma K (wC K) "__add__"))) := T.o_Word_add.find
theorem Txt.addf (T : Txt K mg) : PySem.W.isFn K (.ref (He.ma K (wC K) "__add__")) = true := T.o_Word_add.fn
theorem Txt.and (T : Txt K mg) : PySem.W.findIn K (.ref (wC K)) "__and__" = some (some (.ref (He.ma K (wC K) "__and__"))) := T.o_Word_and.find
theorem Txt.andf (T : Txt K mg) : PySem.W.isFn K (.ref (He.ma K (wC K) "__and__")) = true := T.o_Word_and.fn
end
end KT

set_option Elab.async false
set_option linter.all false
set_option maxRecDepth 100000
set_option maxHeartbeats 4000000
/-! # words.py: fits, check_text -/
namespace KT
open PySem PySem.Spec PyProof.Rows L2 VX KW
section
variable {P : Program} {w : World} {K : PySem.W.Frag} {mg : Str → Option Value} {base : Heap} {f : Addr} {fd : FuncData}
/-- a text of one sign -/
abbrev one (c : Nat) : Str := ⟨#[c]⟩
theorem one_eq {c d : Nat} : (one c = one d) ↔ c = d := by
  constructor
  · intro h
    have := congrArg (fun s : Str => s.cps.toList) h
    simpa using this
  · rintro rfl; rfl
theorem dec_one {c d : Nat} : decide (V.str (one c) = V.str (one d)) = (c == d) := by
  rw [Bool.eq_iff_iff]
  simp only [decide_eq_true_eq, beq_iff_eq]
  constructor
  · intro h
    exact one_eq.mp (by injection h)
  · rintro rfl; rfl
theorem beq_one {c d : Nat} : (one d == one c) = (c == d) := by
  rw [Bool.eq_iff_iff, beq_iff_eq, beq_iff_eq, one_eq]
  exact eq_comm
theorem in_leaves (c : Nat) : inV (V.str (one c)) [V.str "a", V.str "b", V.str "c", V.str "0", V.str "1"] = leafC c := by
  show ((one 97 == one c) || ((one 98 == one c) || ((one 99 == one c) || ((one 48 == one c) || ((one 49 == one c) || false))))) = _
  simp only [beq_one, leafC, Bool.or_false, Bool.or_assoc]
theorem in_joints (c : Nat) : inV (V.str (one c)) [V.str "+", V.str "&"] = jointC c := by
  show ((one 43 == one c) || ((one 38 == one c) || false)) = _
  simp only [beq_one, jointC, Bool.or_false]
/-! ### fits -/
def spFits : Sp := fun vs H Q _ => ∃ (c : Nat) (m : Int), vs = [.str (one c), .int m] ∧ Q (.bl (if leafC c = true then decide (m = 0) else jointC c && decide (m = 2))) H
theorem sc_fits : FnScope ["sign", "many"] ["sign", "many"] (defScope (top iFits)) := ⟨rfl, rfl, rfl, by decide +kernel, rfl, by decide +kernel, by decide +kernel⟩
theorem ok_fits (F : FnP K "fits" iFits f fd) (T : Txt K mg) : FnOk P w K mg base CX0 1 f fd ["sign", "many"] spFits := by
  refine F.ok sc_fits (fun vs H Q E h => ?_) (fun cdv A outer s H vs Q E hr h => ?_)
  · obtain ⟨c, m, rfl, _⟩ := h
    rfl
  · obtain ⟨c, m, rfl, k⟩ := h
    refine ⟨_, PSs.nox (pss_cons (ps_if (pt_cmpR op_in_seq (pv 0) (pe_glob (v := .ref (He.ga K "LEAVES")) (by rfl) T.leaves rfl) (by rfl)) (pss_one (ps_ret (pe_cmp (pc_eqI (pv 1) pe_int) rfl))) pss_nil)
      (pss_one (ps_ret (pe_and (pe_cmpR op_in_seq (pv 0) (pe_glob (v := .ref (He.ga K "JOINTS")) (by rfl) T.joints rfl) (by rfl)) (pe_one (pe_cmp (pc_eqI (pv 1) pe_int) rfl)))))), ?_⟩
    refine ⟨_, rfl, _, _, rfl, .inr (T.ltup _), rfl, rfl, _, rfl, ?_⟩
    simp only [Bool.false_eq_true, if_false, in_leaves]
    refine ite2 (fun hc => ?_) (fun hc => ?_)
    · rw [if_pos hc] at k
      exact ⟨_, rfl, _, _, rfl, rfl, k⟩
    · rw [if_neg hc] at k
      refine ⟨_, rfl, _, _, rfl, .inr (T.jtup _), rfl, rfl, _, rfl, ?_⟩
      simp only [Bool.false_eq_true, if_false, in_joints]
      cases hj : jointC c with
      | false =>
        rw [hj] at k
        exact iteF k
      | true =>
        rw [hj] at k
        exact iteT ⟨_, rfl, _, _, rfl, rfl, k⟩
/-! ### check_text -/
def spCheck (K : PySem.W.Frag) : Sp := fun vs H Q E => ∃ (z : Str), vs = [.str z, .int 9] ∧ z.length ≤ 1000 ∧ (due z.cps.toList = 0 → ∀ H', Same H H' → Q .non H') ∧
  (due z.cps.toList ≠ 0 → ∀ H' d, Same H H' → H' d = none → E (.ref (He.ga K "BadColumn")) (some d) (upd H' d (.xd [("column", .int (due z.cps.toList : Nat))])))
theorem sc_check : FnScope ["text", "most", "opened", "wanted", "column", "sign"] ["text", "most"] (defScope (top iCheck)) := ⟨rfl, rfl, rfl, by decide +kernel, rfl, by decide +kernel, by decide +kernel⟩
theorem ok_check {fdB : FuncData} (F : FnP K "check_text" iCheck f fd) (T : Txt K mg) (GB : FnOk P w K mg base CX0 1 (He.ma K (He.ga K "BadColumn") "__init__") fdB ["self", "column"] (spIni K (He.ga K "BadColumn") "column")) (BB : Binds K fdB ["self", "column"] []) :
    FnOk P w K mg base (L2.CX P w) 4 f fd ["text", "most"] (spCheck K) := by
  have iC := T.inf
  refine F.ok sc_check (fun vs H Q E h => ?_) (fun cdv A outer s H vs Q E hr h => ?_)
  · obtain ⟨z, rfl, _⟩ := h
    rfl
  · obtain ⟨z, rfl, hz, k0, k1⟩ := h
    have hr2 : Room 2 _ := hr.mono (by decide)
    have nd := sc_check.nd
    refine ⟨_, (pss_cons (ps_set (i := 2) nd rfl (.inl rfl) pe_int) (pss_cons (ps_set (i := 3) nd rfl (.inl rfl) pe_bl)
      (pss_cons (ps_for (passes_of rfl) rfl (pi_enumS (by rfl) (T.fr "enumerate") (pa_cons (pv 0) pa_nil)) (pg_tup rfl (pgs_cons (pg_name (i := 4) nd rfl (.inl rfl)) (pgs_cons (pg_name (i := 5) nd rfl (.inl rfl)) pgs_nil)))
        (pss_one (ps_if (PW.pt (pw_and (pt_val (pv 3)) (pw_and1 (pt_cmpR op_in_seq (pv 5) (pe_glob (v := .ref (He.ga K "LEAVES")) (by rfl) T.leaves rfl) (by rfl)))))
            (pss_one (ps_set (i := 3) nd rfl (.inl rfl) pe_bl))
          (pss_one (ps_if (PW.pt (pw_and (pt_val (pv 3)) (pw_and (pt_cmpR op_eq (pv 5) pe_str (nomark _)) (pw_and1 (pt_cmpR op_lt (pv 2) (pv 1) (nomark _))))))
            (pss_one (ps_aug (i := 2) nd rfl (.inl rfl) pe_int ip_add))
          (pss_one (ps_if (PW.pt (pw_and (pt_not (pt_val (pv 3))) (pw_and1 (pt_cmpR op_in_seq (pv 5) (pe_glob (v := .ref (He.ga K "JOINTS")) (by rfl) T.joints rfl) (by rfl)))))
            (pss_one (ps_set (i := 3) nd rfl (.inl rfl) pe_bl))
          (pss_one (ps_if (PW.pt (pw_and (pt_not (pt_val (pv 3))) (pw_and (pt_cmpR op_eq (pv 5) pe_str (nomark _)) (pw_and1 (pt_cmpR op_gt (pv 2) pe_int (nomark _))))))
            (pss_one (ps_aug (i := 2) nd rfl (.inl rfl) pe_int ip_sub))
          (pss_one (ps_if (pt_cmpR op_ne (pv 5) pe_str (nomark _))
            (pss_one (ps_raise rfl (takes_of rfl rfl rfl rfl) (pmk_oex iC.oe iC.ini iC.fn GB hr2 BB .nil pass0 (by rfl) T.badc (pa_cons (pv 4) pa_nil)))) pss_nil)))))))))))
      (pss_one (ps_if (PW.pt (pw_or (pt_val (pv 3)) (pw_or1 (pt_cmpR op_gt (pv 2) pe_int (nomark _)))))
        (pss_one (ps_raise rfl (takes_of rfl rfl rfl rfl) (pmk_oex iC.oe iC.ini iC.fn GB hr2 BB .nil pass0 (by rfl) T.badc (pa_cons (pe_op op_add (pe_callB call_len_str (by rfl) (T.fr "len") boot_len (pa_cons (pv 0) pa_nil)) pe_int) pa_nil)))) pss_nil))))), ?_⟩
    have bad : ∀ {σ : L2.St} {H1 : Hp} {D : Ends} {W : WX} {te : TE} {n : Nat} {k : Int}, k = n → n ≠ 0 → due z.cps.toList = n → Same H H1 → (∀ (Q' : VK), Q' (.int k) H1 → te σ H1 Q') → (∀ cls d H', E cls d H' → W cls d σ H') →
        tMkO (He.ga K "BadColumn") (spIni K (He.ga K "BadColumn") "column") [] (tCons te tNil) σ H1 fun cls d H' => W cls d σ H' :=
      fun {σ H1 D W te n k} hk h0 hn sm ht hW => ht _ ⟨by show 1 ≤ 1000; decide, fun a ha => make_read (X := fun cls d H' => W cls d σ H') (K := K) (fun d hd => hW _ _ _ (by rw [hk, ← hn]; exact k1 (by rw [hn]; exact h0) H1 d sm hd)) a ha⟩
    refine ⟨_, rfl, z, rfl, for_it walk_enumS (fun i σ H' => (∃ (o : Nat) (w : Bool) (y3 y4 : Option V), σ = [some (.str z), some (.int 9), some (.int o), some (.bl w), y3, y4] ∧ dueAt (z.cps.toList.drop i) o w (i + 1) = due z.cps.toList) ∧ Same H H') ⟨⟨0, true, none, none, rfl, rfl⟩, Same.refl _⟩ (fun _ _ _ _ _ => trivial) ?_ ?_⟩
    · rintro i x σ H1 H2 hi ⟨⟨o, w, y3, y4, rfl, hd⟩, sm⟩ ⟨T', x', y', rfl, hT, rfl, e1, e2⟩
      obtain rfl : V.int (1 + (i : Nat)) = x' := Option.some.inj e1
      obtain ⟨c, hc, rfl⟩ : ∃ c, z.cps[i]? = some c ∧ y' = .str (one c) := by
        have e2 : z.cps[i]?.map (fun c => V.str ⟨#[c]⟩) = some y' := e2
        cases q : z.cps[i]? with
        | none => rw [q] at e2; cases e2
        | some c => rw [q] at e2; exact ⟨c, rfl, (Option.some.inj e2).symm⟩
      have hdr : z.cps.toList.drop i = c :: z.cps.toList.drop (i + 1) := by
        have h1 : i < z.cps.toList.length := by simpa using hi
        rw [List.drop_eq_getElem_cons h1]
        have h2 : z.cps.toList[i]? = some c := by simpa using hc
        rw [List.getElem?_eq_getElem h1] at h2
        rw [Option.some.inj h2]
      have sm2 := sm.trans (same_new (o := .tup [.int (1 + (i : Nat)), .str (one c)]) hT)
      have go : ∀ {o' : Nat} {w' : Bool}, stp o w c = some (o', w') → dueAt (z.cps.toList.drop (i + 1)) o' w' (i + 1 + 1) = due z.cps.toList := fun {o' w'} hs => by
        rw [hdr] at hd
        simp only [dueAt, hs] at hd
        exact hd
      have no : stp o w c = none → due z.cps.toList = i + 1 := fun hs => by
        rw [hdr] at hd
        simp only [dueAt, hs] at hd
        exact hd.symm
      have err : ∀ {W : WX} {σ' : L2.St} {D : Ends}, stp o w c = none → (σ' = [some (.str z), some (.int 9), some (.int o), some (.bl w), some (.int (1 + (i : Nat))), some (.str (one c))]) → (∀ cls d H', E cls d H' → W cls d σ' H') →
          tMkO (He.ga K "BadColumn") (spIni K (He.ga K "BadColumn") "column") [] (tCons (tVar 4) tNil) σ' (upd H1 T' (.tup [.int (1 + (i : Nat)), .str (one c)])) fun cls d H' => W cls d σ' H' :=
        fun {W σ' D} hs hσ hW => bad (k := 1 + (i : Nat)) (n := i + 1) (D := D) (by omega) (by omega) (no hs) sm2 (fun Q' q => ⟨_, by rw [hσ]; rfl, q⟩) hW
      refine ⟨T', _, rfl, SqT.of upd_same, rfl, _, _, rfl, _, _, rfl, rfl, ?_⟩
      have d40 : decide (V.str (one c) = V.str "(") = (c == 40) := dec_one
      have d41 : decide (V.str (one c) = V.str ")") = (c == 41) := dec_one
      have d32 : decide (V.str (one c) = V.str " ") = (c == 32) := dec_one
      cases w with
      | true =>
        refine ⟨_, rfl, _, rfl, iteT ⟨_, rfl, _, _, rfl, .inr (T.ltup _), rfl, rfl, _, rfl, ?_⟩⟩
        simp only [Bool.false_eq_true, if_false, in_leaves]
        refine ite2 (fun hc => ?_) (fun hc => ?_)
        · refine ⟨⟨o, false, _, _, rfl, go ?_⟩, sm2⟩
          simp only [stp, hc, Bool.and_self, if_true, (leaf_no hc).1, if_false]
        · refine ⟨_, rfl, _, rfl, iteT ⟨_, rfl, rfl, _, rfl, ?_⟩⟩
          rw [d40]
          refine ite2 (fun h40 => ?_) (fun h40 => ?_)
          · have e40 : c = 40 := by simpa using h40
            refine ⟨_, rfl, _, rfl, _, _, rfl, rfl, _, rfl, ?_⟩
            refine ite2 (fun h9 => ?_) (fun h9 => ?_)
            · have h9' : o < 9 := by have := of_decide_eq_true h9; omega
              refine ⟨_, rfl, _, _, rfl, rfl, ⟨o + 1, true, _, _, rfl, go ?_⟩, sm2⟩
              subst e40
              simp [stp, leafC, h9']
            · have h9' : ¬ o < 9 := fun h => h9 (decide_eq_true (by omega))
              refine ⟨_, rfl, _, rfl, iteF ⟨_, rfl, _, rfl, iteF ⟨_, rfl, rfl, _, rfl, ?_⟩⟩⟩
              rw [d32]
              subst e40
              exact iteT (err (W := fun cls d _ H' => E cls d H') (D := { nx := fun _ _ => True, rt := Q }) (by simp [stp, leafC, h9', jointC]) rfl (fun _ _ _ h => h))
          · have e40 : c ≠ 40 := by simpa using h40
            refine ⟨_, rfl, _, rfl, iteF ⟨_, rfl, _, rfl, iteF ⟨_, rfl, rfl, _, rfl, ?_⟩⟩⟩
            rw [d32]
            refine ite2 (fun h32 => ?_) (fun h32 => ?_)
            · have e32 : c ≠ 32 := by simpa using h32
              exact err (W := fun cls d _ H' => E cls d H') (D := { nx := fun _ _ => True, rt := Q }) (by simp [stp, hc, e40, e32]) rfl (fun _ _ _ h => h)
            · have e32 : c = 32 := by simpa using h32
              exact ⟨⟨o, true, _, _, rfl, go (by simp [stp, e32])⟩, sm2⟩
      | false =>
        refine ⟨_, rfl, _, rfl, iteF ⟨_, rfl, _, rfl, iteF ⟨_, rfl, _, rfl, iteT ⟨_, rfl, _, _, rfl, .inr (T.jtup _), rfl, rfl, _, rfl, ?_⟩⟩⟩⟩
        simp only [Bool.false_eq_true, if_false, in_joints]
        refine ite2 (fun hc => ?_) (fun hc => ?_)
        · have n := joint_no hc
          exact ⟨⟨o, true, _, _, rfl, go (by simp [stp, hc, n.1])⟩, sm2⟩
        · refine ⟨_, rfl, _, rfl, iteT ⟨_, rfl, rfl, _, rfl, ?_⟩⟩
          rw [d41]
          refine ite2 (fun h41 => ?_) (fun h41 => ?_)
          · have e41 : c = 41 := by simpa using h41
            refine ⟨_, rfl, _, _, rfl, rfl, _, rfl, ?_⟩
            refine ite2 (fun h9 => ?_) (fun h9 => ?_)
            · have h9' : 0 < o := by have := of_decide_eq_true h9; omega
              refine ⟨_, rfl, _, _, rfl, rfl, ⟨o - 1, false, some (.int (1 + (i : Nat))), some (.str (one c)), ?_, go ?_⟩, sm2⟩
              · show [some (V.str z), some (V.int 9), some (V.int ((o : Int) - 1)), some (V.bl false), some (V.int (1 + (i : Nat))), some (V.str (one c))] = _
                rw [show ((o - 1 : Nat) : Int) = (o : Int) - 1 by omega]
              · subst e41
                simp [stp, jointC, h9']
            · have h9' : ¬ 0 < o := fun h => h9 (decide_eq_true (by omega))
              refine ⟨_, rfl, rfl, _, rfl, ?_⟩
              rw [d32]
              subst e41
              exact iteT (err (W := fun cls d _ H' => E cls d H') (D := { nx := fun _ _ => True, rt := Q }) (by simp [stp, h9', jointC]) rfl (fun _ _ _ h => h))
          · have e41 : c ≠ 41 := by simpa using h41
            refine ⟨_, rfl, rfl, _, rfl, ?_⟩
            rw [d32]
            refine ite2 (fun h32 => ?_) (fun h32 => ?_)
            · have e32 : c ≠ 32 := by simpa using h32
              exact err (W := fun cls d _ H' => E cls d H') (D := { nx := fun _ _ => True, rt := Q }) (by simp [stp, hc, e41, e32]) rfl (fun _ _ _ h => h)
            · have e32 : c = 32 := by simpa using h32
              exact ⟨⟨o, false, _, _, rfl, go (by simp [stp, e32])⟩, sm2⟩
    · rintro σ H1 ⟨⟨o, w, y3, y4, rfl, hd⟩, sm⟩
      have hn : z.cps.toList.drop z.cps.size = [] := List.drop_eq_nil_of_le (by simp)
      rw [hn] at hd
      simp only [dueAt] at hd
      have lz : z.length = z.cps.size := rfl
      have lz2 : z.length ≤ sizeLine := Nat.le_of_lt (lt_line (by omega))
      cases w with
      | true =>
        have hs : due z.cps.toList = z.cps.size + 1 := by simpa using hd.symm
        refine ⟨_, rfl, _, rfl, iteT (bad (W := fun cls d _ H' => E cls d H') (D := { nx := fun _ _ => True, rt := Q }) (n := z.cps.size + 1) (k := (z.length : Nat) + 1) (by omega) (by omega) hs sm (fun Q' q => ?_) (fun _ _ _ h => h))⟩
        exact ⟨_, rfl, z, rfl, lz2, _, _, rfl, rfl, q⟩
      | false =>
        refine ⟨_, rfl, _, rfl, iteF ⟨_, rfl, _, _, rfl, rfl, _, rfl, ?_⟩⟩
        refine ite2 (fun h9 => ?_) (fun h9 => ?_)
        · have h9' : 0 < o := by have := of_decide_eq_true h9; omega
          have hs : due z.cps.toList = z.cps.size + 1 := by rw [← hd]; simp [h9']
          refine bad (W := fun cls d _ H' => E cls d H') (D := { nx := fun _ _ => True, rt := Q }) (n := z.cps.size + 1) (k := (z.length : Nat) + 1) (by omega) (by omega) hs sm (fun Q' q => ?_) (fun _ _ _ h => h)
          exact ⟨_, rfl, z, rfl, lz2, _, _, rfl, rfl, q⟩
        · have h9' : ¬ 0 < o := fun h => h9 (decide_eq_true (by omega))
          have hs : due z.cps.toList = 0 := by rw [← hd]; simp [h9']
          exact k0 hs _ sm
end
end KT

set_option Elab.async false
set_option linter.all false
set_option maxRecDepth 100000
set_option maxHeartbeats 4000000
/-! # words.py: Word -/
namespace KT
open PySem PySem.Spec PyProof.Rows L2 VX KW
section
variable {P : Program} {w : World} {K : PySem.W.Frag} {mg : Str → Option Value} {base : Heap} {f : Addr} {fd : FuncData}
abbrev sWI : Stmt := inClass (top iWord) 0
abbrev sWR : Stmt := inClass (top iWord) 1
abbrev sWA : Stmt := inClass (top iWord) 4
abbrev sWB : Stmt := inClass (top iWord) 5
def fitB (c m : Nat) : Bool := if leafC c = true then decide (m = 0) else jointC c && decide (m = 2)
/-- the word at x: its sign, its parts -/
def IsWd (K : PySem.W.Frag) (H : Hp) (x : Addr) (c : Nat) (xs : List V) : Prop := ∃ dx a, H x = some (.ins (wC K) dx [("_sign", .str (one c)), ("_parts", .ref a)]) ∧ SqT K H a xs
theorem SqT.same {H H' : Hp} {a : Addr} {xs : List V} (s : Same H H') (h : SqT K H a xs) : SqT K H' a xs := by
  rcases h with (h | ⟨o, h⟩) | h
  · exact .inl (.inl (s _ _ h))
  · exact .inl (.inr ⟨o, s _ _ h⟩)
  · exact .inr h
theorem IsWd.same {H H' : Hp} {x : Addr} {c : Nat} {xs : List V} (s : Same H H') (h : IsWd K H x c xs) : IsWd K H' x c xs := by
  obtain ⟨dx, a, h1, h2⟩ := h
  exact ⟨dx, a, s _ _ h1, SqT.same s h2⟩
theorem seqT_keep {H H' : Hp} {x a C dx : Addr} {fs : List (Str × V)} {xs : List V} (hx : H x = some (.ins C dx fs)) (k : ∀ b o, H b = some o → b ≠ x → H' b = some o) (h : SqT K H a xs) : SqT K H' a xs := by
  rcases h with (h | ⟨o, h⟩) | h
  · exact .inl (.inl (k _ _ h (ne_of h hx (by intro z; cases z))))
  · exact .inl (.inr ⟨o, k _ _ h (ne_of h hx (by intro z; cases z))⟩)
  · exact .inr h
theorem seqL_keep {H H' : Hp} {x a C dx : Addr} {fs : List (Str × V)} {xs : List V} (hx : H x = some (.ins C dx fs)) (k : ∀ b o, H b = some o → b ≠ x → H' b = some o) (h : SqL K H a xs) : SqL K H' a xs := by
  rcases h with (h | ⟨o, h⟩) | h
  · exact .inl (.inl (k _ _ h (ne_of h hx (by intro z; cases z))))
  · exact .inl (.inr ⟨o, k _ _ h (ne_of h hx (by intro z; cases z))⟩)
  · exact .inr h
def spWI (K : PySem.W.Frag) : Sp := fun vs H Q _ => ∃ (x : Addr) (c : Nat) (a : Addr) (xs : List V) (dx : Addr), vs = [.ref x, .str (one c), .ref a] ∧ H x = some (.ins (wC K) dx []) ∧ (SqL K H a xs ∨ SqT K H a xs) ∧ fitB c xs.length = true ∧ xs.length ≤ 1000 ∧
  ∀ H', (∀ b o, H b = some o → b ≠ x → H' b = some o) → IsWd K H' x c xs → Q .non H'
theorem sc_wi : FnScope ["self", "sign", "parts"] ["self", "sign", "parts"] (defScope sWI) := ⟨rfl, rfl, rfl, by decide +kernel, rfl, by decide +kernel, by decide +kernel⟩
theorem ok_wi {dvs : List V} {fd1 : FuncData} (F : FunD K "__init__" "Word.__init__" (defArgs sWI) (defBody sWI) (defScope sWI) dvs [] f fd) (T : Txt K mg) (F1 : FnP K "fits" iFits (He.ga K "fits") fd1) : FnOk P w K mg base CX0 2 f fd ["self", "sign", "parts"] (spWI K) := by
  have G1 : FnOk P w K mg base CX0 1 _ fd1 ["sign", "many"] spFits := ok_fits F1 T
  have B1 : Binds K fd1 ["sign", "many"] [] := F1.bindsN fun _ _ _ _ _ _ us hl => match us, hl with | [_, _], _ => rfl
  refine F.ok sc_wi (fun vs H Q E h => ?_) (fun cdv A outer s H vs Q E hr h => ?_)
  · obtain ⟨x, c, a, xs, dx, rfl, _⟩ := h
    rfl
  · obtain ⟨x, c, a, xs, dx, rfl, hx, hs, hf, hl, k⟩ := h
    refine ⟨_, PSs.nox (pss_cons (ps_if (pt_not (pt_val (pe_call G1 hr (by rfl) (T.df "fits" iFits) F1.kp B1 .nil pass0 (pa_cons (pv 1) (pa_cons (pe_callB call_len_seq (by rfl) (T.fr "len") boot_len (pa_cons (pv 2) pa_nil)) pa_nil))))) (pss_one ps_never) pss_nil)
      (pss_cons (ps_fld (pv 0) (pv 1) rfl)
      (pss_one (ps_fld (pv 0) (pe_callTy call_tuple_of (by rfl) (T.fr "tuple") (by decide +kernel) (pa_cons (pv 2) pa_nil)) rfl)))), ?_⟩
    refine ⟨_, rfl, _, rfl, a, xs, rfl, hs, c, (xs.length : Nat), rfl, _, rfl, ?_⟩
    have e : (if leafC c = true then decide ((xs.length : Int) = 0) else jointC c && decide ((xs.length : Int) = 2)) = true := by
      have q := hf
      unfold fitB at q
      have e1 : decide ((xs.length : Int) = 0) = decide (xs.length = 0) := decide_eq_decide.mpr (by omega)
      have e2 : decide ((xs.length : Int) = 2) = decide (xs.length = 2) := decide_eq_decide.mpr (by omega)
      rwa [← e1, ← e2] at q
    rw [e]
    refine iteF ?_
    refine ⟨_, rfl, _, rfl, x, _, dx, [], rfl, hx, T.cls, T.fs, by decide, ?_⟩
    have hx1 : upd H x (.ins (wC K) dx [("_sign", .str (one c))]) x = some (.ins (wC K) dx [("_sign", .str (one c))]) := upd_same
    have k1 : ∀ b o, H b = some o → b ≠ x → upd H x (.ins (wC K) dx [("_sign", .str (one c))]) b = some o := fun b o q ne => by rw [upd_ne ne]; exact q
    rcases hs with hs | hs
    · refine ⟨_, rfl, a, xs, rfl, .inl ⟨seqL_keep hx k1 hs, fun t ht => ?_⟩⟩
      have tx : x ≠ t := ne_of_none hx1 ht
      refine ⟨_, rfl, x, _, dx, _, rfl, (by rw [upd_ne tx]; exact hx1), T.cls, T.fp, (by show 1 < 1000; decide), ?_⟩
      refine k _ (fun b o q ne => ?_) ⟨dx, t, upd_same, .inl (.inl (by rw [upd_ne (Ne.symm tx), upd_same]))⟩
      have q1 := k1 b o q ne
      rw [upd_ne ne, upd_ne (ne_of_none q1 ht)]
      exact q1
    · refine ⟨_, rfl, a, xs, rfl, .inr ⟨seqT_keep hx k1 hs, ?_⟩⟩
      refine ⟨_, rfl, x, _, dx, _, rfl, hx1, T.cls, T.fp, (by show 1 < 1000; decide), ?_⟩
      rw [upd_upd]
      have k2 : ∀ b o, H b = some o → b ≠ x → upd H x (.ins (wC K) dx (putF "_parts" (V.ref a) [("_sign", .str (one c))])) b = some o := fun b o q ne => by rw [upd_ne ne]; exact q
      exact k _ k2 ⟨dx, a, upd_same, seqT_keep hx k2 hs⟩
/-! ### __add__, __and__ -/
def spOp (K : PySem.W.Frag) (c : Nat) : Sp := fun vs H Q _ => ∃ (x y : Addr), vs = [.ref x, .ref y] ∧ ∀ H' z, Same H H' → H z = none → IsWd K H' z c [.ref x, .ref y] → Q (.ref z) H'
theorem sc_wa : FnScope ["self", "other"] ["self", "other"] (defScope sWA) := ⟨rfl, rfl, rfl, by decide +kernel, rfl, by decide +kernel, by decide +kernel⟩
theorem sc_wb : FnScope ["self", "other"] ["self", "other"] (defScope sWB) := ⟨rfl, rfl, rfl, by decide +kernel, rfl, by decide +kernel, by decide +kernel⟩
structure Wif (K : PySem.W.Frag) (fdI : FuncData) (dv : V) (fd1 : FuncData) : Prop where
  fi : FunD K "__init__" "Word.__init__" (defArgs sWI) (defBody sWI) (defScope sWI) [dv] [] (He.ma K (wC K) "__init__") fdI
  ft : FnP K "fits" iFits (He.ga K "fits") fd1
  dv : ∃ a, dv = .ref a ∧ ∀ H, SqT K H a []
theorem ok_wa {fdI fd1 : FuncData} {dv : V} (F : FunD K "__add__" "Word.__add__" (defArgs sWA) (defBody sWA) (defScope sWA) [] [] f fd) (T : Txt K mg) (Z : Wif K fdI dv fd1) : FnOk P w K mg base CX0 4 f fd ["self", "other"] (spOp K 43) := by
  have GI : FnOk P w K mg base CX0 2 _ fdI ["self", "sign", "parts"] (spWI K) := ok_wi Z.fi T Z.ft
  have BI : Binds K fdI ["self", "sign", "parts"] [] := by
    obtain ⟨ds, h1, h2⟩ := Z.fi.binds1 (ps := ["self", "sign", "parts"]) 3 1 (by simp) (by simp) fun T kV doc pm an cdv ct us its hl hi => by
      match us, its, hl, hi with
      | [a, b, c], [e], _, _ => exact ⟨_, rfl, rfl⟩
    cases h1
    exact h2
  refine F.ok sc_wa (fun vs H Q E h => ?_) (fun cdv A outer s H vs Q E hr h => ?_)
  · obtain ⟨x, y, rfl, _⟩ := h
    rfl
  · obtain ⟨x, y, rfl, k⟩ := h
    refine ⟨_, PSs.nox (pss_one (ps_ret (pe_make T.mks GI hr (by rfl) T.word BI .nil pass0 (pa_cons pe_str (pa_cons (pe_tup (pa_cons (pv 0) (pa_cons (pv 1) pa_nil))) pa_nil))))), ?_⟩
    refine ⟨_, rfl, _, rfl, (by show 2 ≤ sizeLine; decide), fun t ht z dz hz hdz ne => ?_⟩
    have tz : t ≠ z := fun e => by subst e; rw [upd_same] at hz; cases hz
    have s1 : Same (upd H t (.tup [.ref x, .ref y])) (upd (upd (upd H t (.tup [.ref x, .ref y])) dz (.own z)) z (.ins (wC K) dz [])) := same_two hdz (by rw [upd_ne (Ne.symm ne)]; exact hz)
    refine ⟨z, 43, t, [.ref x, .ref y], dz, rfl, upd_same, .inr (SqT.of (s1 _ _ upd_same)), (by show fitB _ 2 = true; decide), (by show 2 ≤ 1000; decide), fun H' kept isw => ⟨rfl, k H' z (fun b o q => ?_) (none_of hz) isw⟩⟩
    have q1 : upd H t (.tup [.ref x, .ref y]) b = some o := same_new ht _ _ q
    exact kept b o (s1 _ _ q1) (ne_of_none q1 hz)
theorem ok_wb {fdI fd1 : FuncData} {dv : V} (F : FunD K "__and__" "Word.__and__" (defArgs sWB) (defBody sWB) (defScope sWB) [] [] f fd) (T : Txt K mg) (Z : Wif K fdI dv fd1) : FnOk P w K mg base CX0 4 f fd ["self", "other"] (spOp K 38) := by
  have GI : FnOk P w K mg base CX0 2 _ fdI ["self", "sign", "parts"] (spWI K) := ok_wi Z.fi T Z.ft
  have BI : Binds K fdI ["self", "sign", "parts"] [] := by
    obtain ⟨ds, h1, h2⟩ := Z.fi.binds1 (ps := ["self", "sign", "parts"]) 3 1 (by simp) (by simp) fun T kV doc pm an cdv ct us its hl hi => by
      match us, its, hl, hi with
      | [a, b, c], [e], _, _ => exact ⟨_, rfl, rfl⟩
    cases h1
    exact h2
  refine F.ok sc_wb (fun vs H Q E h => ?_) (fun cdv A outer s H vs Q E hr h => ?_)
  · obtain ⟨x, y, rfl, _⟩ := h
    rfl
  · obtain ⟨x, y, rfl, k⟩ := h
    refine ⟨_, PSs.nox (pss_one (ps_ret (pe_make T.mks GI hr (by rfl) T.word BI .nil pass0 (pa_cons pe_str (pa_cons (pe_tup (pa_cons (pv 0) (pa_cons (pv 1) pa_nil))) pa_nil))))), ?_⟩
    refine ⟨_, rfl, _, rfl, (by show 2 ≤ sizeLine; decide), fun t ht z dz hz hdz ne => ?_⟩
    have tz : t ≠ z := fun e => by subst e; rw [upd_same] at hz; cases hz
    have s1 : Same (upd H t (.tup [.ref x, .ref y])) (upd (upd (upd H t (.tup [.ref x, .ref y])) dz (.own z)) z (.ins (wC K) dz [])) := same_two hdz (by rw [upd_ne (Ne.symm ne)]; exact hz)
    refine ⟨z, 38, t, [.ref x, .ref y], dz, rfl, upd_same, .inr (SqT.of (s1 _ _ upd_same)), (by show fitB _ 2 = true; decide), (by show 2 ≤ 1000; decide), fun H' kept isw => ⟨rfl, k H' z (fun b o q => ?_) (none_of hz) isw⟩⟩
    have q1 : upd H t (.tup [.ref x, .ref y]) b = some o := same_new ht _ _ q
    exact kept b o (s1 _ _ q1) (ne_of_none q1 hz)
end
end KT

set_option Elab.async false
set_option linter.all false
set_option maxRecDepth 100000
set_option maxHeartbeats 4000000
/-! # words.py: read_part, read_intersection, read_sum -/
namespace KT
open PySem PySem.Spec PyProof.Rows L2 VX KW
theorem while_cnt {c : TT} {tb : TS} {D : Ends} {σ : L2.St} {H : Hp} (Pv : Nat → L2.St → Hp → Prop) (k : Nat) (h0 : Pv k σ H)
    (hs : ∀ k σ H, Pv k σ H → c σ H fun b H1 => if b = true then tb { D with nx := fun σ' H' => ∃ j, j < k ∧ Pv j σ' H', ct := fun σ' H' => ∃ j, j < k ∧ Pv j σ' H', bk := D.nx } σ H1 else D.nx σ H1)
    (mono : ∀ σ H Q Q', (∀ b H1, Q b H1 → Q' b H1) → c σ H Q → c σ H Q') : tWhile c tb D σ H := by
  refine ⟨Pv, ⟨k, h0⟩, ?_⟩
  rintro m σ H p
  refine mono σ H _ _ (fun b H1 q => ?_) (hs m σ H p)
  cases b with
  | true => exact ⟨_, fun σ' H' z => z, q⟩
  | false => exact q
section
variable {P : Program} {w : World} {K : PySem.W.Frag} {mg : Str → Option Value} {base : Heap} {f : Addr} {fd : FuncData}
/-- the tree of the word at x -/
def IsTr (K : PySem.W.Frag) (H : Hp) : Addr → Tr → Prop
  | x, .lf c => leafC c = true ∧ IsWd K H x c []
  | x, .nd c l r => jointC c = true ∧ ∃ y z, IsWd K H x c [.ref y, .ref z] ∧ IsTr K H y l ∧ IsTr K H z r
theorem IsTr.same {H H' : Hp} (s : Same H H') : ∀ {t : Tr} {x : Addr}, IsTr K H x t → IsTr K H' x t
  | .lf _, _, h => ⟨h.1, h.2.same s⟩
  | .nd _ _ _, _, h => by
    obtain ⟨j, y, z, h1, h2, h3⟩ := h
    exact ⟨j, y, z, h1.same s, h2.same s, h3.same s⟩
theorem IsTr.ins {H : Hp} {x : Addr} : ∀ {t : Tr}, IsTr K H x t → ∃ dx fs, H x = some (.ins (wC K) dx fs)
  | .lf _, h => by obtain ⟨_, dx, a, h1, _⟩ := h; exact ⟨_, _, h1⟩
  | .nd _ _ _, h => by obtain ⟨_, y, z, ⟨dx, a, h1, _⟩, _⟩ := h; exact ⟨_, _, h1⟩
theorem drop_at {z : Str} {i c : Nat} {r : List Nat} (h : z.cps.toList.drop i = c :: r) : i < z.length ∧ z.cps[i]? = some c ∧ z.cps.toList.drop (i + 1) = r := by
  have hi : i < z.cps.toList.length := by
    rcases Nat.lt_or_ge i z.cps.toList.length with q | q
    · exact q
    · rw [List.drop_eq_nil_of_le q] at h; cases h
  rw [List.drop_eq_getElem_cons hi] at h
  injection h with h1 h2
  refine ⟨by show i < z.cps.size; simpa using hi, ?_, h2⟩
  have : z.cps.toList[i]? = some c := by rw [List.getElem?_eq_getElem hi, h1]
  simpa using this
def spPart (K : PySem.W.Frag) (n : Nat) : Sp := fun vs H Q _ => ∃ (z : Str) (i d : Nat) (t : Tr) (r : List Nat), vs = [.str z, .int i] ∧ z.length ≤ 1000 ∧ d + n = 9 ∧ RP d (z.cps.toList.drop i) t r ∧
  ∀ H' p x (j : Nat), Same H H' → H p = none → H' p = some (.tup [.ref x, .int j]) → IsTr K H' x t → z.cps.toList.drop j = r → Q (.ref p) H'
def spInter (K : PySem.W.Frag) (n : Nat) : Sp := fun vs H Q _ => ∃ (z : Str) (i d : Nat) (t : Tr) (r : List Nat), vs = [.str z, .int i] ∧ z.length ≤ 1000 ∧ d + n = 9 ∧ RI d (z.cps.toList.drop i) t r ∧
  ∀ H' p x (j : Nat), Same H H' → H p = none → H' p = some (.tup [.ref x, .int j]) → IsTr K H' x t → z.cps.toList.drop j = r → Q (.ref p) H'
def spSum (K : PySem.W.Frag) (n : Nat) : Sp := fun vs H Q _ => ∃ (z : Str) (i d : Nat) (t : Tr) (r : List Nat), vs = [.str z, .int i] ∧ z.length ≤ 1000 ∧ d + n = 9 ∧ RS d (z.cps.toList.drop i) t r ∧
  ∀ H' p x (j : Nat), Same H H' → H p = none → H' p = some (.tup [.ref x, .int j]) → IsTr K H' x t → z.cps.toList.drop j = r → Q (.ref p) H'
def spLess (K : PySem.W.Frag) : Nat → Sp
  | 0 => fun _ _ _ _ => False
  | n + 1 => spSum K n
theorem Wif.b0 {fdI fd1 : FuncData} {dv : V} (Z : Wif K fdI dv fd1) : ∃ ds, Vals [dv] ds ∧ Binds K fdI ["self", "sign", "parts"] ds := by
  obtain ⟨ds, h1, h2⟩ := Z.fi.binds1 (ps := ["self", "sign", "parts"]) 2 0 (by simp) (by simp) fun T kV doc pm an cdv ct us its hl hi => by
    match us, its, hl, hi with
    | [a, b], [e], _, _ => exact ⟨_, rfl, rfl⟩
  exact ⟨ds, h1, h2⟩
abbrev nP : List Str := ["signs", "at", "word"]
theorem sc_part : FnScope nP ["signs", "at"] (defScope (top iPart)) := ⟨rfl, rfl, rfl, by decide +kernel, rfl, by decide +kernel, by decide +kernel⟩
theorem ok_part {fdI fd1 fdS : FuncData} {dv : V} (F : FnP K "read_part" iPart f fd) (T : Txt K mg) (Z : Wif K fdI dv fd1) (FS : FnP K "read_sum" iSum (He.ga K "read_sum") fdS) (n : Nat)
    (GS : FnOk P w K mg base CX0 (4 + 3 * n) (He.ga K "read_sum") fdS ["signs", "at"] (spLess K n)) : FnOk P w K mg base CX0 (5 + 3 * n) f fd ["signs", "at"] (spPart K n) := by
  have GI : FnOk P w K mg base CX0 2 _ fdI ["self", "sign", "parts"] (spWI K) := ok_wi Z.fi T Z.ft
  obtain ⟨ds, h1, BI⟩ := Z.b0
  obtain ⟨ad, rfl, hdv⟩ := Z.dv
  have BS : Binds K fdS ["signs", "at"] [] := FS.bindsN fun _ _ _ _ _ _ us hl => match us, hl with | [_, _], _ => rfl
  rw [show 5 + 3 * n = (4 + 3 * n) + 1 by omega]
  refine F.ok sc_part (fun vs H Q E h => ?_) (fun cdv A outer s H vs Q E hr h => ?_)
  · obtain ⟨z, i, d, t, r, rfl, _⟩ := h
    rfl
  · obtain ⟨z, i, d, t, r, rfl, hz, hd, hR, k⟩ := h
    have nd := sc_part.nd
    have hr3 : Room (2 + 1) _ := hr.mono (by omega)
    have lz2 : z.length ≤ sizeLine := Nat.le_of_lt (lt_line (by omega))
    refine ⟨_, PSs.nox (pss_cons (ps_if (pt_cmpR op_ne (pe_ix ix_str (pv 0) (pv 1) (fun _ _ => rfl)) pe_str (nomark _))
        (pss_one (ps_ret (pe_tup (pa_cons (pe_make T.mks GI hr3 (by rfl) T.word BI h1 pass0 (pa_cons (pe_ix ix_str (pv 0) (pv 1) (fun _ _ => rfl)) pa_nil)) (pa_cons (pe_op op_add (pv 1) pe_int) pa_nil))))) pss_nil)
      (pss_cons (ps_asg (pe_call GS hr (by rfl) (T.df "read_sum" iSum) FS.kp BS .nil pass0 (pa_cons (pv 0) (pa_cons (pe_op op_add (pv 1) pe_int) pa_nil))) (pg_tup (by rfl) (pgs_cons (pg_name (i := 2) nd rfl (.inl rfl)) (pgs_cons (pg_name (i := 1) nd rfl (.inl rfl)) pgs_nil))))
      (pss_one (ps_ret (pe_tup (pa_cons (pv 2) (pa_cons (pe_op op_add (pv 1) pe_int) pa_nil))))))), ?_⟩
    have d40 : ∀ c, decide (V.str (one c) = V.str "(") = (c == 40) := fun c => dec_one
    have at_ : ∀ {c : Nat} {l : List Nat}, z.cps.toList.drop i = c :: l → atI z.cps.toList (i : Int) = some c := fun e => by
      have := (drop_at e).2.1
      exact atI_nat (by simpa using this)
    generalize hl : z.cps.toList.drop i = l at hR
    cases hR with
    | @leaf _ c r hc =>
      obtain ⟨a1, a2, a3⟩ := drop_at hl
      have n := leaf_no hc
      refine ⟨_, rfl, _, rfl, z, _, c, rfl, rfl, lz2, at_ hl, rfl, _, rfl, ?_⟩
      rw [show decide (V.str ⟨#[c]⟩ = V.str "(") = (c == 40) from d40 c, beq_eq_false_iff_ne.mpr n.2.1]
      refine iteT ?_
      refine ⟨_, rfl, _, rfl, z, _, c, rfl, rfl, lz2, at_ hl, fun x dx hx hdx ne => ?_⟩
      have s1 : Same H (upd (upd H dx (.own x)) x (.ins (wC K) dx [])) := same_two hdx (by rw [upd_ne (Ne.symm ne)]; exact hx)
      refine ⟨x, c, ad, [], dx, rfl, upd_same, .inr (hdv _), (by show fitB c 0 = true; simp [fitB, hc]), (by show 0 ≤ 1000; decide), fun H' kept isw => ⟨rfl, ?_⟩⟩
      refine ⟨_, rfl, _, _, rfl, rfl, (by show 2 ≤ sizeLine; decide), fun p hp => ?_⟩
      have s2 : Same H H' := fun b o q => kept b o (s1 _ _ q) (ne_of_none q hx)
      have s3 := same_new (o := .tup [.ref x, .int ((i : Int) + 1)]) hp
      exact k _ p x (i + 1) (s2.trans s3) (s2.free hp) (by rw [upd_same]; rfl) ⟨hc, isw.same s3⟩ a3
    | @paren _ l r _ hd9 hS =>
      obtain ⟨a1, a2, a3⟩ := drop_at hl
      obtain ⟨m, rfl⟩ : ∃ m, n = m + 1 := ⟨n - 1, by omega⟩
      refine ⟨_, rfl, _, rfl, z, _, 40, rfl, rfl, lz2, at_ hl, rfl, _, rfl, ?_⟩
      rw [show decide (V.str ⟨#[40]⟩ = V.str "(") = true from d40 40]
      refine iteF ?_
      refine ⟨_, rfl, _, rfl, _, _, rfl, rfl, z, i + 1, d + 1, t, 41 :: r, rfl, hz, by omega, by rw [a3]; exact hS, fun H1 p x j s1 hp hpt htr hj => ?_⟩
      obtain ⟨_, _, b3⟩ := drop_at hj
      refine ⟨p, _, rfl, SqT.of hpt, rfl, _, _, rfl, _, _, rfl, rfl, ?_⟩
      refine ⟨_, rfl, _, rfl, _, _, rfl, rfl, (by show 2 ≤ sizeLine; decide), fun q hq => ?_⟩
      have s3 := same_new (o := .tup [.ref x, .int ((j : Int) + 1)]) hq
      exact k _ q x (j + 1) (s1.trans s3) (s1.free hq) (by rw [upd_same]; rfl) (htr.same s3) b3
end
end KT

set_option Elab.async false
set_option linter.all false
set_option maxRecDepth 100000
set_option maxHeartbeats 4000000
/-! # words.py: read_intersection, read_sum -/
namespace KT
open PySem PySem.Spec PyProof.Rows L2 VX KW
section
variable {P : Program} {w : World} {K : PySem.W.Frag} {mg : Str → Option Value} {base : Heap} {f : Addr} {fd : FuncData}
theorem cut_one {z : Str} {i : Nat} : cutS z (some (i : Int)) (some ((i : Int) + 1)) = ⟨((z.cps.toList.drop i).take 1).toArray⟩ := by
  have e1 : HT.sIx z.length 0 (some (i : Int)) = min i z.length := HT.sIx_nat _ _ _
  have e2 : HT.sIx z.length z.length (some ((i : Int) + 1)) = min (i + 1) z.length := by
    have := HT.sIx_nat z.length z.length (i + 1)
    rwa [show ((i + 1 : Nat) : Int) = (i : Int) + 1 by omega] at this
  unfold cutS
  rw [e1, e2]
  have hz : z.cps.toList.length = z.length := by show _ = z.cps.size; simp
  congr 2
  by_cases h : i < z.length
  · rw [Nat.min_eq_left (by omega), Nat.min_eq_left (by omega), show i + 1 - i = 1 by omega]
  · rw [Nat.min_eq_right (by omega), Nat.min_eq_right (by omega), List.drop_eq_nil_of_le (by omega), List.drop_eq_nil_of_le (by omega)]
    simp
theorem cut_is {z : Str} {i c : Nat} : decide (V.str (cutS z (some (i : Int)) (some ((i : Int) + 1))) = V.str (one c)) = decide ((z.cps.toList.drop i).head? = some c) := by
  rw [cut_one]
  apply decide_eq_decide.mpr
  cases z.cps.toList.drop i with
  | nil =>
    constructor
    · intro h
      injection h with h
      have := congrArg (fun s : Str => s.cps.size) h
      simp at this
    · intro h; cases h
  | cons a l =>
    show (V.str (one a) = V.str (one c)) ↔ _
    rw [List.head?_cons]
    constructor
    · intro h
      injection h with h
      rw [one_eq.mp h]
    · intro h
      rw [Option.some.inj h]
abbrev nI : List Str := ["signs", "at", "word", "more"]
theorem sc_inter : FnScope nI ["signs", "at"] (defScope (top iInter)) := ⟨rfl, rfl, rfl, by decide +kernel, rfl, by decide +kernel, by decide +kernel⟩
theorem ok_inter {fdI fd1 fdP fdB : FuncData} {dv : V} (F : FnP K "read_intersection" iInter f fd) (T : Txt K mg) (Z : Wif K fdI dv fd1) (FP : FnP K "read_part" iPart (He.ga K "read_part") fdP)
    (FB : FunD K "__and__" "Word.__and__" (defArgs sWB) (defBody sWB) (defScope sWB) [] [] (He.ma K (wC K) "__and__") fdB) (n : Nat)
    (GP : FnOk P w K mg base CX0 (5 + 3 * n) (He.ga K "read_part") fdP ["signs", "at"] (spPart K n)) : FnOk P w K mg base CX0 (6 + 3 * n) f fd ["signs", "at"] (spInter K n) := by
  have BP : Binds K fdP ["signs", "at"] [] := FP.bindsN fun _ _ _ _ _ _ us hl => match us, hl with | [_, _], _ => rfl
  have GB : FnOk P w K mg base CX0 4 _ fdB ["self", "other"] (spOp K 38) := ok_wb FB T Z
  have BB : Binds K fdB ["self", "other"] [] := FB.bindsN fun _ _ _ _ _ _ us hl => match us, hl with | [_, _], _ => rfl
  have RB : FnR P w K mg base CX0 4 (He.ma K (wC K) "__and__") (spOp K 38) := (GB.raw BB .nil).imp fun vs H Q E h => by rw [List.append_nil]; exact h
  rw [show 6 + 3 * n = (5 + 3 * n) + 1 by omega]
  refine F.ok sc_inter (fun vs H Q E h => ?_) (fun cdv A outer s H vs Q E hr h => ?_)
  · obtain ⟨z, i, d, t, r, rfl, _⟩ := h
    rfl
  · obtain ⟨z, i, d, t, r, rfl, hz, hd, hR, k⟩ := h
    have nd := sc_inter.nd
    have hr4 : Room 4 _ := hr.mono (by omega)
    have lz2 : z.length ≤ sizeLine := Nat.le_of_lt (lt_line (by omega))
    refine ⟨_, PSs.nox (pss_cons (ps_asg (pe_call GP hr (by rfl) (T.df "read_part" iPart) FP.kp BP .nil pass0 (pa_cons (pv 0) (pa_cons (pv 1) pa_nil))) (pg_tup (by rfl) (pgs_cons (pg_name (i := 2) nd rfl (.inl rfl)) (pgs_cons (pg_name (i := 1) nd rfl (.inl rfl)) pgs_nil))))
      (pss_cons (ps_while PassesOwn.never (pt_cmpR op_eq (pe_slice sl_str (pv 0) (po_some (pv 1)) (po_some (pe_op op_add (pv 1) pe_int))) pe_str (nomark _))
        (pss_cons (ps_asg (pe_call GP hr (by rfl) (T.df "read_part" iPart) FP.kp BP .nil pass0 (pa_cons (pv 0) (pa_cons (pe_op op_add (pv 1) pe_int) pa_nil))) (pg_tup (by rfl) (pgs_cons (pg_name (i := 3) nd rfl (.inl rfl)) (pgs_cons (pg_name (i := 1) nd rfl (.inl rfl)) pgs_nil))))
        (pss_one (ps_set (i := 2) nd rfl (.inl rfl) (pe_op (op_ownB RB T.first T.and T.andf pass0 hr4) (pv 2) (pv 3))))))
      (pss_one (ps_ret (pe_tup (pa_cons (pv 2) (pa_cons (pv 1) pa_nil))))))), ?_⟩
    cases hR with
    | @mk _ kk _ r0 _ t0 _ hP hL =>
    refine ⟨_, rfl, _, rfl, z, i, d, t0, r0, rfl, hz, hd, hP, fun H1 p x j s1 hp hpt htr hj => ?_⟩
    refine ⟨p, _, rfl, SqT.of hpt, rfl, _, _, rfl, _, _, rfl, rfl, ?_⟩
    refine while_cnt (fun m σ H' => Same H H' ∧ ∃ (x : Addr) (j : Nat) (y3 : Option V) (u : Tr) (q : List Nat), σ = [some (.str z), some (.int j), some (.ref x), y3] ∧ IsTr K H' x u ∧ z.cps.toList.drop j = q ∧ RIs d m u q t r) kk ⟨s1, x, j, none, t0, r0, rfl, htr, hj, hL⟩ ?_ ?_
    · rintro m σ H2 ⟨s2, x, j, y3, u, q, rfl, hx, hq, hL⟩
      refine ⟨_, rfl, _, rfl, _, rfl, _, rfl, _, _, rfl, rfl, _, rfl, z, rfl, lz2, rfl, _, rfl, ?_⟩
      rw [show decide (V.str (cutS z (some (j : Int)) (some ((j : Int) + 1))) = V.str "&") = _ from cut_is (c := 38), hq]
      cases hL with
      | stop hn =>
        rw [decide_eq_false hn]
        refine iteF ⟨_, rfl, _, rfl, (by show 2 ≤ sizeLine; decide), fun p2 hp2 => ?_⟩
        have s3 := same_new (o := .tup [.ref x, .int j]) hp2
        exact k _ p2 x j (s2.trans s3) (s2.free hp2) upd_same (hx.same s3) hq
      | @more _ k2 _ v _ r2 r1 _ hP2 hL2 =>
        obtain ⟨a1, a2, a3⟩ := drop_at hq
        rw [decide_eq_true (show (38 :: r2).head? = some 38 from rfl)]
        refine iteT ⟨_, rfl, _, rfl, _, _, rfl, rfl, z, j + 1, d, v, r1, rfl, hz, hd, by rw [a3]; exact hP2, fun H3 p2 x2 j2 s3 hp2 hpt2 htr2 hj2 => ?_⟩
        refine ⟨p2, _, rfl, SqT.of hpt2, rfl, _, _, rfl, _, _, rfl, rfl, ?_⟩
        have hx3 := hx.same s3
        obtain ⟨dx, fs, i1⟩ := hx3.ins
        obtain ⟨dy, gs, i2⟩ := htr2.ins
        refine ⟨_, rfl, _, rfl, x, x2, dx, dy, fs, gs, rfl, rfl, i1, i2, x, x2, rfl, fun H4 x4 s4 h4 isw => ?_⟩
        exact ⟨k2, Nat.lt_succ_self _, s2.trans (s3.trans s4), x4, j2, _, .nd 38 u v, r1, rfl, ⟨by decide, x, x2, isw, hx3.same s4, htr2.same s4⟩, hj2, hL2⟩
    · rintro σ H' Q1 Q2 hq ⟨a1, b1, a2, b2, a3, b3, a4, b4, a5, a6, b5, b6, a7, b7, a8, b8, b9, b10, a11, b11, b12⟩
      exact ⟨a1, b1, a2, b2, a3, b3, a4, b4, a5, a6, b5, b6, a7, b7, a8, b8, b9, b10, a11, b11, hq _ _ b12⟩
/-! ### read_sum -/
theorem sc_sum : FnScope nI ["signs", "at"] (defScope (top iSum)) := ⟨rfl, rfl, rfl, by decide +kernel, rfl, by decide +kernel, by decide +kernel⟩
theorem ok_sum {fdI fd1 fdP fdB : FuncData} {dv : V} (F : FnP K "read_sum" iSum f fd) (T : Txt K mg) (Z : Wif K fdI dv fd1) (FP : FnP K "read_intersection" iInter (He.ga K "read_intersection") fdP)
    (FB : FunD K "__add__" "Word.__add__" (defArgs sWA) (defBody sWA) (defScope sWA) [] [] (He.ma K (wC K) "__add__") fdB) (n : Nat)
    (GP : FnOk P w K mg base CX0 (6 + 3 * n) (He.ga K "read_intersection") fdP ["signs", "at"] (spInter K n)) : FnOk P w K mg base CX0 (7 + 3 * n) f fd ["signs", "at"] (spSum K n) := by
  have BP : Binds K fdP ["signs", "at"] [] := FP.bindsN fun _ _ _ _ _ _ us hl => match us, hl with | [_, _], _ => rfl
  have GB : FnOk P w K mg base CX0 4 _ fdB ["self", "other"] (spOp K 43) := ok_wa FB T Z
  have BB : Binds K fdB ["self", "other"] [] := FB.bindsN fun _ _ _ _ _ _ us hl => match us, hl with | [_, _], _ => rfl
  have RB : FnR P w K mg base CX0 4 (He.ma K (wC K) "__add__") (spOp K 43) := (GB.raw BB .nil).imp fun vs H Q E h => by rw [List.append_nil]; exact h
  rw [show 7 + 3 * n = (6 + 3 * n) + 1 by omega]
  refine F.ok sc_sum (fun vs H Q E h => ?_) (fun cdv A outer s H vs Q E hr h => ?_)
  · obtain ⟨z, i, d, t, r, rfl, _⟩ := h
    rfl
  · obtain ⟨z, i, d, t, r, rfl, hz, hd, hR, k⟩ := h
    have nd := sc_sum.nd
    have hr4 : Room 4 _ := hr.mono (by omega)
    have lz2 : z.length ≤ sizeLine := Nat.le_of_lt (lt_line (by omega))
    refine ⟨_, PSs.nox (pss_cons (ps_asg (pe_call GP hr (by rfl) (T.df "read_intersection" iInter) FP.kp BP .nil pass0 (pa_cons (pv 0) (pa_cons (pv 1) pa_nil))) (pg_tup (by rfl) (pgs_cons (pg_name (i := 2) nd rfl (.inl rfl)) (pgs_cons (pg_name (i := 1) nd rfl (.inl rfl)) pgs_nil))))
      (pss_cons (ps_while PassesOwn.never (pt_cmpR op_eq (pe_slice sl_str (pv 0) (po_some (pv 1)) (po_some (pe_op op_add (pv 1) pe_int))) pe_str (nomark _))
        (pss_cons (ps_asg (pe_call GP hr (by rfl) (T.df "read_intersection" iInter) FP.kp BP .nil pass0 (pa_cons (pv 0) (pa_cons (pe_op op_add (pv 1) pe_int) pa_nil))) (pg_tup (by rfl) (pgs_cons (pg_name (i := 3) nd rfl (.inl rfl)) (pgs_cons (pg_name (i := 1) nd rfl (.inl rfl)) pgs_nil))))
        (pss_one (ps_set (i := 2) nd rfl (.inl rfl) (pe_op (op_ownB RB T.first T.add T.addf pass0 hr4) (pv 2) (pv 3))))))
      (pss_one (ps_ret (pe_tup (pa_cons (pv 2) (pa_cons (pv 1) pa_nil))))))), ?_⟩
    cases hR with
    | @mk _ kk _ r0 _ t0 _ hP hL =>
    refine ⟨_, rfl, _, rfl, z, i, d, t0, r0, rfl, hz, hd, hP, fun H1 p x j s1 hp hpt htr hj => ?_⟩
    refine ⟨p, _, rfl, SqT.of hpt, rfl, _, _, rfl, _, _, rfl, rfl, ?_⟩
    refine while_cnt (fun m σ H' => Same H H' ∧ ∃ (x : Addr) (j : Nat) (y3 : Option V) (u : Tr) (q : List Nat), σ = [some (.str z), some (.int j), some (.ref x), y3] ∧ IsTr K H' x u ∧ z.cps.toList.drop j = q ∧ RSs d m u q t r) kk ⟨s1, x, j, none, t0, r0, rfl, htr, hj, hL⟩ ?_ ?_
    · rintro m σ H2 ⟨s2, x, j, y3, u, q, rfl, hx, hq, hL⟩
      refine ⟨_, rfl, _, rfl, _, rfl, _, rfl, _, _, rfl, rfl, _, rfl, z, rfl, lz2, rfl, _, rfl, ?_⟩
      rw [show decide (V.str (cutS z (some (j : Int)) (some ((j : Int) + 1))) = V.str "+") = _ from cut_is (c := 43), hq]
      cases hL with
      | stop hn =>
        rw [decide_eq_false hn]
        refine iteF ⟨_, rfl, _, rfl, (by show 2 ≤ sizeLine; decide), fun p2 hp2 => ?_⟩
        have s3 := same_new (o := .tup [.ref x, .int j]) hp2
        exact k _ p2 x j (s2.trans s3) (s2.free hp2) upd_same (hx.same s3) hq
      | @more _ k2 _ v _ r2 r1 _ hP2 hL2 =>
        obtain ⟨a1, a2, a3⟩ := drop_at hq
        rw [decide_eq_true (show (43 :: r2).head? = some 43 from rfl)]
        refine iteT ⟨_, rfl, _, rfl, _, _, rfl, rfl, z, j + 1, d, v, r1, rfl, hz, hd, by rw [a3]; exact hP2, fun H3 p2 x2 j2 s3 hp2 hpt2 htr2 hj2 => ?_⟩
        refine ⟨p2, _, rfl, SqT.of hpt2, rfl, _, _, rfl, _, _, rfl, rfl, ?_⟩
        have hx3 := hx.same s3
        obtain ⟨dx, fs, i1⟩ := hx3.ins
        obtain ⟨dy, gs, i2⟩ := htr2.ins
        refine ⟨_, rfl, _, rfl, x, x2, dx, dy, fs, gs, rfl, rfl, i1, i2, x, x2, rfl, fun H4 x4 s4 h4 isw => ?_⟩
        exact ⟨k2, Nat.lt_succ_self _, s2.trans (s3.trans s4), x4, j2, _, .nd 43 u v, r1, rfl, ⟨by decide, x, x2, isw, hx3.same s4, htr2.same s4⟩, hj2, hL2⟩
    · rintro σ H' Q1 Q2 hq ⟨a1, b1, a2, b2, a3, b3, a4, b4, a5, a6, b5, b6, a7, b7, a8, b8, b9, b10, a11, b11, b12⟩
      exact ⟨a1, b1, a2, b2, a3, b3, a4, b4, a5, a6, b5, b6, a7, b7, a8, b8, b9, b10, a11, b11, hq _ _ b12⟩
/-! ### the knot -/
structure Rdf (K : PySem.W.Frag) (fdI fd1 fdP fdN fdS fdA fdB : FuncData) (dv : V) : Prop where
  w : Wif K fdI dv fd1
  fp : FnP K "read_part" iPart (He.ga K "read_part") fdP
  fn : FnP K "read_intersection" iInter (He.ga K "read_intersection") fdN
  fs : FnP K "read_sum" iSum (He.ga K "read_sum") fdS
  fa : FunD K "__add__" "Word.__add__" (defArgs sWA) (defBody sWA) (defScope sWA) [] [] (He.ma K (wC K) "__add__") fdA
  fb : FunD K "__and__" "Word.__and__" (defArgs sWB) (defBody sWB) (defScope sWB) [] [] (He.ma K (wC K) "__and__") fdB
theorem ok_reads {fdI fd1 fdP fdN fdS fdA fdB : FuncData} {dv : V} (T : Txt K mg) (Z : Rdf K fdI fd1 fdP fdN fdS fdA fdB dv) : ∀ n, FnOk P w K mg base CX0 (7 + 3 * n) (He.ga K "read_sum") fdS ["signs", "at"] (spSum K n) := by
  have one : ∀ n, FnOk P w K mg base CX0 (4 + 3 * n) (He.ga K "read_sum") fdS ["signs", "at"] (spLess K n) → FnOk P w K mg base CX0 (7 + 3 * n) (He.ga K "read_sum") fdS ["signs", "at"] (spSum K n) := fun n h =>
    ok_sum Z.fs T Z.w Z.fn Z.fa n (ok_inter Z.fn T Z.w Z.fp Z.fb n (ok_part Z.fp T Z.w Z.fs n h))
  intro n
  induction n with
  | zero => exact one 0 ⟨fun _ _ _ _ h => h.elim, fun _ _ _ _ _ _ _ _ _ _ _ _ _ h => h.elim⟩
  | succ n ih => exact one (n + 1) (by rw [show 4 + 3 * (n + 1) = 7 + 3 * n by omega]; exact ih)
end
end KT

set_option Elab.async false
set_option linter.all false
set_option maxRecDepth 100000
set_option maxHeartbeats 4000000
/-! # words.py: Word.read -/
namespace KT
open PySem PySem.Spec PyProof.Rows L2 VX KW CwR
section
variable {P : Program} {w : World} {K : PySem.W.Frag} {mg : Str → Option Value} {base : Heap} {f : Addr} {fd : FuncData}
def spRW (K : PySem.W.Frag) : Sp := fun vs H Q E => ∃ (z : Str), vs = [.str z, .int 9] ∧ z.length ≤ 1000 ∧
  (due z.cps.toList ≠ 0 → ∀ H' d, Same H H' → H' d = none → E (.ref (He.ga K "BadColumn")) (some d) (upd H' d (.xd [("column", .int (due z.cps.toList : Nat))]))) ∧
  (due z.cps.toList = 0 → ∀ t, RS 0 (z.cps.toList.filter (· != 32)) t [] → ∀ H' x, Same H H' → IsTr K H' x t → Q (.ref x) H')
def spRead (K : PySem.W.Frag) : Sp := fun vs H Q E => ∃ (u : V) (z : Str), vs = [u, .str z] ∧ z.length ≤ 1000 ∧
  (due z.cps.toList ≠ 0 → ∀ H' d, Same H H' → H' d = none → E (.ref (He.ga K "BadColumn")) (some d) (upd H' d (.xd [("column", .int (due z.cps.toList : Nat))]))) ∧
  (due z.cps.toList = 0 → ∀ t, RS 0 (z.cps.toList.filter (· != 32)) t [] → ∀ H' x, Same H H' → IsTr K H' x t → Q (.ref x) H')
abbrev nR : List Str := ["cls", "text"]
abbrev nRW : List Str := ["text", "most", "word", "_"]
theorem sc_rw : FnScope nRW ["text", "most"] (defScope (top iRW)) := ⟨rfl, rfl, rfl, by decide +kernel, rfl, by decide +kernel, by decide +kernel⟩
theorem sc_read : FnScope nR ["cls", "text"] (defScope sWR) := ⟨rfl, rfl, rfl, by decide +kernel, rfl, by decide +kernel, by decide +kernel⟩
theorem ok_rw {fdC fdc fdI fd1 fdP fdN fdS fdA fdB : FuncData} {dv : V} (F : FnP K "read_word" iRW f fd) (T : Txt K mg) (Z : Rdf K fdI fd1 fdP fdN fdS fdA fdB dv)
    (FC : FnP K "check_text" iCheck (He.ga K "check_text") fdC) (GB : FnOk P w K mg base CX0 1 (He.ma K (He.ga K "BadColumn") "__init__") fdc ["self", "column"] (spIni K (He.ga K "BadColumn") "column")) (BB : Binds K fdc ["self", "column"] []) :
    FnOk P w K mg base (L2.CX P w) 35 f fd ["text", "most"] (spRW K) := by
  have GC : FnOk P w K mg base (L2.CX P w) 4 _ fdC ["text", "most"] (spCheck K) := ok_check FC T GB BB
  have BC : Binds K fdC ["text", "most"] [] := FC.bindsN fun _ _ _ _ _ _ us hl => match us, hl with | [_, _], _ => rfl
  have GS : FnOk P w K mg base CX0 34 _ fdS ["signs", "at"] (spSum K 9) := ok_reads T Z 9
  have BS : Binds K fdS ["signs", "at"] [] := Z.fs.bindsN fun _ _ _ _ _ _ us hl => match us, hl with | [_, _], _ => rfl
  refine okT F sc_rw (by decide +kernel) (by decide) (fun vs H Q E h => ?_) (fun cdv A outer s H vs Q E hr h => ?_)
  · obtain ⟨z, rfl, _⟩ := h
    rfl
  · obtain ⟨z, rfl, hz, k1, k0⟩ := h
    have nd := sc_rw.nd
    have hr4 : Room 4 _ := hr.mono (by decide)
    refine ⟨_, psst_cons (PST.of (ps_expr (pe_call GC hr4 (by rfl) (T.df "check_text" iCheck) FC.kp BC .nil (passes_call (takes_of rfl rfl rfl rfl) (fun _ _ _ _ h => h)) (pa_cons (pv 0) (pa_cons (pv 1) pa_nil)))))
      (psst_cons (pst_asg (pet_call GS hr (by rfl) (T.df "read_sum" iSum) Z.fs.kp BS .nil pass0 (pat_cons (pet_replC (pv 0)) (pat_cons (PET.of pe_int) pat_nil))) (pg_tup (by rfl) (pgs_cons (pg_name (i := 2) nd rfl (.inl rfl)) (pgs_cons (pg_name (i := 3) nd rfl (.inl rfl)) pgs_nil))))
      (psst_one (PST.of (ps_ret (pv 2))))), ?_⟩
    refine ⟨_, rfl, _, rfl, z, rfl, hz, fun h0 H1 s1 => ?_, fun h0 H1 d s1 hd => k1 h0 H1 d s1 hd⟩
    have e : (Txt.replace z " " "").cps.toList = z.cps.toList.filter (· != 32) := PyProof.Rows.replace_strikes z 32
    have hl : (Txt.replace z " " "").length ≤ z.length := by
      show (Txt.replace z " " "").cps.size ≤ z.cps.size
      rw [← Array.length_toList, e, ← Array.length_toList]
      exact List.length_filter_le _ _
    obtain ⟨t, ht⟩ := reads h0
    refine ⟨_, rfl, z, rfl, (by show z.length + (z.length + 1) * 0 ≤ 16777216; omega), Txt.replace z " " "", 0, 0, t, [], rfl, by omega, by decide, by rw [List.drop_zero, e]; exact ht, fun H2 p x j s2 hp hpt htr hj => ?_⟩
    refine ⟨p, _, rfl, SqT.of hpt, rfl, _, _, rfl, _, _, rfl, rfl, ?_⟩
    exact ⟨_, rfl, k0 h0 t ht H2 x (s1.trans s2) htr⟩
theorem ok_read {fdC fdc fdI fd1 fdP fdN fdS fdA fdB fdR : FuncData} {dv : V} (F : FunD K "read" "Word.read" (defArgs sWR) (defBody sWR) (defScope sWR) [] [] f fd) (T : Txt K mg) (Z : Rdf K fdI fd1 fdP fdN fdS fdA fdB dv)
    (FR : FnP K "read_word" iRW (He.ga K "read_word") fdR)
    (FC : FnP K "check_text" iCheck (He.ga K "check_text") fdC) (GB : FnOk P w K mg base CX0 1 (He.ma K (He.ga K "BadColumn") "__init__") fdc ["self", "column"] (spIni K (He.ga K "BadColumn") "column")) (BB : Binds K fdc ["self", "column"] []) :
    FnOk P w K mg base (L2.CX P w) 36 f fd ["cls", "text"] (spRead K) := by
  have GW : FnOk P w K mg base (L2.CX P w) 35 _ fdR ["text", "most"] (spRW K) := ok_rw FR T Z FC GB BB
  have BW : Binds K fdR ["text", "most"] [] := FR.bindsN fun _ _ _ _ _ _ us hl => match us, hl with | [_, _], _ => rfl
  obtain ⟨tm, hm⟩ := T.most
  refine F.ok sc_read (fun vs H Q E h => ?_) (fun cdv A outer s H vs Q E hr h => ?_)
  · obtain ⟨u, z, rfl, _⟩ := h
    rfl
  · obtain ⟨u, z, rfl, k⟩ := h
    refine ⟨_, pss_one (ps_ret (pe_call GW hr (by rfl) (T.df "read_word" iRW) FR.kp BW .nil (passes_call (takes_of rfl rfl rfl rfl) (fun _ _ _ _ h => h)) (pa_cons (pv 1) (pa_cons (pe_glob (v := .int 9) (by rfl) hm ⟨tm, rfl⟩) pa_nil)))), ?_⟩
    exact ⟨_, rfl, z, rfl, k⟩
end
end KT

set_option Elab.async false
set_option linter.all false
set_option maxRecDepth 100000
set_option maxHeartbeats 4000000
/-! # f(g = u), f(g = u, h = v), f(h = v, g = u) -/
namespace VX
open PySem PySem.Spec PyProof.Rows L2
theorem pe_kcall1 {X : Cx} {CX : CXT} {x g : Str} {f : Addr} {k : Nat} {fd : FuncData} {sp : Sp} {E : XK} {p k1 pos : Pos} {e1 : Expr} {tk : TA} (F : FnOk X.prog X.w X.K X.mg X.base CX k f fd [g] sp) (hr : Room k X.A) (hg : Gl X x) (hm : X.mg x = some (.ref f)) (hk : PySem.W.keepIn X.K (.ref f) = true)
    (hb : ∀ (s : Shared) (u : Value), BindsTo s fd ⟨[], [(g, u)]⟩ [(g, u)]) (hx : Passes CX X E) (ha : PK X [⟨some g, e1, k1⟩] tk) (hdb : (x == ("__debug__" : Str)) = false := by decide)
    (hpl : ((backTo pos (starEach [] X.env)).any (·.1) || (backToKw pos (keywordEach [⟨some g, e1, k1⟩] X.env)).any (·.1.isNone)) = false := by rfl)
    (hall : (backToKw pos (keywordEach [⟨some g, e1, k1⟩] X.env)).all (·.1.isSome) = true := by rfl) (hks : (backToKw pos (keywordEach [⟨some g, e1, k1⟩] X.env)).filterMap (·.1) = [g] := by rfl) :
    PE X (.Call (.Name x p) [] [⟨some g, e1, k1⟩] pos) (fun σ H Q => tk σ H fun zs H1 => zs.length = 1 ∧ sp zs H1 Q E) := by
  refine ⟨fun pins s σ H Q I q0 => wpAny_Call_Name_kw (ld_glob I hg hm ?_ hdb)⟩
  refine PySem.W.callWith_KW0 (h₀ := X.base) I.ok.mod.kin hk hall ?_ hpl
  refine thn (ha.run pos pins s σ H _ I q0) fun ws s1 ⟨zs, H1, I1, rz, l1, q⟩ => ⟨I1.kIn, ?_⟩
  rw [hks]
  obtain ⟨z1, rfl⟩ : ∃ z1, zs = [z1] := by
    match zs, l1 with
    | [a], _ => exact ⟨a, rfl⟩
  obtain ⟨u1, rfl, r1⟩ := vals1 rz
  show wpAny _ _ (call (.ref f) [] [(g, u1)]) _ _ _
  refine wpAny_call (codeAny_mono (F.run X.A X.stack s1 H1 ⟨[], [(g, u1)]⟩ [u1] [z1] Q E hr I1.env0 (hb s1 u1) (.cons r1 .nil) q) fun r s' hq => ?_)
  match r, hq with
  | .ok (.ret u), hq => exact I1.after hq
  | .error er, hq => exact hx pins σ H1 s1 er s' I1 hq
/-- the keywords' order, the parameters' order: o says whether they are the same -/
theorem pe_kcall2 {X : Cx} {CX : CXT} {x g h a b : Str} {f : Addr} {k : Nat} {fd : FuncData} {sp : Sp} {E : XK} {p k1 k2 pos : Pos} {e1 e2 : Expr} {tk : TA} (o : Bool) (F : FnOk X.prog X.w X.K X.mg X.base CX k f fd [g, h] sp) (hr : Room k X.A) (hg : Gl X x) (hm : X.mg x = some (.ref f)) (hk : PySem.W.keepIn X.K (.ref f) = true)
    (hb : ∀ (s : Shared) (u v : Value), BindsTo s fd ⟨[], [(a, u), (b, v)]⟩ (if o = true then [(g, u), (h, v)] else [(g, v), (h, u)])) (hx : Passes CX X E) (ha : PK X [⟨some a, e1, k1⟩, ⟨some b, e2, k2⟩] tk) (hdb : (x == ("__debug__" : Str)) = false := by decide)
    (hpl : ((backTo pos (starEach [] X.env)).any (·.1) || (backToKw pos (keywordEach [⟨some a, e1, k1⟩, ⟨some b, e2, k2⟩] X.env)).any (·.1.isNone)) = false := by rfl)
    (hall : (backToKw pos (keywordEach [⟨some a, e1, k1⟩, ⟨some b, e2, k2⟩] X.env)).all (·.1.isSome) = true := by rfl) (hks : (backToKw pos (keywordEach [⟨some a, e1, k1⟩, ⟨some b, e2, k2⟩] X.env)).filterMap (·.1) = [a, b] := by rfl) :
    PE X (.Call (.Name x p) [] [⟨some a, e1, k1⟩, ⟨some b, e2, k2⟩] pos) (fun σ H Q => tk σ H fun zs H1 => ∃ z1 z2, zs = [z1, z2] ∧ sp (if o = true then [z1, z2] else [z2, z1]) H1 Q E) := by
  refine ⟨fun pins s σ H Q I q0 => wpAny_Call_Name_kw (ld_glob I hg hm ?_ hdb)⟩
  refine PySem.W.callWith_KW0 (h₀ := X.base) I.ok.mod.kin hk hall ?_ hpl
  refine thn (ha.run pos pins s σ H _ I q0) fun ws s1 ⟨zs, H1, I1, rz, z1, z2, ez, q⟩ => ⟨I1.kIn, ?_⟩
  subst ez
  rw [hks]
  obtain ⟨u1, u2, rfl, r1, r2⟩ := vals2 rz
  show wpAny _ _ (call (.ref f) [] [(a, u1), (b, u2)]) _ _ _
  cases o with
  | true =>
    refine wpAny_call (codeAny_mono (F.run X.A X.stack s1 H1 ⟨[], [(a, u1), (b, u2)]⟩ [u1, u2] [z1, z2] Q E hr I1.env0 (hb s1 u1 u2) (.cons r1 (.cons r2 .nil)) q) fun r s' hq => ?_)
    match r, hq with
    | .ok (.ret u), hq => exact I1.after hq
    | .error er, hq => exact hx pins σ H1 s1 er s' I1 hq
  | false =>
    refine wpAny_call (codeAny_mono (F.run X.A X.stack s1 H1 ⟨[], [(a, u1), (b, u2)]⟩ [u2, u1] [z2, z1] Q E hr I1.env0 (hb s1 u1 u2) (.cons r2 (.cons r1 .nil)) q) fun r s' hq => ?_)
    match r, hq with
    | .ok (.ret u), hq => exact I1.after hq
    | .error er, hq => exact hx pins σ H1 s1 er s' I1 hq
end VX

set_option Elab.async false
set_option linter.all false
set_option maxRecDepth 100000
set_option maxHeartbeats 4000000
/-! # a walk with any body: for the loops of a comprehension with two for -/
namespace VX
open PySem PySem.Spec PyProof.Rows L2
theorem loop_it {J : It} {n : Nat} {G : Hp → Prop} {Y : Nat → Hp → V → Hp → Prop} (w : Walk J n G Y) {B : V → Hp → (Hp → Prop) → Prop} {H0 : Hp} {Qd : Hp → Prop} (Pv : Nat → Hp → Prop) (h0 : Pv 0 H0) (hG : ∀ i H, i ≤ n → Pv i H → G H)
    (hs : ∀ i x H H', i < n → Pv i H → Y i H x H' → B x H' (Pv (i + 1))) (hd : ∀ H, Pv n H → Qd H) :
    ∃ W : Nat → Nat → Hp → Prop, (∃ m, W 0 m H0) ∧ ∀ i m H, W i m H →
      (J.stop i H ∧ Qd H) ∨ (J.go i H ∧ ∃ Nx : Hp → Prop, (∀ H', Nx H' → ∃ m', m' < m ∧ W (i + 1) m' H') ∧ ∀ x H', J.yld i H x H' → B x H' Nx) := by
  refine ⟨fun i m H => m = n - i ∧ i ≤ n ∧ Pv i H, ⟨n, by simp, Nat.zero_le _, h0⟩, ?_⟩
  rintro i m H ⟨rfl, hi, p⟩
  have q := hG i H hi p
  by_cases hlt : i < n
  · refine .inr ⟨w.goes i H hlt q, Pv (i + 1), fun H' p' => ⟨n - (i + 1), by omega, rfl, hlt, p'⟩, fun x H' y => hs i x H H' hlt p (w.yields i H x H' hlt q y)⟩
  · have e : i = n := by omega
    subst e
    exact .inl ⟨w.stops H q, hd H p⟩
/-- a statement, what holds behind it named -/
def sCut (t : TS) : TS := fun D σ H => ∃ Pv : L2.St → Hp → Prop, t { D with nx := Pv } σ H ∧ ∀ σ' H', Pv σ' H' → D.nx σ' H'
theorem ps_cut {X : Cx} {st : Stmt} {t : TS} (h : PS X st t) : PS X st (sCut t) := by
  refine ⟨fun pins s σ H D I ⟨Pv, q, k⟩ => wpAny_mono (h.run pins s σ H { D with nx := Pv } I q) (fun f s1 z => ?_) fun _ _ z => z⟩
  cases f with
  | next => obtain ⟨σ', H', J, z⟩ := z; exact ⟨σ', H', J, k _ _ z⟩
  | brk => exact z
  | cont => exact z
  | ret u => exact z
def tCut (t : TE) : TE := fun σ H Q => ∃ Pv : V → Hp → Prop, t σ H Pv ∧ ∀ v H', Pv v H' → Q v H'
theorem pe_cut {X : Cx} {e : Expr} {t : TE} (h : PE X e t) : PE X e (tCut t) := by
  refine ⟨fun pins s σ H Q I ⟨Pv, q, k⟩ => wpAny_mono (h.run pins s σ H Pv I q) (fun v s1 z => ?_) fun _ _ z => z⟩
  obtain ⟨x, H', J, r, z⟩ := z
  exact ⟨x, H', J, r, k _ _ z⟩
end VX

set_option Elab.async false
set_option linter.all false
set_option maxRecDepth 100000
set_option maxHeartbeats 4000000
/-! # words.py: sign, parts, leaves, __len__ -/
namespace KT
open PySem PySem.Spec PyProof.Rows L2 VX KW
section
variable {P : Program} {w : World} {K : PySem.W.Frag} {mg : Str → Option Value} {base : Heap} {f : Addr} {fd : FuncData}
abbrev sSg : Stmt := inClass (top iWord) 2
abbrev sPa : Stmt := inClass (top iWord) 3
def spGetS (K : PySem.W.Frag) : Sp := fun vs H Q _ => ∃ (x : Addr) (c : Nat) (xs : List V), vs = [.ref x] ∧ IsWd K H x c xs ∧ Q (.str (one c)) H
def spGetP (K : PySem.W.Frag) : Sp := fun vs H Q _ => ∃ (x : Addr) (c : Nat) (xs : List V), vs = [.ref x] ∧ IsWd K H x c xs ∧ ∀ a, SqT K H a xs → Q (.ref a) H
theorem sc_gets : FnScope ["self"] ["self"] (defScope sSg) := ⟨rfl, rfl, rfl, by decide +kernel, rfl, by decide +kernel, by decide +kernel⟩
theorem sc_getp : FnScope ["self"] ["self"] (defScope sPa) := ⟨rfl, rfl, rfl, by decide +kernel, rfl, by decide +kernel, by decide +kernel⟩
theorem ok_gets (F : FunD K "sign" "Word.sign" (defArgs sSg) (defBody sSg) (defScope sSg) [] [] f fd) (T : Txt K mg) : FnOk P w K mg base CX0 1 f fd ["self"] (spGetS K) := by
  refine F.ok sc_gets (fun vs H Q E h => ?_) (fun cdv A outer s H vs Q E hr h => ?_)
  · obtain ⟨x, c, xs, rfl, _⟩ := h
    rfl
  · obtain ⟨x, c, xs, rfl, ⟨dx, a, h1, h2⟩, k⟩ := h
    exact ⟨_, PSs.nox (pss_one (ps_ret (pe_fld (pv 0) rfl))), _, rfl, x, _, dx, _, .str (one c), rfl, h1, T.cls, T.fs, rfl, k⟩
theorem ok_getp (F : FunD K "parts" "Word.parts" (defArgs sPa) (defBody sPa) (defScope sPa) [] [] f fd) (T : Txt K mg) : FnOk P w K mg base CX0 1 f fd ["self"] (spGetP K) := by
  refine F.ok sc_getp (fun vs H Q E h => ?_) (fun cdv A outer s H vs Q E hr h => ?_)
  · obtain ⟨x, c, xs, rfl, _⟩ := h
    rfl
  · obtain ⟨x, c, xs, rfl, ⟨dx, a, h1, h2⟩, k⟩ := h
    exact ⟨_, PSs.nox (pss_one (ps_ret (pe_fld (pv 0) rfl))), _, rfl, x, _, dx, _, .ref a, rfl, h1, T.cls, T.fp, rfl, k a h2⟩
/-- the signs of the leaves, from the left -/
def lvs : Tr → List Nat
  | .lf c => [c]
  | .nd _ l r => lvs l ++ lvs r
def depT : Tr → Nat
  | .lf _ => 1
  | .nd _ l r => max (depT l) (depT r) + 1
def spLeaves (K : PySem.W.Frag) (n : Nat) : Sp := fun vs H Q _ => ∃ (x : Addr) (t : Tr), vs = [.ref x] ∧ IsTr K H x t ∧ depT t ≤ n ∧ (lvs t).length ≤ 1000 ∧ ∀ H' l, Same H H' → H l = none → H' l = some (.lst ((lvs t).map fun c => V.str (one c))) → Q (.ref l) H'
def spLeavesL (K : PySem.W.Frag) : Nat → Sp
  | 0 => fun _ _ _ _ => False
  | n + 1 => spLeaves K (n + 1)
abbrev nLv : List Str := ["word", "part", "leaf"]
theorem sc_leaves : FnScope nLv ["word"] (defScope (top iLeaves)) := ⟨rfl, rfl, rfl, by decide +kernel, rfl, by decide +kernel, by decide +kernel⟩
structure Prf (K : PySem.W.Frag) (fdg fdp : FuncData) : Prop where
  fg : FunD K "sign" "Word.sign" (defArgs sSg) (defBody sSg) (defScope sSg) [] [] (propG K "sign") fdg
  fp : FunD K "parts" "Word.parts" (defArgs sPa) (defBody sPa) (defScope sPa) [] [] (propG K "parts") fdp
theorem ok_leaves1 {fdg fdp : FuncData} (F : FnP K "leaves" iLeaves (He.ga K "leaves") fd) (T : Txt K mg) (Z : Prf K fdg fdp) (n : Nat) (GR : FnOk P w K mg base CX0 (3 + n) (He.ga K "leaves") fd ["word"] (spLeavesL K n)) : FnOk P w K mg base CX0 (4 + n) (He.ga K "leaves") fd ["word"] (spLeaves K (n + 1)) := by
  have BR : Binds K fd ["word"] [] := F.bindsN fun _ _ _ _ _ _ us hl => match us, hl with | [_], _ => rfl
  have GSg : FnOk P w K mg base CX0 1 _ fdg ["self"] (spGetS K) := ok_gets Z.fg T
  have BSg : Binds K fdg ["self"] [] := Z.fg.bindsN fun _ _ _ _ _ _ us hl => match us, hl with | [_], _ => rfl
  have GPa : FnOk P w K mg base CX0 1 _ fdp ["self"] (spGetP K) := ok_getp Z.fp T
  have BPa : Binds K fdp ["self"] [] := Z.fp.bindsN fun _ _ _ _ _ _ us hl => match us, hl with | [_], _ => rfl
  rw [show 4 + n = (3 + n) + 1 by omega]
  refine F.ok sc_leaves (fun vs H Q E h => ?_) (fun cdv A outer s H vs Q E hr h => ?_)
  · obtain ⟨x, t, rfl, _⟩ := h
    rfl
  · obtain ⟨x, t, rfl, hx, hd, hl, q⟩ := h
    have nd := sc_leaves.nd
    have hr2 : Room 2 _ := hr.mono (by omega)
    refine ⟨_, PSs.nox (pss_cons (ps_if (pt_cmpR op_eq (pe_callB call_len_seq (by rfl) (T.fr "len") boot_len (pa_cons (pe_prop (pv 0) T.cls T.pp GPa hr2 BPa .nil pass0 rfl) pa_nil)) pe_int (nomark _)) (pss_one (ps_ret (pe_lst (pa_cons (pe_prop (pv 0) T.cls T.ps GSg hr2 BSg .nil pass0 rfl) pa_nil)))) pss_nil) (pss_one (ps_ret (pe_lc2 (own := [("part", 1), ("leaf", 2)]) (vs1 := [2]) (g := gName 1) (g1 := gName 2) (wi1 := iList K (tCall (spLeavesL K n) [] E0 (tCons (tVar 1) tNil))) (by rfl) nd (pi_tup (pe_prop (pv 0) T.cls T.pp GPa hr2 BPa .nil pass0 rfl)) (blkOk_by (own := [("part", 1), ("leaf", 2)]) (N := nLv) (sc := defScope (top iLeaves)) (by decide +kernel)) (by decide) (fun _ _ _ _ _ => pg_name (i := 1) nd rfl (Or.inl rfl)) (fun _ _ _ _ _ => pts_nil) (fun _ _ _ _ _ => pi_list (pe_call GR hr (by rfl) (T.df "leaves" iLeaves) F.kp BR .nil pass0 (pa_cons (pv 1) pa_nil))) (fun _ _ _ _ _ => pg_name (i := 2) nd rfl (Or.inl rfl)) (fun _ _ _ _ _ => pts_nil) (fun _ _ _ _ _ => pv 2))))), ?_⟩
    cases t with
    | lf c =>
      obtain ⟨hlc, hw⟩ := hx
      obtain ⟨dx, a, h1, h2⟩ := id hw
      refine ⟨_, rfl, x, dx, _, rfl, h1, x, c, _, rfl, hw, fun a2 ha2 => ⟨a2, _, rfl, .inr ha2, rfl, _, rfl, ?_⟩⟩
      refine iteT ⟨_, rfl, x, dx, _, rfl, h1, x, c, _, rfl, hw, (by show 1 ≤ sizeLine; decide), fun l hl' => q _ l (same_new hl') hl' upd_same⟩
    | nd c l r =>
      obtain ⟨hj, y, z, hw, hy, hz⟩ := hx
      obtain ⟨dx, a, h1, h2⟩ := id hw
      refine ⟨_, rfl, x, dx, _, rfl, h1, x, c, _, rfl, hw, fun a2 ha2 => ⟨a2, _, rfl, .inr ha2, rfl, _, rfl, ?_⟩⟩
      refine iteF ?_
      simp only [depT] at hd
      simp only [lvs, List.length_append] at hl
      obtain ⟨m, rfl⟩ : ∃ m, n = m + 1 := by
        cases n with
        | zero => cases l <;> simp only [depT] at hd <;> omega
        | succ m => exact ⟨m, rfl⟩
      refine ⟨_, rfl, x, dx, _, rfl, h1, x, c, _, rfl, hw, fun a3 ha3 => ⟨a3, rfl, ⟨_, ha3⟩, fun D hD => loop_it (walk_tup (K := K) (a := a3) (xs := [.ref y, .ref z])) (fun i H' => Same H H' ∧ H' D = some (.lst (((([lvs l, lvs r] : List (List Nat)).take i).flatten).map fun c => V.str (one c)))) ⟨same_new hD, upd_same⟩ (fun i H' _ p => SqT.same p.1 ha3) ?_ ?_⟩⟩
      · rintro i v H1 H2 hi ⟨sm, hDl⟩ ⟨rfl, hv⟩
        obtain ⟨xa, ti, rfl, hta, hti, hdi⟩ : ∃ xa ti, v = .ref xa ∧ IsTr K H xa ti ∧ ([lvs l, lvs r] : List (List Nat))[i]? = some (lvs ti) ∧ (depT ti ≤ m + 1 ∧ (lvs ti).length ≤ 1000) := by
          match i, hi, hv with
          | 0, _, hv =>
            cases hv
            exact ⟨y, l, rfl, hy, rfl, by omega, by omega⟩
          | 1, _, hv =>
            cases hv
            exact ⟨z, r, rfl, hz, rfl, by omega, by omega⟩
        have lT : ((([lvs l, lvs r] : List (List Nat)).take i).flatten).length + (lvs ti).length ≤ 1000 := by
          match i, hi, hti with
          | 0, _, hti => simp at hti ⊢; omega
          | 1, _, hti => simp at hti ⊢; rw [← hti]; omega
        have eT : (([lvs l, lvs r] : List (List Nat)).take (i + 1)).flatten = (([lvs l, lvs r] : List (List Nat)).take i).flatten ++ lvs ti := by
          rw [List.take_succ, hti, List.flatten_append]
          simp
        generalize (([lvs l, lvs r] : List (List Nat)).take i).flatten = A0 at hDl lT eT
        refine ⟨rfl, yes_if ?_⟩
        refine ⟨_, rfl, xa, ti, rfl, hta.same sm, hdi.1, hdi.2, fun H3 l' s3 hl0 hl3 => ?_⟩
        have hD3 := s3 _ _ hDl
        have lD : l' ≠ D := fun e => by rw [e, hDl] at hl0; cases hl0
        have s03 := sm.trans s3
        refine ⟨l', rfl, ⟨_, SqL.of hl3⟩, loop_it (walk_list (K := K) (a := l') (xs := (lvs ti).map fun c => V.str (one c))) (fun j H' => Same H H' ∧ H' l' = some (.lst ((lvs ti).map fun c => V.str (one c))) ∧ H' D = some (.lst ((A0 ++ (lvs ti).take j).map fun c => V.str (one c)))) ⟨s03, hl3, by rw [List.take_zero, List.append_nil]; exact hD3⟩ (fun j H' _ p => SqL.of p.2.1) ?_ ?_⟩
        · rintro j v H4 H5 hj ⟨s4, hl4, hD4⟩ ⟨rfl, hv⟩
          have hj' : j < (lvs ti).length := by simpa using hj
          rw [List.getElem?_map, List.getElem?_eq_getElem hj'] at hv
          cases hv
          refine ⟨rfl, yes_if ⟨_, rfl, _, hD4, lt_line (by rw [List.length_map, List.length_append, List.length_take]; omega), Same.grow s4 hD, by rw [upd_ne lD]; exact hl4, ?_⟩⟩
          rw [upd_same, List.take_succ, List.getElem?_eq_getElem hj', Option.toList_some, ← List.append_assoc, List.map_append (l₁ := A0 ++ _)]
          rfl
        · rintro H4 ⟨s4, hl4, hD4⟩
          rw [List.length_map, List.take_length] at hD4
          exact ⟨s4, by rw [eT]; exact hD4⟩
      · rintro H1 ⟨sm, hDl⟩
        refine q _ D sm hD ?_
        rw [hDl]
        simp [lvs]
theorem ok_leaves {fdg fdp : FuncData} (F : FnP K "leaves" iLeaves (He.ga K "leaves") fd) (T : Txt K mg) (Z : Prf K fdg fdp) : ∀ n : Nat, FnOk P w K mg base CX0 (4 + n) (He.ga K "leaves") fd ["word"] (spLeaves K (n + 1))
  | 0 => ok_leaves1 F T Z 0 (F.ok sc_leaves (fun vs H Q E h => h.elim) fun _ _ _ _ _ _ _ _ _ h => h.elim)
  | n + 1 => ok_leaves1 F T Z (n + 1) (by rw [show 3 + (n + 1) = 4 + n by omega]; exact ok_leaves F T Z n)
abbrev sWLen : Stmt := inClass (top iWord) 7
def spWLen (K : PySem.W.Frag) (n : Nat) : Sp := fun vs H Q _ => ∃ (x : Addr) (t : Tr), vs = [.ref x] ∧ IsTr K H x t ∧ depT t ≤ n ∧ (lvs t).length ≤ 1000 ∧ ∀ H', Same H H' → Q (.int ((lvs t).length : Nat)) H'
theorem sc_wlen : FnScope ["self"] ["self"] (defScope sWLen) := ⟨rfl, rfl, rfl, by decide +kernel, rfl, by decide +kernel, by decide +kernel⟩
theorem ok_wlen {fdg fdp fdL : FuncData} (F : FunD K "__len__" "Word.__len__" (defArgs sWLen) (defBody sWLen) (defScope sWLen) [] [] f fd) (T : Txt K mg) (Z : Prf K fdg fdp) (FL : FnP K "leaves" iLeaves (He.ga K "leaves") fdL) (n : Nat) : FnOk P w K mg base CX0 (5 + n) f fd ["self"] (spWLen K (n + 1)) := by
  have GL : FnOk P w K mg base CX0 (4 + n) _ fdL ["word"] (spLeaves K (n + 1)) := ok_leaves FL T Z n
  have BL : Binds K fdL ["word"] [] := FL.bindsN fun _ _ _ _ _ _ us hl => match us, hl with | [_], _ => rfl
  rw [show 5 + n = (4 + n) + 1 by omega]
  refine F.ok sc_wlen (fun vs H Q E h => ?_) (fun cdv A outer s H vs Q E hr h => ?_)
  · obtain ⟨x, t, rfl, _⟩ := h
    rfl
  · obtain ⟨x, t, rfl, hx, hd, hl, q⟩ := h
    refine ⟨_, PSs.nox (pss_one (ps_ret (pe_callB call_len_seq (by rfl) (T.fr "len") boot_len (pa_cons (pe_call GL hr (by rfl) (T.df "leaves" iLeaves) FL.kp BL .nil pass0 (pa_cons (pv 0) pa_nil)) pa_nil)))), ?_⟩
    refine ⟨_, rfl, x, t, rfl, hx, hd, hl, fun H' l s hl0 hll => ⟨l, _, rfl, .inl (SqL.of hll), ?_⟩⟩
    rw [List.length_map]
    exact q _ s
end
end KT

set_option Elab.async false
set_option linter.all false
set_option maxRecDepth 100000
set_option maxHeartbeats 4000000
/-! # k37: texts of words -/
namespace KT
open PySem PySem.Spec PyProof.Rows L2 VX KW
section
variable {P : Program} {w : World} {K : PySem.W.Frag} {mg : Str → Option Value} {base : Heap} {f : Addr} {fd : FuncData}
abbrev sTxt : Stmt := inClass (top iWord) 8
def enc (b : Bool) (s : Str) : Str := if b = true then Str.empty ++ "(" ++ s ++ ")" else s
def sgn : Tr → Nat
  | .lf c => c
  | .nd c _ _ => c
def tx : Tr → Str
  | .lf c => one c
  | .nd c l r => Str.empty ++ enc (c == 38 && sgn l == 43) (tx l) ++ " " ++ one c ++ " " ++ enc (sgn r == 43 || sgn r == c) (tx r)
structure Txm (K : PySem.W.Frag) (fdT fdP fdg : FuncData) : Prop where
  mt : Meth K (wC K) "text" (He.ma K (wC K) "text")
  fT : FunD K "text" "Word.text" (defArgs sTxt) (defBody sTxt) (defScope sTxt) [] [] (He.ma K (wC K) "text") fdT
  fP : FnP K "part_text" iPText (He.ga K "part_text") fdP
  fg : FunD K "sign" "Word.sign" (defArgs sSg) (defBody sSg) (defScope sSg) [] [] (propG K "sign") fdg
def spText (K : PySem.W.Frag) (n : Nat) : Sp := fun vs H Q _ => ∃ (x : Addr) (t : Tr), vs = [.ref x] ∧ IsTr K H x t ∧ depT t ≤ n ∧ (tx t).length ≤ sizeLine ∧ ∀ H', Same H H' → Q (.str (tx t)) H'
def spTextL (K : PySem.W.Frag) : Nat → Sp
  | 0 => fun _ _ _ _ => False
  | n + 1 => spText K (n + 1)
def spPText (K : PySem.W.Frag) (n : Nat) : Sp := fun vs H Q _ => ∃ (x : Addr) (t : Tr) (b : Bool), vs = [.ref x, .bl b] ∧ IsTr K H x t ∧ depT t ≤ n ∧ (enc b (tx t)).length ≤ sizeLine ∧ ∀ H', Same H H' → Q (.str (enc b (tx t))) H'
theorem sc_ptext : FnScope ["part", "enclosed"] ["part", "enclosed"] (defScope (top iPText)) := ⟨rfl, rfl, rfl, by decide +kernel, rfl, by decide +kernel, by decide +kernel⟩
theorem depT_pos : ∀ t : Tr, 1 ≤ depT t
  | .lf _ => Nat.le_refl _
  | .nd _ _ _ => by simp only [depT]; omega
theorem app_len (x y : Str) : (x ++ y).length = x.length + y.length := PySem.strLen_append x y
theorem enc_len (b : Bool) (s : Str) : s.length ≤ (enc b s).length := by
  unfold enc
  split
  · rw [app_len, app_len]; omega
  · exact Nat.le_refl _
theorem IsTr.wd {H : Hp} {x : Addr} : ∀ {t : Tr}, IsTr K H x t → ∃ xs, IsWd K H x (sgn t) xs
  | .lf _, h => ⟨_, h.2⟩
  | .nd _ _ _, h => by obtain ⟨_, y, z, h1, _⟩ := h; exact ⟨_, h1⟩
theorem sl1 {k : Nat} (h : k ≤ sizeLine) : k ≤ sizeLine := h
theorem ok_ptext {fdT fdP fdg : FuncData} (T : Txt K mg) (Y : Txm K fdT fdP fdg) (n k : Nat) (GTx : FnOk P w K mg base CX0 k (He.ma K (wC K) "text") fdT ["self"] (spTextL K n)) : FnOk P w K mg base CX0 (k + 1) (He.ga K "part_text") fdP ["part", "enclosed"] (spPText K n) := by
  have BTx : Binds K fdT ["self"] [] := Y.fT.bindsN fun _ _ _ _ _ _ us hl => match us, hl with | [_], _ => rfl
  refine Y.fP.ok sc_ptext (fun vs H Q E h => ?_) (fun cdv A outer s H vs Q E hr h => ?_)
  · obtain ⟨x, t, b, rfl, _⟩ := h
    rfl
  · obtain ⟨x, t, b, rfl, hx, hd, hl, q⟩ := h
    have nd := sc_ptext.nd
    refine ⟨_, PSs.nox (pss_one (ps_ret (pe_ifExp (pt_val (pv 1)) (pe_joined (PJ.cons pe_str (PJ.cons (pe_fmt (pe_meth0 (pv 0) T.cls Y.mt GTx hr BTx .nil pass0)) (PJ.cons pe_str PJ.nil)))) (pe_meth0 (pv 0) T.cls Y.mt GTx hr BTx .nil pass0)))), ?_⟩
    have p1 := depT_pos t
    obtain ⟨m, rfl⟩ : ∃ m, n = m + 1 := ⟨n - 1, by omega⟩
    have tl := enc_len b (tx t)
    obtain ⟨xs, dx, a, h1, h2⟩ := hx.wd
    cases b with
    | false => exact ⟨_, rfl, _, rfl, iteF ⟨_, rfl, x, dx, _, rfl, h1, rfl, x, t, rfl, hx, hd, by omega, fun H1 s1 => q _ s1⟩⟩
    | true =>
      have hl2 : (Str.empty ++ ("(" : Str) ++ tx t ++ (")" : Str)).length ≤ sizeLine := hl
      rw [app_len, app_len] at hl2
      refine ⟨_, rfl, _, rfl, iteT ⟨_, rfl, sl1 (by omega), _, rfl, x, dx, _, rfl, h1, rfl, x, t, rfl, hx, hd, by omega, fun H1 s1 => .inl ⟨_, rfl, sl1 (by omega), _, rfl, sl1 (by rw [app_len]; omega), _, rfl, sl1 (by rw [app_len, app_len]; exact hl2), q _ s1⟩⟩⟩
abbrev nTx : List Str := ["self", "first", "second", "left", "right"]
theorem sc_text : FnScope nTx ["self"] (defScope sTxt) := ⟨rfl, rfl, rfl, by decide +kernel, rfl, by decide +kernel, by decide +kernel⟩
theorem ok_text1 {fdg fdT fdP : FuncData} (T : Txt K mg) (Y : Txm K fdT fdP fdg) (n k : Nat) (hk : 2 ≤ k) (GTx : FnOk P w K mg base CX0 k (He.ma K (wC K) "text") fdT ["self"] (spTextL K n)) : FnOk P w K mg base CX0 (k + 2) (He.ma K (wC K) "text") fdT ["self"] (spText K (n + 1)) := by
  have FP := Y.fP
  have GPt : FnOk P w K mg base CX0 (k + 1) _ fdP ["part", "enclosed"] (spPText K n) := ok_ptext T Y n k GTx
  have BPt : Binds K fdP ["part", "enclosed"] [] := FP.bindsN fun _ _ _ _ _ _ us hl => match us, hl with | [_, _], _ => rfl
  have GSg : FnOk P w K mg base CX0 1 _ fdg ["self"] (spGetS K) := ok_gets Y.fg T
  have BSg : Binds K fdg ["self"] [] := Y.fg.bindsN fun _ _ _ _ _ _ us hl => match us, hl with | [_], _ => rfl
  refine Y.fT.ok sc_text (fun vs H Q E h => ?_) (fun cdv A outer s H vs Q E hr h => ?_)
  · obtain ⟨x, t, rfl, _⟩ := h
    rfl
  · obtain ⟨x, t, rfl, hx, hd, hl, q⟩ := h
    have nd := sc_text.nd
    have hr2 : Room 2 _ := hr.mono (by omega)
    refine ⟨_, PSs.nox (pss_cons (ps_if (pt_cmpR op_eq (pe_callB call_len_seq (by rfl) (T.fr "len") boot_len (pa_cons (pe_fld (pv 0) rfl) pa_nil)) pe_int (nomark _)) (pss_one (ps_ret (pe_fld (pv 0) rfl))) pss_nil) (pss_cons (ps_asg (pe_fld (pv 0) rfl) (pg_tup (by rfl) (pgs_cons (pg_name (i := 1) nd rfl (.inl rfl)) (pgs_cons (pg_name (i := 2) nd rfl (.inl rfl)) pgs_nil)))) (pss_cons (ps_set (i := 3) nd rfl (.inl rfl) (pe_call GPt hr (by rfl) (T.df "part_text" iPText) FP.kp BPt .nil pass0 (pa_cons (pv 1) (pa_cons (pe_cut (pe_and (pe_cmpR op_eq (pe_fld (pv 0) rfl) pe_str (nomark _)) (pe_one (pe_cmpR op_eq (pe_prop (pv 1) T.cls T.ps GSg hr2 BSg .nil pass0 rfl) pe_str (nomark _))))) pa_nil)))) (pss_cons (ps_set (i := 4) nd rfl (.inl rfl) (pe_call GPt hr (by rfl) (T.df "part_text" iPText) FP.kp BPt .nil pass0 (pa_cons (pv 2) (pa_cons (pe_cut (pe_cmpR op_in_seq (pe_prop (pv 2) T.cls T.ps GSg hr2 BSg .nil pass0 rfl) (pe_tup (pa_cons pe_str (pa_cons (pe_fld (pv 0) rfl) pa_nil))) (by rfl))) pa_nil)))) (pss_one (ps_ret (pe_joined (PJ.cons (pe_fmt (pv 3)) (PJ.cons pe_str (PJ.cons (pe_fmt (pe_fld (pv 0) rfl)) (PJ.cons pe_str (PJ.cons (pe_fmt (pv 4)) PJ.nil)))))))))))), ?_⟩
    cases t with
    | lf c =>
      obtain ⟨hlc, dx, a, h1, h2⟩ := hx
      refine ⟨_, rfl, x, _, dx, _, .ref a, rfl, h1, T.cls, T.fp, rfl, a, _, rfl, .inr h2, rfl, _, rfl, ?_⟩
      exact iteT ⟨_, rfl, x, _, dx, _, .str (one c), rfl, h1, T.cls, T.fs, rfl, q _ (Same.refl _)⟩
    | nd c l r =>
      obtain ⟨hj, y, z, ⟨dx, a, h1, h2⟩, hy, hz⟩ := hx
      refine ⟨_, rfl, x, _, dx, _, .ref a, rfl, h1, T.cls, T.fp, rfl, a, _, rfl, .inr h2, rfl, _, rfl, ?_⟩
      refine iteF ?_
      obtain ⟨xy, wy⟩ := hy.wd
      obtain ⟨xz, wz⟩ := hz.wd
      simp only [depT] at hd
      have eb : inV (V.str (one (sgn r))) [V.str "+", V.str (one c)] = (sgn r == 43 || sgn r == c) := by
        show ((one 43 == one (sgn r)) || ((one c == one (sgn r)) || false)) = _
        simp only [beq_one, Bool.or_false]
      have q' : ∀ H', Same H H' → Q (.str (Str.empty ++ enc (c == 38 && sgn l == 43) (tx l) ++ " " ++ one c ++ " " ++ enc (sgn r == 43 || sgn r == c) (tx r))) H' := q
      have hl' : (Str.empty ++ enc (c == 38 && sgn l == 43) (tx l) ++ (" " : Str) ++ one c ++ (" " : Str) ++ enc (sgn r == 43 || sgn r == c) (tx r)).length ≤ sizeLine := hl
      clear q hl
      rw [app_len, app_len, app_len, app_len, app_len] at hl'
      refine ⟨_, rfl, x, _, dx, _, .ref a, rfl, h1, T.cls, T.fp, rfl, a, _, rfl, h2, rfl, _, _, rfl, _, _, rfl, rfl, ?_⟩
      refine ⟨_, rfl, fun v H' => v = .bl (c == 38 && sgn l == 43) ∧ H' = H, ?_, ?_⟩
      · refine ⟨_, rfl, x, _, dx, _, .str (one c), rfl, h1, T.cls, T.fs, rfl, rfl, _, rfl, ?_⟩
        rw [show decide (V.str (one c) = V.str "&") = (c == 38) from dec_one]
        refine ite2 (fun e => ?_) (fun e => ?_)
        · obtain ⟨dy, ay, hy1, hy2⟩ := id wy
          refine ⟨_, rfl, y, dy, _, rfl, hy1, y, sgn l, xy, rfl, wy, rfl, ?_, rfl⟩
          rw [show decide (V.str (one (sgn l)) = V.str "+") = (sgn l == 43) from dec_one, e, Bool.true_and]
        · rw [Bool.eq_false_iff.mpr e, Bool.false_and]
          exact ⟨rfl, rfl⟩
      rintro _ _ ⟨rfl, rfl⟩
      refine ⟨y, l, _, rfl, hy, by omega, by omega, fun H1 s1 => ?_⟩
      refine ⟨_, rfl, fun v H' => v = .bl (sgn r == 43 || sgn r == c) ∧ Same H1 H', ?_, ?_⟩
      · have wz1 := wz.same s1
        obtain ⟨dz, az, hz1, hz2⟩ := id wz1
        refine ⟨_, rfl, z, dz, _, rfl, hz1, z, sgn r, xz, rfl, wz1, _, rfl, x, _, dx, _, .str (one c), rfl, s1 _ _ h1, T.cls, T.fs, rfl, (by show 2 ≤ sizeLine; decide), fun tp htp => ⟨tp, _, rfl, .inr (SqT.of upd_same), rfl, rfl, ?_, same_new htp⟩⟩
        rw [eb]
        rfl
      rintro _ H2 ⟨rfl, s2⟩
      have s02 := s1.trans s2
      refine ⟨z, r, _, rfl, hz.same s02, by omega, by omega, fun H3 s3 => ?_⟩
      have s03 := s02.trans s3
      refine ⟨_, rfl, .inl ⟨_, rfl, sl1 (by omega), _, rfl, sl1 (by rw [app_len]; omega), _, rfl, sl1 (by rw [app_len, app_len]; omega), _, rfl, x, _, dx, _, .str (one c), rfl, s03 _ _ h1, T.cls, T.fs, rfl, .inl ⟨_, rfl, sl1 (by omega), _, rfl, sl1 (by rw [app_len, app_len, app_len]; omega), _, rfl, sl1 (by rw [app_len, app_len, app_len, app_len]; omega), _, rfl, .inl ⟨_, rfl, sl1 (by omega), _, rfl, sl1 (by rw [app_len, app_len, app_len, app_len, app_len]; exact hl'), q' _ s03⟩⟩⟩⟩
theorem ok_text {fdg fdT fdP : FuncData} (T : Txt K mg) (Y : Txm K fdT fdP fdg) : ∀ n : Nat, FnOk P w K mg base CX0 (4 + 2 * n) (He.ma K (wC K) "text") fdT ["self"] (spText K (n + 1))
  | 0 => ok_text1 T Y 0 2 (by omega) (Y.fT.ok sc_text (fun vs H Q E h => h.elim) fun _ _ _ _ _ _ _ _ _ h => h.elim)
  | n + 1 => by
    rw [show 4 + 2 * (n + 1) = (4 + 2 * n) + 2 by omega]
    exact ok_text1 T Y (n + 1) _ (by omega) (ok_text T Y n)
theorem depT_dep : ∀ t : Tr, depT t = dep t + 1
  | .lf _ => rfl
  | .nd _ l r => by
    simp only [depT, dep, depT_dep l, depT_dep r]
    omega
theorem one_len (c : Nat) : (one c).length = 1 := rfl
theorem enc_le (b : Bool) (s : Str) : (enc b s).length ≤ s.length + 2 := by
  unfold enc
  split
  · rw [app_len, app_len, app_len]
    have : (Str.empty).length = 0 := rfl
    have h2 : (("(" : Str)).length = 1 := rfl
    have h3 : ((")" : Str)).length = 1 := rfl
    omega
  · omega
theorem tx_len : ∀ t : Tr, (tx t).length + 7 ≤ 8 * 2 ^ dep t
  | .lf c => by
    show (one c).length + 7 ≤ 8 * 2 ^ 0
    rw [one_len]
    decide
  | .nd c l r => by
    have h1 := tx_len l
    have h2 := tx_len r
    have e1 := enc_le (c == 38 && sgn l == 43) (tx l)
    have e2 := enc_le (sgn r == 43 || sgn r == c) (tx r)
    have m1 : 2 ^ dep l ≤ 2 ^ max (dep l) (dep r) := Nat.pow_le_pow_right (by decide) (Nat.le_max_left _ _)
    have m2 : 2 ^ dep r ≤ 2 ^ max (dep l) (dep r) := Nat.pow_le_pow_right (by decide) (Nat.le_max_right _ _)
    show (Str.empty ++ enc (c == 38 && sgn l == 43) (tx l) ++ (" " : Str) ++ one c ++ (" " : Str) ++ enc (sgn r == 43 || sgn r == c) (tx r)).length + 7 ≤ 8 * 2 ^ (max (dep l) (dep r) + 1)
    rw [app_len, app_len, app_len, app_len, app_len, one_len, Nat.pow_succ]
    have h0 : (Str.empty).length = 0 := rfl
    have h3 : ((" " : Str)).length = 1 := rfl
    omega
theorem tx_ok {t : Tr} (h : dep t ≤ 20) : (tx t).length ≤ sizeLine := by
  have := tx_len t
  have m : 2 ^ dep t ≤ 2 ^ 20 := Nat.pow_le_pow_right (by decide) h
  have : (tx t).length ≤ 8388608 := by omega
  exact Nat.le_trans this (by decide)
end
end KT

set_option Elab.async false
set_option linter.all false
set_option maxRecDepth 100000
set_option maxHeartbeats 4000000
/-! # words.py: renamed -/
namespace KT
open PySem PySem.Spec PyProof.Rows L2 VX KW
section
variable {P : Program} {w : World} {K : PySem.W.Frag} {mg : Str → Option Value} {base : Heap} {f : Addr} {fd : FuncData}
def ren (m : Nat → Nat) : Tr → Tr
  | .lf c => .lf (m c)
  | .nd c l r => .nd (m c) (ren m l) (ren m r)
def kids : Tr → List Tr
  | .lf _ => []
  | .nd _ l r => [l, r]
inductive AreTr (K : PySem.W.Frag) (H : Hp) : List Addr → List Tr → Prop
  | nil : AreTr K H [] []
  | cons {x : Addr} {t : Tr} {xs : List Addr} {ts : List Tr} : IsTr K H x t → AreTr K H xs ts → AreTr K H (x :: xs) (t :: ts)
theorem AreTr.length {H : Hp} : ∀ {xs : List Addr} {ts : List Tr}, AreTr K H xs ts → xs.length = ts.length
  | _, _, .nil => rfl
  | _, _, .cons _ t => congrArg (· + 1) t.length
theorem AreTr.get {H : Hp} : ∀ {xs : List Addr} {ts : List Tr} {i : Nat} {x : Addr}, AreTr K H xs ts → xs[i]? = some x → ∃ t, ts[i]? = some t ∧ IsTr K H x t
  | _, _, 0, _, .cons (t := t) h _, e => by
    obtain rfl := Option.some.inj e
    exact ⟨t, rfl, h⟩
  | _, _, i + 1, _, .cons h t, e => AreTr.get (i := i) t (by simpa using e)
theorem AreTr.same {H H' : Hp} (s : Same H H') : ∀ {xs : List Addr} {ts : List Tr}, AreTr K H xs ts → AreTr K H' xs ts
  | _, _, .nil => .nil
  | _, _, .cons h t => .cons (h.same s) (AreTr.same s t)
theorem AreTr.append {H : Hp} : ∀ {xs : List Addr} {ts : List Tr} {ys : List Addr} {us : List Tr}, AreTr K H xs ts → AreTr K H ys us → AreTr K H (xs ++ ys) (ts ++ us)
  | _, _, _, _, .nil, h => h
  | _, _, _, _, .cons h t, u => .cons h (t.append u)
theorem IsTr.kids {H : Hp} {x : Addr} : ∀ {t : Tr}, IsTr K H x t → ∃ ys, IsWd K H x (sgn t) (ys.map V.ref) ∧ AreTr K H ys (KT.kids t)
  | .lf _, h => ⟨[], h.2, .nil⟩
  | .nd _ _ _, h => by obtain ⟨_, y, z, h1, h2, h3⟩ := h; exact ⟨[y, z], h1, .cons h2 (.cons h3 .nil)⟩
theorem sqT_upd {H : Hp} {D a : Addr} {xs ys : List V} {o : HO} (hD : H D = some (.lst xs)) (h : SqT K H a ys) : SqT K (upd H D o) a ys := by
  have k : ∀ {u}, H a = some u → (∀ zs, u ≠ .lst zs) → upd H D o a = some u := fun {u} q ne => by
    rw [upd_ne fun e => by rw [e, hD] at q; exact ne _ (Option.some.inj q).symm]
    exact q
  rcases h with (h | ⟨u, h⟩) | h
  · exact .inl (.inl (k h fun _ z => nomatch z))
  · exact .inl (.inr ⟨u, k h fun _ z => nomatch z⟩)
  · exact .inr h
theorem IsWd.updL {H : Hp} {D x : Addr} {xs ys : List V} {o : HO} {c : Nat} (hD : H D = some (.lst xs)) (h : IsWd K H x c ys) : IsWd K (upd H D o) x c ys := by
  obtain ⟨dx, a, h1, h2⟩ := h
  exact ⟨dx, a, by rw [upd_ne fun e => by rw [e, hD] at h1; cases h1]; exact h1, sqT_upd hD h2⟩
theorem IsTr.updL {H : Hp} {D : Addr} {xs : List V} {o : HO} (hD : H D = some (.lst xs)) : ∀ {t : Tr} {x : Addr}, IsTr K H x t → IsTr K (upd H D o) x t
  | .lf _, _, h => ⟨h.1, h.2.updL hD⟩
  | .nd _ _ _, _, h => by
    obtain ⟨j, y, z, h1, h2, h3⟩ := h
    exact ⟨j, y, z, h1.updL hD, h2.updL hD, h3.updL hD⟩
theorem AreTr.updL {H : Hp} {D : Addr} {zs : List V} {o : HO} (hD : H D = some (.lst zs)) : ∀ {xs : List Addr} {ts : List Tr}, AreTr K H xs ts → AreTr K (upd H D o) xs ts
  | _, _, .nil => .nil
  | _, _, .cons h t => .cons (h.updL hD) (AreTr.updL hD t)
theorem mk_tr {H : Hp} {x : Addr} {m : Nat → Nat} (hm : ∀ c, (leafC c = true → leafC (m c) = true) ∧ (jointC c = true → jointC (m c) = true)) : ∀ {t : Tr} {ys : List Addr}, WF t = true → IsWd K H x (m (sgn t)) (ys.map V.ref) → AreTr K H ys ((kids t).map (ren m)) → IsTr K H x (ren m t)
  | .lf c, ys, hw, h, k => by
    cases k
    exact ⟨(hm c).1 (by simpa [WF] using hw), h⟩
  | .nd c l r, ys, hw, h, k => by
    cases k with
    | cons h1 k => cases k with
      | cons h2 k =>
        cases k
        have : jointC c = true := by
          simp only [WF, Bool.and_eq_true] at hw
          exact hw.1.1
        exact ⟨(hm c).2 this, _, _, h, h1, h2⟩
theorem IsTr.wf {H : Hp} : ∀ {t : Tr} {x : Addr}, IsTr K H x t → WF t = true
  | .lf _, _, h => by simpa [WF] using h.1
  | .nd _ _ _, _, h => by
    obtain ⟨j, y, z, _, h2, h3⟩ := h
    simp [WF, j, h2.wf, h3.wf]
structure Tabl (H : Hp) (d : Addr) (m : Nat → Nat) : Prop where
  ex : ∃ kvs : List (L2.Key × V), H d = some (.dK kvs) ∧ ∀ c, (valV kvs (Sum.inr (one c))).getD (.str (one c)) = .str (one (m c))
theorem Tabl.same {H H' : Hp} {d : Addr} {m : Nat → Nat} (s : Same H H') (h : Tabl H d m) : Tabl H' d m := by
  obtain ⟨kvs, h1, h2⟩ := h.ex
  exact ⟨kvs, s _ _ h1, h2⟩
def spRen (K : PySem.W.Frag) (n : Nat) : Sp := fun vs H Q _ => ∃ (x d : Addr) (t : Tr) (m : Nat → Nat), vs = [.ref x, .ref d] ∧ IsTr K H x t ∧ depT t ≤ n ∧ Tabl H d m ∧ (∀ c, (leafC c = true → leafC (m c) = true) ∧ (jointC c = true → jointC (m c) = true)) ∧ ∀ H' y, Same H H' → H y = none → IsTr K H' y (ren m t) → Q (.ref y) H'
def spRenL (K : PySem.W.Frag) : Nat → Sp
  | 0 => fun _ _ _ _ => False
  | n + 1 => spRen K (n + 1)
abbrev nRn : List Str := ["word", "table", "parts", "part"]
theorem sc_ren : FnScope nRn ["word", "table"] (defScope (top iRen)) := ⟨rfl, rfl, rfl, by decide +kernel, rfl, by decide +kernel, by decide +kernel⟩
theorem ok_ren1 {fdg fdp fdI fd1 : FuncData} {dv : V} (F : FnP K "renamed" iRen (He.ga K "renamed") fd) (T : Txt K mg) (Z : Prf K fdg fdp) (Y : Wif K fdI dv fd1) (n : Nat) (GR : FnOk P w K mg base CX0 (3 + n) (He.ga K "renamed") fd ["word", "table"] (spRenL K n)) : FnOk P w K mg base CX0 (4 + n) (He.ga K "renamed") fd ["word", "table"] (spRen K (n + 1)) := by
  have BR : Binds K fd ["word", "table"] [] := F.bindsN fun _ _ _ _ _ _ us hl => match us, hl with | [_, _], _ => rfl
  have GSg : FnOk P w K mg base CX0 1 _ fdg ["self"] (spGetS K) := ok_gets Z.fg T
  have BSg : Binds K fdg ["self"] [] := Z.fg.bindsN fun _ _ _ _ _ _ us hl => match us, hl with | [_], _ => rfl
  have GPa : FnOk P w K mg base CX0 1 _ fdp ["self"] (spGetP K) := ok_getp Z.fp T
  have BPa : Binds K fdp ["self"] [] := Z.fp.bindsN fun _ _ _ _ _ _ us hl => match us, hl with | [_], _ => rfl
  have GI : FnOk P w K mg base CX0 2 _ fdI ["self", "sign", "parts"] (spWI K) := ok_wi Y.fi T Y.ft
  have BI : Binds K fdI ["self", "sign", "parts"] [] := by
    obtain ⟨ds, h1, h2⟩ := Y.fi.binds1 (ps := ["self", "sign", "parts"]) 3 1 (by simp) (by simp) fun T kV doc pm an cdv ct us its hl hi => by
      match us, its, hl, hi with
      | [a, b, c], [e], _, _ => exact ⟨_, rfl, rfl⟩
    cases h1
    exact h2
  rw [show 4 + n = (3 + n) + 1 by omega]
  refine F.ok sc_ren (fun vs H Q E h => ?_) (fun cdv A outer s H vs Q E hr h => ?_)
  · obtain ⟨x, d, t, m, rfl, _⟩ := h
    rfl
  · obtain ⟨x, d, t, m, rfl, hx, hd, ht, hm, q⟩ := h
    have nd := sc_ren.nd
    have hr2 : Room 2 _ := hr.mono (by omega)
    have hr3 : Room 3 _ := hr.mono (by omega)
    have hu := hu_of hr
    refine ⟨_, PSs.nox (pss_cons (ps_setLc (i := 2) (own := [("part", 3)]) (g := gName 3) (by rfl) nd rfl rfl (sw_true rfl rfl rfl (by decide +kernel)) (pi_tup (pe_prop (pv 0) T.cls T.pp GPa hr2 BPa .nil pass0 rfl)) (blkOk_by (own := [("part", 3)]) (N := nRn) (sc := defScope (top iRen)) (by decide +kernel)) (fun _ _ _ _ _ => pg_name (i := 3) nd rfl (Or.inl rfl)) (fun _ _ _ _ _ => pts_nil) (fun _ _ _ _ _ => pe_call GR hr (by rfl) (T.df "renamed" iRen) F.kp BR .nil pass0 (pa_cons (pv 3) (pa_cons (pv 1) pa_nil)))) (pss_one (ps_ret (pe_make T.mks GI hr3 (by rfl) T.word BI .nil pass0 (pa_cons (pe_dget2 hu (pv 1) (pe_prop (pv 0) T.cls T.ps GSg hr2 BSg .nil pass0 rfl) (pe_prop (pv 0) T.cls T.ps GSg hr2 BSg .nil pass0 rfl) ⟨by rfl, by rfl, by rfl, by rfl⟩) (pa_cons (pv 2) pa_nil)))))), ?_⟩
    obtain ⟨ys, wx, hk⟩ := hx.kids
    obtain ⟨dx, a, h1, h2⟩ := id wx
    have hkl := hk.length
    have hk2 : (kids t).length ≤ 2 := by cases t <;> simp [kids]
    refine ⟨_, rfl, x, dx, _, rfl, h1, x, sgn t, _, rfl, wx, fun a3 ha3 => ⟨a3, rfl, ⟨_, ha3⟩, fun D hD => lc_it (walk_tup (K := K) (a := a3) (xs := ys.map V.ref)) (fun i H' => Same H H' ∧ ∃ zs : List Addr, H' D = some (.lst (zs.map V.ref)) ∧ zs.length = i ∧ AreTr K H' zs (((kids t).take i).map (ren m))) ⟨same_new hD, [], upd_same, rfl, .nil⟩ (fun i H' _ p => SqT.same p.1 ha3) ?_ ?_⟩⟩
    · rintro i v H1 H2 hi ⟨sm, zs, hz, hzl, htr⟩ ⟨rfl, hv⟩
      rw [List.getElem?_map] at hv
      obtain ⟨xa, hxa, rfl⟩ : ∃ xa, ys[i]? = some xa ∧ v = .ref xa := by
        cases e : ys[i]? with
        | none => rw [e] at hv; cases hv
        | some xa => rw [e] at hv; exact ⟨xa, rfl, (Option.some.inj hv).symm⟩
      obtain ⟨ti, hti, hta⟩ := hk.get hxa
      have hil : i < ys.length := (List.getElem?_eq_some_iff.mp hxa).1
      have hdt : depT ti + 1 ≤ n + 1 := by
        have hmem := List.mem_of_getElem? hti
        cases t with
        | lf c => cases hmem
        | nd c l r =>
          simp only [depT] at hd
          simp only [kids, List.mem_cons, List.not_mem_nil, or_false] at hmem
          rcases hmem with rfl | rfl <;> omega
      have p1 := depT_pos ti
      obtain ⟨k, rfl⟩ : ∃ k, n = k + 1 := ⟨n - 1, by omega⟩
      refine ⟨rfl, yes_if ?_⟩
      refine ⟨_, rfl, _, rfl, xa, d, ti, m, rfl, hta.same sm, by omega, ht.same sm, hm, fun H3 y s3 hy0 hy => ?_⟩
      have hz3 := s3 _ _ hz
      refine ⟨_, hz3, lt_line (by rw [List.length_map]; omega), Same.grow (sm.trans s3) hD, zs ++ [y], by rw [upd_same, List.map_append]; rfl, by rw [List.length_append, List.length_singleton, hzl], ?_⟩
      rw [List.take_succ, hti, List.map_append]
      exact ((htr.same s3).append (.cons hy .nil)).updL hz3
    · rintro H1 ⟨sm, zs, hz, hzl, htr⟩
      rw [List.length_map, hkl, List.take_length] at htr
      obtain ⟨kvs, hkv, hval⟩ := (ht.same sm).ex
      have wx1 := wx.same sm
      have o1 := sm _ _ h1
      refine ⟨_, rfl, d, rfl, .inl ⟨kvs, Rd.of hkv⟩, _, rfl, x, dx, _, rfl, o1, x, sgn t, _, rfl, wx1, _, rfl, x, dx, _, rfl, o1, x, sgn t, _, rfl, wx1, _, DGet.k (k := Sum.inr (one (sgn t))) hkv, ?_⟩
      rw [hval]
      refine ⟨_, rfl, fun y dy hy hdy ne => ?_⟩
      have s5 : Same H1 (upd (upd H1 dy (.own y)) y (.ins (wC K) dy [])) := same_two hdy (by rw [upd_ne (Ne.symm ne)]; exact hy)
      have zl : zs.length = (kids t).length := by rw [hzl, List.length_map, hkl]
      have fit : fitB (m (sgn t)) (zs.map V.ref).length = true := by
        rw [List.length_map, zl]
        have wf := hx.wf
        cases t with
        | lf c =>
          have h : leafC (m c) = true := (hm c).1 (by simpa [WF] using wf)
          show (if leafC (m c) = true then decide (0 = 0) else _) = true
          rw [if_pos h]
          rfl
        | nd c l r =>
          have hj : jointC c = true := by
            simp only [WF, Bool.and_eq_true] at wf
            exact wf.1.1
          have h : jointC (m c) = true := (hm c).2 hj
          have nl : leafC (m c) = false := by
            rcases (show m c = 43 ∨ m c = 38 by simpa [jointC] using h) with e | e <;> rw [e] <;> rfl
          show (if leafC (m c) = true then decide (2 = 0) else jointC (m c) && decide (2 = 2)) = true
          rw [nl, h]
          rfl
      refine ⟨y, m (sgn t), D, zs.map V.ref, dy, rfl, upd_same, .inl (SqL.of (s5 _ _ hz)), fit, by rw [List.length_map, zl]; omega, fun H' kept isw => ⟨rfl, ?_⟩⟩
      have s1' : Same H1 H' := fun b o z => kept b o (s5 _ _ z) (ne_of_none z hy)
      exact q H' y (sm.trans s1') (Same.free sm hy) (mk_tr hm hx.wf isw (htr.same s1'))
theorem ok_ren {fdg fdp fdI fd1 : FuncData} {dv : V} (F : FnP K "renamed" iRen (He.ga K "renamed") fd) (T : Txt K mg) (Z : Prf K fdg fdp) (Y : Wif K fdI dv fd1) : ∀ n : Nat, FnOk P w K mg base CX0 (4 + n) (He.ga K "renamed") fd ["word", "table"] (spRen K (n + 1))
  | 0 => ok_ren1 F T Z Y 0 (F.ok sc_ren (fun vs H Q E h => h.elim) fun _ _ _ _ _ _ _ _ _ h => h.elim)
  | n + 1 => ok_ren1 F T Z Y (n + 1) (by rw [show 3 + (n + 1) = 4 + n by omega]; exact ok_ren F T Z Y n)
end
end KT

set_option Elab.async false
set_option linter.all false
set_option maxRecDepth 100000
set_option maxHeartbeats 4000000
/-! # classes.py: marks -/
namespace KT
open PySem PySem.Spec PyProof.Rows L2 VX KW
section
variable {P : Program} {w : World} {K : PySem.W.Frag} {mg : Str → Option Value} {base : Heap} {f : Addr} {fd : FuncData}
/-! ### is_within, sum_mark, common_mark -/
def spWithin : Sp := fun vs H Q _ => ∃ x y : Nat, vs = [.str (one x), .str (one y)] ∧ Q (.bl (isW x y)) H
theorem sc_within : FnScope ["one", "other"] ["one", "other"] (defScope (top iWithin)) := ⟨rfl, rfl, rfl, by decide +kernel, rfl, by decide +kernel, by decide +kernel⟩
theorem ok_within (F : FnP K "is_within" iWithin f fd) (T : Txt K mg) : FnOk P w K mg base CX0 1 f fd ["one", "other"] spWithin := by
  refine F.ok sc_within (fun vs H Q E h => ?_) (fun cdv A outer s H vs Q E hr h => ?_)
  · obtain ⟨x, y, rfl, _⟩ := h
    rfl
  · obtain ⟨x, y, rfl, k⟩ := h
    refine ⟨_, PSs.nox (pss_one (ps_ret (pe_or (pe_cmpR op_eq (pv 0) (pv 1) (nomark _)) (pe_or (pe_cmpR op_eq (pv 0) pe_str (nomark _)) (pe_one (pe_cmpR op_eq (pv 1) pe_str (nomark _))))))), ?_⟩
    refine ⟨_, rfl, _, rfl, rfl, _, rfl, ?_⟩
    rw [show decide (V.str (one x) = V.str (one y)) = (x == y) from dec_one]
    unfold isW at k
    refine ite2 (fun h => ?_) (fun h => ?_)
    · rw [h] at k
      exact k
    · rw [Bool.eq_false_iff.mpr h] at k
      refine ⟨_, rfl, rfl, _, rfl, ?_⟩
      rw [show decide (V.str (one x) = V.str "0") = (x == 48) from dec_one]
      refine ite2 (fun h => ?_) (fun h => ?_)
      · rw [h] at k
        exact k
      · rw [Bool.eq_false_iff.mpr h] at k
        refine ⟨_, rfl, rfl, ?_⟩
        show Q (.bl (decide (V.str (one y) = V.str "1"))) H
        rw [show decide (V.str (one y) = V.str "1") = (y == 49) from dec_one]
        exact k
def spSumM : Sp := fun vs H Q _ => ∃ x y : Nat, vs = [.str (one x), .str (one y)] ∧ Q (.str (one (sumM x y))) H
theorem sc_sumM : FnScope ["one", "other"] ["one", "other"] (defScope (top iSumM)) := ⟨rfl, rfl, rfl, by decide +kernel, rfl, by decide +kernel, by decide +kernel⟩
theorem ok_sumM {fdW : FuncData} (F : FnP K "sum_mark" iSumM f fd) (T : Txt K mg) (FW : FnP K "is_within" iWithin (He.ga K "is_within") fdW) : FnOk P w K mg base CX0 2 f fd ["one", "other"] spSumM := by
  have GW : FnOk P w K mg base CX0 1 _ fdW ["one", "other"] spWithin := ok_within FW T
  have BW : Binds K fdW ["one", "other"] [] := FW.bindsN fun _ _ _ _ _ _ us hl => match us, hl with | [_, _], _ => rfl
  refine F.ok sc_sumM (fun vs H Q E h => ?_) (fun cdv A outer s H vs Q E hr h => ?_)
  · obtain ⟨x, y, rfl, _⟩ := h
    rfl
  · obtain ⟨x, y, rfl, k⟩ := h
    refine ⟨_, PSs.nox (pss_cons (ps_if (pt_val (pe_call GW hr (by rfl) (T.df "is_within" iWithin) FW.kp BW .nil pass0 (pa_cons (pv 0) (pa_cons (pv 1) pa_nil)))) (pss_one (ps_ret (pv 1))) pss_nil) (pss_one (ps_ret (pe_ifExp (pt_val (pe_call GW hr (by rfl) (T.df "is_within" iWithin) FW.kp BW .nil pass0 (pa_cons (pv 1) (pa_cons (pv 0) pa_nil)))) (pv 0) pe_str)))), ?_⟩
    unfold sumM at k
    refine ⟨_, rfl, _, rfl, x, y, rfl, _, rfl, ?_⟩
    refine ite2 (fun h => ?_) (fun h => ?_)
    · rw [if_pos h] at k
      exact ⟨_, rfl, k⟩
    · rw [if_neg h] at k
      refine ⟨_, rfl, _, rfl, y, x, rfl, _, rfl, ?_⟩
      refine ite2 (fun h2 => ?_) (fun h2 => ?_)
      · rw [if_pos h2] at k
        exact ⟨_, rfl, k⟩
      · rw [if_neg h2] at k
        exact k
def spCom : Sp := fun vs H Q _ => ∃ x y : Nat, vs = [.str (one x), .str (one y)] ∧ Q (.str (one (comM x y))) H
theorem sc_com : FnScope ["one", "other"] ["one", "other"] (defScope (top iComM)) := ⟨rfl, rfl, rfl, by decide +kernel, rfl, by decide +kernel, by decide +kernel⟩
theorem ok_com {fdW : FuncData} (F : FnP K "common_mark" iComM f fd) (T : Txt K mg) (FW : FnP K "is_within" iWithin (He.ga K "is_within") fdW) : FnOk P w K mg base CX0 2 f fd ["one", "other"] spCom := by
  have GW : FnOk P w K mg base CX0 1 _ fdW ["one", "other"] spWithin := ok_within FW T
  have BW : Binds K fdW ["one", "other"] [] := FW.bindsN fun _ _ _ _ _ _ us hl => match us, hl with | [_, _], _ => rfl
  refine F.ok sc_com (fun vs H Q E h => ?_) (fun cdv A outer s H vs Q E hr h => ?_)
  · obtain ⟨x, y, rfl, _⟩ := h
    rfl
  · obtain ⟨x, y, rfl, k⟩ := h
    refine ⟨_, PSs.nox (pss_cons (ps_if (pt_val (pe_call GW hr (by rfl) (T.df "is_within" iWithin) FW.kp BW .nil pass0 (pa_cons (pv 0) (pa_cons (pv 1) pa_nil)))) (pss_one (ps_ret (pv 0))) pss_nil) (pss_one (ps_ret (pe_ifExp (pt_val (pe_call GW hr (by rfl) (T.df "is_within" iWithin) FW.kp BW .nil pass0 (pa_cons (pv 1) (pa_cons (pv 0) pa_nil)))) (pv 1) pe_str)))), ?_⟩
    unfold comM at k
    refine ⟨_, rfl, _, rfl, x, y, rfl, _, rfl, ?_⟩
    refine ite2 (fun h => ?_) (fun h => ?_)
    · rw [if_pos h] at k
      exact ⟨_, rfl, k⟩
    · rw [if_neg h] at k
      refine ⟨_, rfl, _, rfl, y, x, rfl, _, rfl, ?_⟩
      refine ite2 (fun h2 => ?_) (fun h2 => ?_)
      · rw [if_pos h2] at k
        exact ⟨_, rfl, k⟩
      · rw [if_neg h2] at k
        exact k
/-! ### letter_mark -/
/-- the kind as a text -/
def kS (k : List Nat) : Str := ⟨k.toArray⟩
theorem kS_list {k : List Nat} : (kS k).cps.toList = k := by simp [kS]
theorem kS_pl {k : List Nat} : decide (V.str (kS k) = V.str "plane") = decide (k = PL) := by
  apply decide_eq_decide.mpr
  constructor
  · intro h
    injection h with h
    have := congrArg (fun s : Str => s.cps.toList) h
    simp [kS] at this
    exact this
  · rintro rfl
    rfl
def spLet : Sp := fun vs H Q _ => ∃ (c : Nat) (k : List Nat), vs = [.str (one c), .str (kS k)] ∧ Q (.str (one (letM c k))) H
theorem sc_let : FnScope ["hand", "kind"] ["hand", "kind"] (defScope (top iLetM)) := ⟨rfl, rfl, rfl, by decide +kernel, rfl, by decide +kernel, by decide +kernel⟩
theorem ok_let (F : FnP K "letter_mark" iLetM f fd) (T : Txt K mg) : FnOk P w K mg base CX0 1 f fd ["hand", "kind"] spLet := by
  obtain ⟨tm, hm⟩ := T.plane
  refine F.ok sc_let (fun vs H Q E h => ?_) (fun cdv A outer s H vs Q E hr h => ?_)
  · obtain ⟨c, k, rfl, _⟩ := h
    rfl
  · obtain ⟨c, k, rfl, q⟩ := h
    refine ⟨_, PSs.nox (pss_cons (ps_if (pt_cmpR op_eq (pv 1) (pe_glob (v := .str "plane") (by rfl) hm ⟨tm, rfl⟩) (nomark _)) (pss_one (ps_ret (pv 0))) pss_nil) (pss_one (ps_ret (pe_ifExp (pt_cmpR op_in_sign (pv 0) (pv 1) (by rfl)) pe_str pe_str)))), ?_⟩
    unfold letM at q
    refine ⟨_, rfl, rfl, _, rfl, ?_⟩
    rw [kS_pl]
    refine ite2 (fun h => ?_) (fun h => ?_)
    · have h' := of_decide_eq_true h
      rw [if_pos h'] at q
      exact ⟨_, rfl, q⟩
    · have h' : k ≠ PL := fun e => h (decide_eq_true e)
      rw [if_neg h'] at q
      refine ⟨_, rfl, _, rfl, c, _, rfl, rfl, _, rfl, ?_⟩
      rw [kS_list]
      refine ite2 (fun h2 => ?_) (fun h2 => ?_)
      · rw [if_pos (of_decide_eq_true h2)] at q
        exact q
      · rw [if_neg (fun e => h2 (decide_eq_true e))] at q
        exact q
end
end KT

set_option Elab.async false
set_option linter.all false
set_option maxRecDepth 100000
set_option maxHeartbeats 4000000
/-! # classes.py: mark -/
namespace KT
open PySem PySem.Spec PyProof.Rows L2 VX KW
section
variable {P : Program} {w : World} {K : PySem.W.Frag} {mg : Str → Option Value} {base : Heap} {f : Addr} {fd : FuncData}
theorem in_hands (c : Nat) : inV (V.str (one c)) [V.str "a", V.str "b", V.str "c"] = hand c := by
  show ((one 97 == one c) || ((one 98 == one c) || ((one 99 == one c) || false))) = _
  simp only [beq_one, hand, Bool.or_false, Bool.or_assoc]
/-- the defs that mark reaches -/
structure Mkf (K : PySem.W.Frag) (fdW fdS fdC fdL fdg fdp : FuncData) : Prop where
  fw : FnP K "is_within" iWithin (He.ga K "is_within") fdW
  fs : FnP K "sum_mark" iSumM (He.ga K "sum_mark") fdS
  fc : FnP K "common_mark" iComM (He.ga K "common_mark") fdC
  fl : FnP K "letter_mark" iLetM (He.ga K "letter_mark") fdL
  fg : FunD K "sign" "Word.sign" (defArgs sSg) (defBody sSg) (defScope sSg) [] [] (propG K "sign") fdg
  fp : FunD K "parts" "Word.parts" (defArgs sPa) (defBody sPa) (defScope sPa) [] [] (propG K "parts") fdp
def spMark (K : PySem.W.Frag) (n : Nat) : Sp := fun vs H Q _ => ∃ (x : Addr) (t : Tr) (k : List Nat), vs = [.ref x, .str (kS k)] ∧ IsTr K H x t ∧ dep t ≤ n ∧ ∀ H', Same H H' → Q (.str (one (mk k t))) H'
def spMarkL (K : PySem.W.Frag) : Nat → Sp
  | 0 => fun _ _ _ _ => False
  | n + 1 => spMark K n
abbrev nM : List Str := ["word", "kind", "first", "second", "part"]
theorem sc_mark : FnScope nM ["word", "kind"] (defScope (top iMark)) := ⟨rfl, rfl, rfl, by decide +kernel, rfl, by decide +kernel, by decide +kernel⟩
theorem ok_mark1 {fdW fdS fdC fdL fdg fdp : FuncData} (F : FnP K "mark" iMark (He.ga K "mark") fd) (T : Txt K mg) (Z : Mkf K fdW fdS fdC fdL fdg fdp) (n : Nat) (GR : FnOk P w K mg base CX0 (3 + n) (He.ga K "mark") fd ["word", "kind"] (spMarkL K n)) :
    FnOk P w K mg base CX0 (4 + n) (He.ga K "mark") fd ["word", "kind"] (spMark K n) := by
  have BR : Binds K fd ["word", "kind"] [] := F.bindsN fun _ _ _ _ _ _ us hl => match us, hl with | [_, _], _ => rfl
  have GSg : FnOk P w K mg base CX0 1 _ fdg ["self"] (spGetS K) := ok_gets Z.fg T
  have BSg : Binds K fdg ["self"] [] := Z.fg.bindsN fun _ _ _ _ _ _ us hl => match us, hl with | [_], _ => rfl
  have GPa : FnOk P w K mg base CX0 1 _ fdp ["self"] (spGetP K) := ok_getp Z.fp T
  have BPa : Binds K fdp ["self"] [] := Z.fp.bindsN fun _ _ _ _ _ _ us hl => match us, hl with | [_], _ => rfl
  have GL : FnOk P w K mg base CX0 1 _ fdL ["hand", "kind"] spLet := ok_let Z.fl T
  have BL : Binds K fdL ["hand", "kind"] [] := Z.fl.bindsN fun _ _ _ _ _ _ us hl => match us, hl with | [_, _], _ => rfl
  have GS : FnOk P w K mg base CX0 2 _ fdS ["one", "other"] spSumM := ok_sumM Z.fs T Z.fw
  have BS : Binds K fdS ["one", "other"] [] := Z.fs.bindsN fun _ _ _ _ _ _ us hl => match us, hl with | [_, _], _ => rfl
  have GC : FnOk P w K mg base CX0 2 _ fdC ["one", "other"] spCom := ok_com Z.fc T Z.fw
  have BC : Binds K fdC ["one", "other"] [] := Z.fc.bindsN fun _ _ _ _ _ _ us hl => match us, hl with | [_, _], _ => rfl
  rw [show 4 + n = (3 + n) + 1 by omega]
  refine F.ok sc_mark (fun vs H Q E h => ?_) (fun cdv A outer s H vs Q E hr h => ?_)
  · obtain ⟨x, t, k, rfl, _⟩ := h
    rfl
  · obtain ⟨x, t, k, rfl, hx, hd, q⟩ := h
    have nd := sc_mark.nd
    have hr1 : Room 1 _ := hr.mono (by omega)
    have hr2 : Room 2 _ := hr.mono (by omega)
    refine ⟨_, PSs.nox (pss_cons (ps_if (pt_cmpR op_in_seq (pe_prop (pv 0) T.cls T.ps GSg hr2 BSg .nil pass0 rfl) (pe_glob (v := .ref (He.ga K "HANDS")) (by rfl) T.hands rfl) (by rfl)) (pss_one (ps_ret (pe_call GL hr1 (by rfl) (T.df "letter_mark" iLetM) Z.fl.kp BL .nil pass0 (pa_cons (pe_prop (pv 0) T.cls T.ps GSg hr2 BSg .nil pass0 rfl) (pa_cons (pv 1) pa_nil))))) pss_nil) (pss_cons (ps_if (pt_cmpR op_eq (pe_callB call_len_seq (by rfl) (T.fr "len") boot_len (pa_cons (pe_prop (pv 0) T.cls T.pp GPa hr2 BPa .nil pass0 rfl) pa_nil)) pe_int (nomark _)) (pss_one (ps_ret (pe_prop (pv 0) T.cls T.ps GSg hr2 BSg .nil pass0 rfl))) pss_nil) (pss_cons (ps_asg (pe_lc (own := [("part", 4)]) (g := gName 4) (by rfl) nd (pi_tup (pe_prop (pv 0) T.cls T.pp GPa hr2 BPa .nil pass0 rfl)) (blkOk_by (own := [("part", 4)]) (N := nM) (sc := defScope (top iMark)) (by decide +kernel)) (fun _ _ _ _ _ => pg_name (i := 4) nd rfl (Or.inl rfl)) (fun _ _ _ _ _ => pts_nil) (fun _ _ _ _ _ => pe_call GR hr (by rfl) (T.df "mark" iMark) F.kp BR .nil pass0 (pa_cons (pv 4) (pa_cons (pv 1) pa_nil)))) (pg_unl rfl (pgs_cons (pg_name (i := 2) nd rfl (.inl rfl)) (pgs_cons (pg_name (i := 3) nd rfl (.inl rfl)) pgs_nil)))) (pss_one (ps_ret (pe_ifExp (pt_cmpR op_eq (pe_prop (pv 0) T.cls T.ps GSg hr2 BSg .nil pass0 rfl) pe_str (nomark _)) (pe_call GS hr2 (by rfl) (T.df "sum_mark" iSumM) Z.fs.kp BS .nil pass0 (pa_cons (pv 2) (pa_cons (pv 3) pa_nil))) (pe_call GC hr2 (by rfl) (T.df "common_mark" iComM) Z.fc.kp BC .nil pass0 (pa_cons (pv 2) (pa_cons (pv 3) pa_nil))))))))), ?_⟩
    cases t with
    | lf c =>
      obtain ⟨hl, hw⟩ := hx
      obtain ⟨dx, a, h1, h2⟩ := id hw
      refine ⟨_, rfl, x, dx, _, rfl, h1, x, c, _, rfl, hw, _, _, rfl, .inr (T.htup _), rfl, rfl, _, rfl, ?_⟩
      simp only [Bool.false_eq_true, if_false, in_hands]
      simp only [mk] at q
      refine ite2 (fun hh => ?_) (fun hh => ?_)
      · rw [if_pos hh] at q
        exact ⟨_, rfl, x, dx, _, rfl, h1, x, c, _, rfl, hw, _, rfl, c, k, rfl, q _ (Same.refl _)⟩
      · rw [if_neg hh] at q
        refine ⟨_, rfl, x, dx, _, rfl, h1, x, c, _, rfl, hw, fun a2 ha2 => ⟨a2, _, rfl, .inr ha2, rfl, _, rfl, ?_⟩⟩
        exact iteT ⟨_, rfl, x, dx, _, rfl, h1, x, c, _, rfl, hw, q _ (Same.refl _)⟩
    | nd c l r =>
      obtain ⟨hj, y, z, hw, hy, hz⟩ := hx
      obtain ⟨dx, a, h1, h2⟩ := id hw
      have hnh : hand c = false := by rcases joint_two hj with rfl | rfl <;> rfl
      refine ⟨_, rfl, x, dx, _, rfl, h1, x, c, _, rfl, hw, _, _, rfl, .inr (T.htup _), rfl, rfl, _, rfl, ?_⟩
      simp only [Bool.false_eq_true, if_false, in_hands, hnh]
      refine ⟨_, rfl, x, dx, _, rfl, h1, x, c, _, rfl, hw, fun a2 ha2 => ⟨a2, _, rfl, .inr ha2, rfl, _, rfl, ?_⟩⟩
      refine iteF ?_
      simp only [dep] at hd
      obtain ⟨m, rfl⟩ : ∃ m, n = m + 1 := ⟨n - 1, by omega⟩
      refine ⟨_, rfl, x, dx, _, rfl, h1, x, c, _, rfl, hw, fun a3 ha3 => ⟨a3, rfl, ⟨_, ha3⟩, fun D hD => lc_it (walk_tup (K := K) (a := a3) (xs := [.ref y, .ref z])) (fun i H' => Same H H' ∧ H' D = some (.lst (([V.str (one (mk k l)), V.str (one (mk k r))] : List V).take i))) ⟨same_new hD, upd_same⟩ (fun i H' _ p => SqT.same p.1 ha3) ?_ ?_⟩⟩
      · rintro i v H1 H2 hi ⟨sm, hDl⟩ ⟨rfl, hv⟩
        refine ⟨rfl, yes_if ?_⟩
        have go : ∀ {u : Addr} {tt : Tr}, v = .ref u → IsTr K H2 u tt → dep tt ≤ m → ([V.str (one (mk k l)), V.str (one (mk k r))] : List V)[i]? = some (.str (one (mk k tt))) →
            spMarkL K (m + 1) [v, .str (kS k)] H2 (fun v H3 => ∃ acc, H3 D = some (.lst acc) ∧ acc.length < sizeLine ∧ Same H (upd H3 D (.lst (acc ++ [v]))) ∧ (upd H3 D (.lst (acc ++ [v]))) D = some (.lst (([V.str (one (mk k l)), V.str (one (mk k r))] : List V).take (i + 1)))) E0 := fun {u tt} e ht hdt hit => by
          subst e
          exact ⟨u, tt, k, rfl, ht, hdt, fun H3 s3 => ⟨_, s3 _ _ hDl, lt_line (Nat.le_trans (List.length_take_le' _ _) (by show 2 ≤ 100000; decide)), Same.grow (sm.trans s3) hD, by rw [upd_same, take_one hit]⟩⟩
        have hi' : i = 0 ∨ i = 1 := by have : i < 2 := hi; omega
        rcases hi' with rfl | rfl
        · exact ⟨_, rfl, _, rfl, go (Option.some.inj hv).symm (hy.same sm) (by omega) rfl⟩
        · exact ⟨_, rfl, _, rfl, go (Option.some.inj hv).symm (hz.same sm) (by omega) rfl⟩
      · rintro H1 ⟨sm, hDl⟩
        refine ⟨D, _, rfl, SqL.of hDl, rfl, _, _, rfl, _, _, rfl, rfl, ?_⟩
        have w1 := hw.same sm
        obtain ⟨dx1, a1, g1, g2⟩ := id w1
        refine ⟨_, rfl, x, dx1, _, rfl, g1, x, c, _, rfl, w1, rfl, _, rfl, ?_⟩
        rw [show decide (V.str (one c) = V.str "+") = (c == 43) from dec_one]
        have q1 := q _ sm
        simp only [mk] at q1
        refine ite2 (fun h => ?_) (fun h => ?_)
        · rw [if_pos (by simpa using h)] at q1
          exact ⟨_, rfl, _, rfl, _, _, rfl, q1⟩
        · rw [if_neg (by simpa using h)] at q1
          exact ⟨_, rfl, _, rfl, _, _, rfl, q1⟩
theorem ok_mark {fdW fdS fdC fdL fdg fdp : FuncData} (F : FnP K "mark" iMark (He.ga K "mark") fd) (T : Txt K mg) (Z : Mkf K fdW fdS fdC fdL fdg fdp) : ∀ n, FnOk P w K mg base CX0 (4 + n) (He.ga K "mark") fd ["word", "kind"] (spMark K n) := by
  intro n
  induction n with
  | zero => exact ok_mark1 F T Z 0 ⟨fun _ _ _ _ h => h.elim, fun _ _ _ _ _ _ _ _ _ _ _ _ _ h => h.elim⟩
  | succ n ih => exact ok_mark1 F T Z (n + 1) (by rw [show 3 + (n + 1) = 4 + n by omega]; exact ih)
end
end KT

set_option Elab.async false
set_option linter.all false
set_option maxRecDepth 100000
set_option maxHeartbeats 4000000
/-! # classes.py: marks -/
namespace KT
open PySem PySem.Spec PyProof.Rows L2 VX KW
section
variable {P : Program} {w : World} {K : PySem.W.Frag} {mg : Str → Option Value} {base : Heap} {f : Addr} {fd : FuncData}
def dictK (g : List Nat → V) : List (Key × V) := kinds.map fun k => (Sum.inr (kS k), g k)
theorem dictK_put (g : List Nat → V) {i : Nat} {k : List Nat} (h : kinds[i]? = some k) : putK ((dictK g).take i) (Sum.inr (kS k)) (g k) = (dictK g).take (i + 1) := by
  match i, h with
  | 0, h => cases h; rfl
  | 1, h => cases h; rfl
  | 2, h => cases h; rfl
  | 3, h => cases h; rfl
  | 4, h => cases h; rfl
  | 5, h => cases h; rfl
  | 6, h => cases h; rfl
  | 7, h => cases h; rfl
  | 8, h => cases h; rfl
  | i + 9, h => exact absurd h (by simp [kinds])
theorem dictK_get (g : List Nat → V) {i : Nat} {k : List Nat} (h : kinds[i]? = some k) : valV (dictK g) (Sum.inr (kS k)) = some (g k) := by
  match i, h with
  | 0, h => cases h; rfl
  | 1, h => cases h; rfl
  | 2, h => cases h; rfl
  | 3, h => cases h; rfl
  | 4, h => cases h; rfl
  | 5, h => cases h; rfl
  | 6, h => cases h; rfl
  | 7, h => cases h; rfl
  | 8, h => cases h; rfl
  | i + 9, h => exact absurd h (by simp [kinds])
theorem kind_at {i : Nat} {v : V} (h : kindV[i]? = some v) : ∃ k, kinds[i]? = some k ∧ v = .str (kS k) := by
  match i, h with
  | 0, h => cases h; exact ⟨_, rfl, rfl⟩
  | 1, h => cases h; exact ⟨_, rfl, rfl⟩
  | 2, h => cases h; exact ⟨_, rfl, rfl⟩
  | 3, h => cases h; exact ⟨_, rfl, rfl⟩
  | 4, h => cases h; exact ⟨_, rfl, rfl⟩
  | 5, h => cases h; exact ⟨_, rfl, rfl⟩
  | 6, h => cases h; exact ⟨_, rfl, rfl⟩
  | 7, h => cases h; exact ⟨_, rfl, rfl⟩
  | 8, h => cases h; exact ⟨_, rfl, rfl⟩
  | i + 9, h => exact absurd h (by simp [kindV])
theorem it0 : PySem.intText? (one 48) = some 0 := by decide +kernel
theorem it1 : PySem.intText? (one 49) = some 1 := by decide +kernel
def markV (t : Tr) (k : List Nat) : V := if k = PL then .str (one (mk k t)) else .int ((mk k t : Int) - 48)
def spMarks (K : PySem.W.Frag) : Sp := fun vs H Q _ => ∃ (x : Addr) (t : Tr), vs = [.ref x] ∧ IsTr K H x t ∧ dep t ≤ 20 ∧ ∀ H' d, Same H H' → H d = none → H' d = some (.dK (dictK (markV t))) → Q (.ref d) H'
abbrev nMs : List Str := ["word", "told", "kind"]
theorem sc_marks : FnScope nMs ["word"] (defScope (top iMarks)) := ⟨rfl, rfl, rfl, by decide +kernel, rfl, by decide +kernel, by decide +kernel⟩
theorem ok_marks {fdM fdW fdS fdC fdL fdg fdp : FuncData} (F : FnP K "marks" iMarks f fd) (T : Txt K mg) (FM : FnP K "mark" iMark (He.ga K "mark") fdM) (Z : Mkf K fdW fdS fdC fdL fdg fdp) : FnOk P w K mg base CX0 25 f fd ["word"] (spMarks K) := by
  have GM : FnOk P w K mg base CX0 24 _ fdM ["word", "kind"] (spMark K 20) := ok_mark FM T Z 20
  have BM : Binds K fdM ["word", "kind"] [] := FM.bindsN fun _ _ _ _ _ _ us hl => match us, hl with | [_, _], _ => rfl
  obtain ⟨tm, hm⟩ := T.plane
  refine F.ok sc_marks (fun vs H Q E h => ?_) (fun cdv A outer s H vs Q E hr h => ?_)
  · obtain ⟨x, t, rfl, _⟩ := h
    rfl
  · obtain ⟨x, t, rfl, hx, hd, q⟩ := h
    have nd := sc_marks.nd
    have hu := hu_of hr
    have hwf := hx.wf
    refine ⟨_, PSs.nox (pss_cons (ps_set (i := 1) nd rfl (.inr rfl) (pe_dc (own := [("kind", 2)]) (g := gName 2) (tt := tYes) rfl nd (pi_tup (pe_glob (v := .ref (He.ga K "KINDS")) (by rfl) T.kinds rfl)) (blkOk_by (own := [("kind", 2)]) (N := nMs) (sc := defScope (top iMarks)) (by decide +kernel)) (fun _ _ _ _ _ => pg_name (i := 2) nd rfl (Or.inl rfl)) (fun _ _ _ _ _ => pts_nil) (fun _ _ _ _ _ => pv 2) (fun _ _ _ _ _ => pe_call GM hr (by rfl) (T.df "mark" iMark) FM.kp BM .nil pass0 (pa_cons (pv 0) (pa_cons (pv 2) pa_nil))))) (pss_one (ps_ret (pe_dc (own := [("kind", 2)]) (g := gName 2) (tt := tYes) rfl nd (pi_tup (pe_glob (v := .ref (He.ga K "KINDS")) (by rfl) T.kinds rfl)) (blkOk_by (own := [("kind", 2)]) (N := nMs) (sc := defScope (top iMarks)) (by decide +kernel)) (fun _ _ _ _ _ => pg_name (i := 2) nd rfl (Or.inl rfl)) (fun _ _ _ _ _ => pts_nil) (fun _ _ _ _ _ => pv 2) (fun _ _ _ _ _ => pe_ifExp (pt_cmpR op_eq (pv 2) (pe_glob (v := .str "plane") (by rfl) hm ⟨tm, rfl⟩) (nomark _)) (pe_dget hu (pv 1) (pv 2) (fun _ _ => rfl)) (pe_callTy call_int_str (by rfl) (T.fr "int") (by decide +kernel) (pa_cons (pe_dget hu (pv 1) (pv 2) (fun _ _ => rfl)) pa_nil))))))), ?_⟩
    refine ⟨_, rfl, ⟨_, T.ktup _⟩, fun D hD => dc_tup (K := K) (xs := kindV) (fun i H' => Same H H' ∧ H' D = some (.dK ((dictK fun k => .str (one (mk k t))).take i))) ⟨same_new hD, upd_same⟩ (fun i H' _ _ => T.ktup H') ?_ ?_⟩
    · rintro i v H1 hv ⟨sm, hDl⟩
      obtain ⟨k, hk, rfl⟩ := kind_at hv
      refine ⟨rfl, yes_if ?_⟩
      refine ⟨_, rfl, _, rfl, _, rfl, x, t, k, rfl, hx.same sm, hd, fun H2 s2 => ⟨_, Sum.inr (kS k), rfl, s2 _ _ hDl, lt_line (Nat.le_trans (List.length_take_le' _ _) (by show 9 ≤ 100000; decide)), Same.grow (sm.trans s2) hD, ?_⟩⟩
      rw [upd_same, dictK_put (fun k => .str (one (mk k t))) hk]
    · rintro H1 ⟨sm, hDl⟩
      have hDl : H1 D = some (.dK (dictK fun k => .str (one (mk k t)))) := hDl
      refine ⟨_, rfl, ⟨_, T.ktup _⟩, fun D2 hD2 => dc_tup (K := K) (xs := kindV) (fun i H' => Same H1 H' ∧ H' D2 = some (.dK ((dictK (markV t)).take i))) ⟨same_new hD2, upd_same⟩ (fun i H' _ _ => T.ktup H') ?_ ?_⟩
      · rintro i v H2 hv ⟨sm2, hDl2⟩
        obtain ⟨k, hk, rfl⟩ := kind_at hv
        refine ⟨rfl, yes_if ?_⟩
        have fin : ∃ kvs ky, V.str (kS k) = kV ky ∧ H2 D2 = some (.dK kvs) ∧ kvs.length < sizeLine ∧ Same H1 (upd H2 D2 (.dK (putK kvs ky (markV t k)))) ∧ (upd H2 D2 (.dK (putK kvs ky (markV t k)))) D2 = some (.dK ((dictK (markV t)).take (i + 1))) :=
          ⟨_, Sum.inr (kS k), rfl, hDl2, lt_line (Nat.le_trans (List.length_take_le' _ _) (by show 9 ≤ 100000; decide)), Same.grow sm2 hD2, by rw [upd_same, dictK_put (markV t) hk]⟩
        have get : DGet H2 D (.str (kS k)) (some (.str (one (mk k t)))) := by
          have := DGet.k (k := Sum.inr (kS k)) (sm2 _ _ hDl)
          rw [dictK_get (fun k => .str (one (mk k t))) hk] at this
          exact this
        refine ⟨_, rfl, _, rfl, rfl, _, rfl, ?_⟩
        rw [kS_pl]
        unfold markV at fin
        refine ite2 (fun h => ?_) (fun h => ?_)
        · rw [if_pos (of_decide_eq_true h)] at fin
          exact ⟨_, rfl, _, rfl, D, _, rfl, get, fin⟩
        · have h' : k ≠ PL := fun e => h (decide_eq_true e)
          rw [if_neg h'] at fin
          obtain ⟨b1, _⟩ := li_mk h' hwf
          refine ⟨_, rfl, _, rfl, D, _, rfl, get, _, (mk k t : Int) - 48, rfl, ?_, ?_, fin⟩
          · rcases b1 with e | e
            · rw [e]; exact it0
            · rw [e]; exact it1
          · show 1 ≤ 640; decide
      · rintro H2 ⟨sm2, hDl2⟩
        have hD0 : H D2 = none := sm.free hD2
        exact q _ _ (sm.trans sm2) hD0 hDl2
end
end KT

set_option Elab.async false
set_option linter.all false
set_option maxRecDepth 100000
set_option maxHeartbeats 4000000
/-! # the draws, trees -/
namespace KT
open PySem PySem.Spec PyProof.Rows L2 VX KW
section
variable {P : Program} {w : World} {K : PySem.W.Frag} {mg : Str → Option Value} {base : Heap} {f : Addr} {fd : FuncData}
theorem sc_cell : FnScope ["_law_script", "_law_k"] ["_law_script", "_law_k"] (defScope (top iCell)) := ⟨rfl, rfl, rfl, by decide +kernel, rfl, by decide +kernel, by decide +kernel⟩
theorem ok_cell (F : FnP K "_law_cell" iCell f fd) (T : Txt K mg) : FnOk P w K mg base CX0 1 f fd ["_law_script", "_law_k"] (spCell K) := by
  refine F.ok sc_cell (fun vs H Q E h => ?_) (fun cdv A outer s H vs Q E hr h => ⟨tCellE K, PSs.nox ?_, cellE_run h⟩)
  · obtain ⟨l, ns, j, rfl, _⟩ := h
    rfl
  · exact pss_one (ps_ret (pe_ifExp (pt_cmp (pc_lt (pv 1) (pe_callB call_len (by rfl) (T.fr "len") boot_len (pa_cons (pv 0) pa_nil)))) (pe_ix ix_seq (pv 0) (pv 1) fun _ _ => rfl) pe_int))
/-! ### _law_box -/
theorem sc_box : FnScope ["_law_script", "_law_k"] ["_law_script", "_law_k"] (defScope (top iBox)) := ⟨rfl, rfl, rfl, by decide +kernel, rfl, by decide +kernel, by decide +kernel⟩
theorem ok_box {fd1 : FuncData} (F : FnP K "_law_box" iBox f fd) (T : Txt K mg) (F1 : FnP K "_law_cell" iCell (He.ga K "_law_cell") fd1) : FnOk P w K mg base CX0 2 f fd ["_law_script", "_law_k"] (spBox K) := by
  have G1 : FnOk P w K mg base CX0 1 _ fd1 ["_law_script", "_law_k"] (spCell K) := ok_cell F1 T
  have B1 : Binds K fd1 ["_law_script", "_law_k"] [] := F1.bindsN fun _ _ _ _ _ _ us hl => match us, hl with | [_, _], _ => rfl
  refine F.ok sc_box (fun vs H Q E h => ?_) (fun cdv A outer s H vs Q E hr h => ?_)
  · obtain ⟨l, ns, j, rfl, _⟩ := h
    rfl
  · obtain ⟨l, ns, j, rfl, hs, hj, k⟩ := h
    refine ⟨_, PSs.nox (pss_one (ps_ret (pe_lst (pa_cons (pe_callB call_abs (by rfl) (T.fr "abs") (by decide +kernel) (pa_cons (pe_callTy call_int1 (by rfl) (T.fr "int") boot_int
      (pa_cons (pe_call G1 hr (by rfl) (T.df "_law_cell" iCell) F1.kp B1 .nil pass0 (pa_cons (pv 0) (pa_cons (pv 1) pa_nil))) pa_nil)) pa_nil)) (pa_cons pe_int (pa_cons (pe_op op_add (pe_op op_mul pe_int (pv 1)) pe_int) pa_nil)))))), ?_⟩
    refine ⟨_, rfl, _, rfl, l, ns, j, rfl, hs, .inl ⟨_, rfl, _, rfl, _, rfl, _, _, rfl, rfl, .inl ⟨by decide, by decide⟩, _, _, rfl, rfl, (by show 3 ≤ sizeLine; decide), fun p hp => ?_⟩⟩
    have e : (if cellOf ns j < 0 then -cellOf ns j else cellOf ns j) = ((cellOf ns j).natAbs : Int) := by
      by_cases h : cellOf ns j < 0
      · rw [if_pos h]; omega
      · rw [if_neg h]; omega
    rw [e]
    exact k p _ hp (same_new hp) ⟨_, 0, _, upd_same, by omega, by omega, by omega, by omega, by omega⟩
/-! ### _law_take -/
theorem sc_take : FnScope ["_law_box_here", "_law_many", "_law_digit", "_law_mixed"] ["_law_box_here", "_law_many"] (defScope (top iTake)) := ⟨rfl, rfl, rfl, by decide +kernel, rfl, by decide +kernel, by decide +kernel⟩
theorem ok_take (F : FnP K "_law_take" iTake f fd) (T : Txt K mg) : FnOk P w K mg base CX0 1 f fd ["_law_box_here", "_law_many"] spTake := by
  refine F.ok sc_take (fun vs H Q E h => ?_) (fun cdv A outer s H vs Q E hr h => ?_)
  · obtain ⟨b, m, x, y, z, rfl, _⟩ := h
    rfl
  · obtain ⟨b, m, x, y, z, rfl, hb, x0, y0, y1, z0, z1, m0, m1, k⟩ := h
    have i0 := T.fr "int"
    refine ⟨_, PSs.nox (pss_cons (ps_if (pt_cmpR op_ge (pe_ix ix_list (pv 0) pe_int (fun _ _ => rfl)) (pe_op op_pow pe_int pe_int) (nomark _))
        (pss_cons (ps_set (i := 2) sc_take.nd rfl (Or.inl rfl) (pe_op op_mod (pe_callTy call_int1 (by rfl) i0 boot_int (pa_cons (pe_ix ix_list (pv 0) pe_int (fun _ _ => rfl)) pa_nil)) (pv 1)))
        (pss_cons (ps_asg (pe_op op_fdiv (pe_ix ix_list (pv 0) pe_int (fun _ _ => rfl)) (pv 1)) (pg_sub (pv 0) pe_int set_list))
        (pss_one (ps_ret (pv 2))))) pss_nil)
      (pss_cons (ps_asg (pe_op op_add (pe_ix ix_list (pv 0) pe_int (fun _ _ => rfl)) pe_int) (pg_sub (pv 0) pe_int set_list))
      (pss_cons (ps_set (i := 3) sc_take.nd rfl (Or.inl rfl) (pe_op op_mod (pe_op op_pw (pe_callTy call_int1 (by rfl) i0 boot_int (pa_cons (pe_op op_add (pe_op op_add (pe_op op_mul (pe_op op_add (pe_ix ix_list (pv 0) pe_int (fun _ _ => rfl)) pe_int) pe_int)
          (pe_op op_mul (pe_ix ix_list (pv 0) pe_int (fun _ _ => rfl)) pe_int)) (pe_ix ix_list (pv 0) pe_int (fun _ _ => rfl))) pa_nil)) pe_int) pe_int))
      (pss_cons (ps_set (i := 3) sc_take.nd rfl (Or.inl rfl) (pe_op op_mod (pe_op op_pw (pe_callTy call_int1 (by rfl) i0 boot_int (pa_cons (pe_op op_add (pv 3) (pe_op op_mul (pe_ix ix_list (pv 0) pe_int (fun _ _ => rfl)) pe_int)) pa_nil)) pe_int) pe_int))
      (pss_one (ps_ret (pe_op op_mod (pe_callTy call_int1 (by rfl) i0 boot_int (pa_cons (pe_op op_fdiv (pv 3) pe_int) pa_nil)) (pv 1)))))))), ?_⟩
    refine ⟨_, rfl, b, _, _, _, rfl, rfl, SqL.of hb, rfl, _, _, rfl, rfl, ⟨by decide, by decide, by decide⟩, _, _, rfl, rfl, _, rfl, ?_⟩
    refine ite2 (fun c => ?_) (fun c => ?_)
    · refine ⟨_, rfl, b, _, _, _, rfl, rfl, SqL.of hb, rfl, .inl ⟨_, rfl, _, rfl, _, _, rfl, rfl, m0, ?_⟩⟩
      refine ⟨_, rfl, b, _, _, _, rfl, rfl, SqL.of hb, rfl, _, rfl, _, _, rfl, rfl, ⟨m0, by omega⟩, ?_⟩
      refine ⟨_, rfl, b, _, _, 0, rfl, rfl, hb, rfl, _, rfl, ?_⟩
      have d0 : 0 ≤ x % m := Int.emod_nonneg x (by omega)
      have d1 : x % m < m := Int.emod_lt_of_pos x m0
      have q0 : 0 ≤ x / m := Int.ediv_nonneg x0 (by omega)
      have q1 : x / m ≤ x := Int.ediv_le_self m x0
      exact k (x % m) (x / m) y d0 d1 q0 q1 (by omega) (by omega)
    · have c' : x < 10 ^ 18 := by simpa using c
      refine ⟨_, rfl, b, _, _, _, rfl, rfl, SqL.of hb, rfl, _, _, rfl, rfl, ?_⟩
      refine ⟨_, rfl, b, _, _, 1, rfl, rfl, hb, rfl, ?_⟩
      have h1 : upd H b (.lst (([V.int x, V.int y, V.int z] : List V).set 1 (V.int (y + 1)))) b = some (.lst [.int x, .int (y + 1), .int z]) := upd_same
      refine ⟨_, rfl, b, _, _, _, rfl, rfl, SqL.of h1, rfl, _, _, rfl, rfl, _, _, rfl, rfl, .inr ⟨by decide, by decide⟩, _, rfl, b, _, _, _, rfl, rfl, SqL.of h1, rfl, _, _, rfl, rfl, .inr ⟨by decide, by decide⟩, _, _, rfl, rfl, _, rfl, b, _, _, _, rfl, rfl, SqL.of h1, rfl, _, _, rfl, rfl, .inl ⟨_, rfl, _, _, rfl, rfl, pw_ok (by omega) (by omega), _, _, rfl, rfl, (by show (0 : Int) < 2147483647; decide), ?_⟩⟩
      refine ⟨_, rfl, _, rfl, b, _, _, _, rfl, rfl, SqL.of h1, rfl, _, _, rfl, rfl, .inr ⟨by decide, by decide⟩, _, _, rfl, rfl, .inl ⟨_, rfl, _, _, rfl, rfl, ?_, _, _, rfl, rfl, (by show (0 : Int) < 2147483399; decide), ?_⟩⟩
      · have a0 := Int.emod_nonneg (((x + 7) * 69069 + (y + 1) * 40692 + z) ^ Int.toNat 3) (show (2147483647 : Int) ≠ 0 by decide)
        have a1 := Int.emod_lt_of_pos (((x + 7) * 69069 + (y + 1) * 40692 + z) ^ Int.toNat 3) (show (0 : Int) < 2147483647 by decide)
        exact pw_ok (by omega) (by omega)
      · refine ⟨_, rfl, _, _, rfl, rfl, ⟨by decide, by decide⟩, .inl ⟨_, rfl, _, rfl, _, _, rfl, rfl, m0, ?_⟩⟩
        exact k _ x (y + 1) (Int.emod_nonneg _ (by omega)) (Int.emod_lt_of_pos _ m0) x0 (Int.le_refl x) (by omega) (by omega)
/-! ### _law_tree -/
/-- the tree of tuples at v -/
def IsTT (H : Hp) : V → Tr → Prop
  | v, .lf c => leafC c = true ∧ ∃ a, v = .ref a ∧ H a = some (.tup [.str (one c), .non, .non])
  | v, .nd c l r => jointC c = true ∧ ∃ a u z, v = .ref a ∧ H a = some (.tup [.str (one c), u, z]) ∧ IsTT H u l ∧ IsTT H z r
theorem IsTT.wf {H : Hp} : ∀ {t : Tr} {v : V}, IsTT H v t → WF t = true
  | .lf c, _, h => h.1
  | .nd c l r, _, h => by
    obtain ⟨j, a, u, z, _, _, h2, h3⟩ := h
    simp only [WF, j, h2.wf, h3.wf, Bool.and_self]
theorem IsTT.same {H H' : Hp} (s : Same H H') : ∀ {t : Tr} {v : V}, IsTT H v t → IsTT H' v t
  | .lf c, _, h => by
    obtain ⟨j, a, e, h1⟩ := h
    exact ⟨j, a, e, s _ _ h1⟩
  | .nd c l r, _, h => by
    obtain ⟨j, a, u, z, e, h1, h2, h3⟩ := h
    exact ⟨j, a, u, z, e, s _ _ h1, h2.same s, h3.same s⟩
theorem IsTT.kept {H H' : Hp} {b : Addr} {N : Nat} (k : Kept b H H') (hb : BoxK H b N) : ∀ {t : Tr} {v : V}, IsTT H v t → IsTT H' v t
  | .lf c, _, h => by
    obtain ⟨j, a, e, h1⟩ := h
    obtain ⟨xs, hx⟩ := hb.at
    exact ⟨j, a, e, k _ _ h1 (ne_of h1 hx (by intro z; cases z))⟩
  | .nd c l r, _, h => by
    obtain ⟨j, a, u, z, e, h1, h2, h3⟩ := h
    obtain ⟨xs, hx⟩ := hb.at
    exact ⟨j, a, u, z, e, k _ _ h1 (ne_of h1 hx (by intro z; cases z)), h2.kept k hb, h3.kept k hb⟩
theorem IsTT.ref {H : Hp} : ∀ {t : Tr} {v : V}, IsTT H v t → ∃ a, v = .ref a
  | .lf _, _, h => let ⟨_, a, e, _⟩ := h; ⟨a, e⟩
  | .nd _ _ _, _, h => let ⟨_, a, _, _, e, _⟩ := h; ⟨a, e⟩
def spTree (n : Nat) : Sp := fun vs H Q _ => ∃ (b : Addr) (N m : Nat), vs = [.ref b, .int m] ∧ BoxK H b N ∧ N + 3 * m ≤ 800000 ∧ m ≤ 1000 ∧ 1 ≤ m ∧ m ≤ n + 1 ∧
  ∀ H' a t, Kept b H H' → BoxK H' b (N + (3 * m - 2)) → IsTT H' (.ref a) t → dep t < m → Q (.ref a) H'
def spTreeL : Nat → Sp
  | 0 => fun _ _ _ _ => False
  | n + 1 => spTree n
theorem sc_tree : FnScope ["_law_box_here", "_law_size", "_law_left"] ["_law_box_here", "_law_size"] (defScope (top iTree)) := ⟨rfl, rfl, rfl, by decide +kernel, rfl, by decide +kernel, by decide +kernel⟩
theorem ok_tree1 {fdT : FuncData} (F : FnP K "_law_tree" iTree (He.ga K "_law_tree") fd) (T : Txt K mg) (FT : FnP K "_law_take" iTake (He.ga K "_law_take") fdT) (n : Nat) (GR : FnOk P w K mg base CX0 (1 + n) (He.ga K "_law_tree") fd ["_law_box_here", "_law_size"] (spTreeL n)) :
    FnOk P w K mg base CX0 (2 + n) (He.ga K "_law_tree") fd ["_law_box_here", "_law_size"] (spTree n) := by
  have BR : Binds K fd ["_law_box_here", "_law_size"] [] := F.bindsN fun _ _ _ _ _ _ us hl => match us, hl with | [_, _], _ => rfl
  have GT : FnOk P w K mg base CX0 1 _ fdT ["_law_box_here", "_law_many"] spTake := ok_take FT T
  have BT : Binds K fdT ["_law_box_here", "_law_many"] [] := FT.bindsN fun _ _ _ _ _ _ us hl => match us, hl with | [_, _], _ => rfl
  rw [show 2 + n = (1 + n) + 1 by omega]
  refine F.ok sc_tree (fun vs H Q E h => ?_) (fun cdv A outer s H vs Q E hr h => ?_)
  · obtain ⟨b, N, m, rfl, _⟩ := h
    rfl
  · obtain ⟨b, N, m, rfl, hb, hN, hm9, hm1, hmn, q⟩ := h
    have nd := sc_tree.nd
    have hr1 : Room 1 _ := hr.mono (by omega)
    refine ⟨_, PSs.nox (pss_cons (ps_if (pt_cmpR op_eq (pv 1) pe_int (nomark _)) (pss_one (ps_ret (pe_tup (pa_cons (pe_ix ix_list (pe_lst (pa_cons pe_str (pa_cons pe_str (pa_cons pe_str (pa_cons pe_str (pa_cons pe_str (pa_cons pe_str (pa_cons pe_str (pa_cons pe_str pa_nil))))))))) (pe_call GT hr1 (by rfl) (T.df "_law_take" iTake) FT.kp BT .nil pass0 (pa_cons (pv 0) (pa_cons pe_int pa_nil))) (fun _ _ => rfl)) (pa_cons pe_non (pa_cons pe_non pa_nil)))))) pss_nil) (pss_cons (ps_set (i := 2) nd rfl (.inl rfl) (pe_op op_add pe_int (pe_call GT hr1 (by rfl) (T.df "_law_take" iTake) FT.kp BT .nil pass0 (pa_cons (pv 0) (pa_cons (pe_op op_sub (pv 1) pe_int) pa_nil))))) (pss_one (ps_ret (pe_tup (pa_cons (pe_ix ix_list (pe_lst (pa_cons pe_str (pa_cons pe_str pa_nil))) (pe_call GT hr1 (by rfl) (T.df "_law_take" iTake) FT.kp BT .nil pass0 (pa_cons (pv 0) (pa_cons pe_int pa_nil))) (fun _ _ => rfl)) (pa_cons (pe_call GR hr (by rfl) (T.df "_law_tree" iTree) F.kp BR .nil pass0 (pa_cons (pv 0) (pa_cons (pv 2) pa_nil))) (pa_cons (pe_call GR hr (by rfl) (T.df "_law_tree" iTree) F.kp BR .nil pass0 (pa_cons (pv 0) (pa_cons (pe_op op_sub (pv 1) (pv 2)) pa_nil))) pa_nil)))))))), ?_⟩
    refine ⟨_, rfl, rfl, _, rfl, ?_⟩
    refine ite2 (fun h1 => ?_) (fun h1 => ?_)
    · have e1 : m = 1 := by
        have := of_decide_eq_true h1
        injection this with this
        omega
      subst e1
      refine ⟨(by show 8 ≤ sizeLine; decide), fun l0 hl0 => ⟨_, rfl, ?_⟩⟩
      dsimp -proj only [tCons, tC, tNil, List.append_nil]
      refine pick_use (m := 8) hb hl0 (by omega) rfl (by decide) (by decide) fun v H1 hv k1 b1 => ?_
      have hv : ∃ c, v = .str (one c) ∧ leafC c = true := by
        simp only [List.mem_cons, List.not_mem_nil, or_false] at hv
        rcases hv with rfl | rfl | rfl | rfl | rfl | rfl | rfl | rfl
        · exact ⟨97, rfl, rfl⟩
        · exact ⟨98, rfl, rfl⟩
        · exact ⟨99, rfl, rfl⟩
        · exact ⟨97, rfl, rfl⟩
        · exact ⟨98, rfl, rfl⟩
        · exact ⟨99, rfl, rfl⟩
        · exact ⟨48, rfl, rfl⟩
        · exact ⟨49, rfl, rfl⟩
      obtain ⟨c, rfl, hc⟩ := hv
      refine ⟨(by show 3 ≤ sizeLine; decide), fun p hp => ?_⟩
      have s1 := same_new (o := .tup [.str (one c), .non, .non]) hp
      exact q _ p (.lf c) (k1.trans (Kept.of s1)) ((b1.same s1).mono (by omega)) ⟨hc, p, rfl, upd_same⟩ (by show 0 < 1; decide)
    · have h1' : m ≠ 1 := fun e => h1 (decide_eq_true (by rw [e]; rfl))
      obtain ⟨n, rfl⟩ : ∃ n', n = n' + 1 := ⟨n - 1, by omega⟩
      refine ⟨_, rfl, _, rfl, _, _, rfl, rfl, ?_⟩
      dsimp -proj only [tCons, tC, tNil, List.append_nil]
      refine take_use (m := (m : Int) - 1) hb (by omega) (by omega) (by omega) fun d H1 d0 d1 k1 b1 _ => ?_
      obtain ⟨e, rfl⟩ : ∃ e : Nat, d = (e : Int) := ⟨d.toNat, by omega⟩
      refine ⟨_, _, rfl, rfl, ?_⟩
      refine ⟨(by show 2 ≤ sizeLine; decide), fun l0 hl0 => ⟨_, rfl, ?_⟩⟩
      dsimp -proj only [tCons, tC, tNil, List.append_nil]
      refine pick_use (m := 2) b1 hl0 (by omega) rfl (by decide) (by decide) fun v H2 hv k2 b2 => ?_
      have hv : ∃ c, v = .str (one c) ∧ jointC c = true := by
        simp only [List.mem_cons, List.not_mem_nil, or_false] at hv
        rcases hv with rfl | rfl
        · exact ⟨43, rfl, rfl⟩
        · exact ⟨38, rfl, rfl⟩
      obtain ⟨c, rfl, hc⟩ := hv
      refine ⟨_, rfl, _, rfl, b, N + 1 + 1, e + 1, ?_, b2, by omega, by omega, by omega, by omega, fun H3 a1 t1 k3 b3 ht1 hd1 => ?_⟩
      · show [V.ref b, V.int (1 + (e : Int))] = _
        rw [show (1 + (e : Int)) = ((e + 1 : Nat) : Int) by omega]
      refine ⟨_, rfl, _, rfl, _, rfl, _, _, rfl, rfl, b, _, m - (e + 1), ?_, b3, by omega, by omega, by omega, by omega, fun H4 a2 t2 k4 b4 ht2 hd2 => ?_⟩
      · show [V.ref b, V.int ((m : Int) - (1 + (e : Int)))] = _
        rw [show ((m : Int) - (1 + (e : Int))) = ((m - (e + 1) : Nat) : Int) by omega]
      refine ⟨(by show 3 ≤ sizeLine; decide), fun p hp => ?_⟩
      have s1 := same_new (o := .tup [.str (one c), .ref a1, .ref a2]) hp
      refine q _ p (.nd c t1 t2) (k1.trans (k2.trans (k3.trans (k4.trans (Kept.of s1))))) ((b4.same s1).mono (by omega)) ⟨hc, p, .ref a1, .ref a2, rfl, upd_same, (ht1.kept k4 b3).same s1, ht2.same s1⟩ ?_
      simp only [dep]
      omega
theorem ok_tree {fdT : FuncData} (F : FnP K "_law_tree" iTree (He.ga K "_law_tree") fd) (T : Txt K mg) (FT : FnP K "_law_take" iTake (He.ga K "_law_take") fdT) : ∀ n, FnOk P w K mg base CX0 (2 + n) (He.ga K "_law_tree") fd ["_law_box_here", "_law_size"] (spTree n) := by
  intro n
  induction n with
  | zero => exact ok_tree1 F T FT 0 ⟨fun _ _ _ _ h => h.elim, fun _ _ _ _ _ _ _ _ _ _ _ _ _ h => h.elim⟩
  | succ n ih => exact ok_tree1 F T FT (n + 1) (by rw [show 1 + (n + 1) = 2 + n by omega]; exact ih)
end
end KT

set_option Elab.async false
set_option linter.all false
set_option maxRecDepth 100000
set_option maxHeartbeats 4000000
/-! # _law_word -/
namespace KT
open PySem PySem.Spec PyProof.Rows L2 VX KW
section
variable {P : Program} {w : World} {K : PySem.W.Frag} {mg : Str → Option Value} {base : Heap} {f : Addr} {fd : FuncData}
theorem Wif.b1 {fdI fd1 : FuncData} {dv : V} (Z : Wif K fdI dv fd1) : Binds K fdI ["self", "sign", "parts"] [] := by
  obtain ⟨ds, h1, h2⟩ := Z.fi.binds1 (ps := ["self", "sign", "parts"]) 3 1 (by simp) (by simp) fun T kV doc pm an cdv ct us its hl hi => by
    match us, its, hl, hi with
    | [a, b, c], [e], _, _ => exact ⟨_, rfl, rfl⟩
  cases h1
  exact h2
def spLWord (K : PySem.W.Frag) (n : Nat) : Sp := fun vs H Q _ => ∃ (v : V) (t : Tr), vs = [v] ∧ IsTT H v t ∧ dep t ≤ n ∧ ∀ H' x, Same H H' → IsTr K H' x t → Q (.ref x) H'
def spLWordL (K : PySem.W.Frag) : Nat → Sp
  | 0 => fun _ _ _ _ => False
  | n + 1 => spLWord K n
theorem sc_lword : FnScope ["_law_tree_here"] ["_law_tree_here"] (defScope (top iLWord)) := ⟨rfl, rfl, rfl, by decide +kernel, rfl, by decide +kernel, by decide +kernel⟩
theorem ok_lword1 {fdI fd1 : FuncData} {dv : V} (F : FnP K "_law_word" iLWord (He.ga K "_law_word") fd) (T : Txt K mg) (Z : Wif K fdI dv fd1) (n : Nat) (GR : FnOk P w K mg base CX0 (3 + n) (He.ga K "_law_word") fd ["_law_tree_here"] (spLWordL K n)) :
    FnOk P w K mg base CX0 (4 + n) (He.ga K "_law_word") fd ["_law_tree_here"] (spLWord K n) := by
  have BR : Binds K fd ["_law_tree_here"] [] := F.bindsN fun _ _ _ _ _ _ us hl => match us, hl with | [_], _ => rfl
  have GI : FnOk P w K mg base CX0 2 _ fdI ["self", "sign", "parts"] (spWI K) := ok_wi Z.fi T Z.ft
  obtain ⟨ds, h0, BI0⟩ := Z.b0
  have BI := Z.b1
  obtain ⟨ad, rfl, hdv⟩ := Z.dv
  rw [show 4 + n = (3 + n) + 1 by omega]
  refine F.ok sc_lword (fun vs H Q E h => ?_) (fun cdv A outer s H vs Q E hr h => ?_)
  · obtain ⟨v, t, rfl, _⟩ := h
    rfl
  · obtain ⟨v, t, rfl, ht, hd, q⟩ := h
    have nd := sc_lword.nd
    have hr3 : Room (2 + 1) _ := hr.mono (by omega)
    refine ⟨_, PSs.nox (pss_cons (ps_if (pt_cmpR op_isN (pe_ix ix_tup (pv 0) pe_int (fun _ _ => rfl)) pe_non (nomark _)) (pss_one (ps_ret (pe_make T.mks GI hr3 (by rfl) T.word BI0 h0 pass0 (pa_cons (pe_ix ix_tup (pv 0) pe_int (fun _ _ => rfl)) pa_nil)))) pss_nil) (pss_one (ps_ret (pe_make T.mks GI hr3 (by rfl) T.word BI .nil pass0 (pa_cons (pe_ix ix_tup (pv 0) pe_int (fun _ _ => rfl)) (pa_cons (pe_lst (pa_cons (pe_call GR hr (by rfl) (T.df "_law_word" iLWord) F.kp BR .nil pass0 (pa_cons (pe_ix ix_tup (pv 0) pe_int (fun _ _ => rfl)) pa_nil)) (pa_cons (pe_call GR hr (by rfl) (T.df "_law_word" iLWord) F.kp BR .nil pass0 (pa_cons (pe_ix ix_tup (pv 0) pe_int (fun _ _ => rfl)) pa_nil)) pa_nil))) pa_nil)))))), ?_⟩
    cases t with
    | lf c =>
      obtain ⟨hc, a, rfl, ha⟩ := ht
      refine ⟨_, rfl, a, _, 1, _, rfl, rfl, SqT.of ha, rfl, rfl, _, rfl, ?_⟩
      refine iteT ⟨_, rfl, a, _, 0, _, rfl, rfl, SqT.of ha, rfl, fun x dx hx hdx ne => ?_⟩
      have s1 : Same H (upd (upd H dx (.own x)) x (.ins (wC K) dx [])) := same_two hdx (by rw [upd_ne (Ne.symm ne)]; exact hx)
      refine ⟨x, c, ad, [], dx, rfl, upd_same, .inr (hdv _), (by show fitB c 0 = true; simp [fitB, hc]), (by show 0 ≤ 1000; decide), fun H' kept isw => ⟨rfl, ?_⟩⟩
      exact q H' x (fun b o z => kept b o (s1 _ _ z) (ne_of_none z hx)) ⟨hc, isw⟩
    | nd c l r =>
      obtain ⟨hc, a, u, z, rfl, ha, hl, hr'⟩ := ht
      simp only [dep] at hd
      obtain ⟨m, rfl⟩ : ∃ m, n = m + 1 := ⟨n - 1, by omega⟩
      have un : u ≠ .non := by obtain ⟨a, e⟩ := hl.ref; rw [e]; intro z; cases z
      refine ⟨_, rfl, a, _, 1, _, rfl, rfl, SqT.of ha, rfl, rfl, _, rfl, ?_⟩
      rw [show decide (u = V.non) = false from decide_eq_false un]
      refine iteF ⟨_, rfl, a, _, 0, _, rfl, rfl, SqT.of ha, rfl, ?_⟩
      refine ⟨_, rfl, a, _, 1, _, rfl, rfl, SqT.of ha, rfl, u, l, rfl, hl, by omega, fun H1 x1 s1 t1 => ?_⟩
      refine ⟨_, rfl, a, _, 2, _, rfl, rfl, SqT.of (s1 _ _ ha), rfl, z, r, rfl, hr'.same s1, by omega, fun H2 x2 s2 t2 => ?_⟩
      refine ⟨(by show 2 ≤ sizeLine; decide), fun p hp x dx hx hdx ne => ?_⟩
      have s12 := s1.trans s2
      have sp := same_new (o := .lst [.ref x1, .ref x2]) hp
      have s3 : Same (upd H2 p (.lst [.ref x1, .ref x2])) (upd (upd (upd H2 p (.lst [.ref x1, .ref x2])) dx (.own x)) x (.ins (wC K) dx [])) := same_two hdx (by rw [upd_ne (Ne.symm ne)]; exact hx)
      refine ⟨x, c, p, [.ref x1, .ref x2], dx, rfl, upd_same, .inl (SqL.of (s3 _ _ upd_same)), (by show fitB c 2 = true; rcases joint_two hc with rfl | rfl <;> rfl), (by show 2 ≤ 1000; decide), fun H' kept isw => ⟨rfl, ?_⟩⟩
      have s4 : Same H2 H' := fun b o y => kept b o (s3 _ _ (sp _ _ y)) (ne_of_none (sp _ _ y) hx)
      exact q H' x (s12.trans s4) ⟨hc, x1, x2, isw, t1.same (s2.trans s4), t2.same s4⟩
theorem ok_lword {fdI fd1 : FuncData} {dv : V} (F : FnP K "_law_word" iLWord (He.ga K "_law_word") fd) (T : Txt K mg) (Z : Wif K fdI dv fd1) : ∀ n, FnOk P w K mg base CX0 (4 + n) (He.ga K "_law_word") fd ["_law_tree_here"] (spLWord K n) := by
  intro n
  induction n with
  | zero => exact ok_lword1 F T Z 0 ⟨fun _ _ _ _ h => h.elim, fun _ _ _ _ _ _ _ _ _ _ _ _ _ h => h.elim⟩
  | succ n ih => exact ok_lword1 F T Z (n + 1) (by rw [show 3 + (n + 1) = 4 + n by omega]; exact ih)
end
end KT

set_option Elab.async false
set_option linter.all false
set_option maxRecDepth 100000
set_option maxHeartbeats 4000000
/-! # _law_mark, _law_within -/
namespace KT
open PySem PySem.Spec PyProof.Rows L2 VX KW
section
variable {P : Program} {w : World} {K : PySem.W.Frag} {mg : Str → Option Value} {base : Heap} {f : Addr} {fd : FuncData}
def lmV (k : List Nat) (t : Tr) : V := if k = PL then .str (one (lp t)) else .int (li k t)
def spLMark (n : Nat) : Sp := fun vs H Q _ => ∃ (v : V) (t : Tr) (k : List Nat), vs = [v, .str (kS k)] ∧ IsTT H v t ∧ dep t ≤ n ∧ ∀ H', Same H H' → Q (lmV k t) H'
def spLMarkL : Nat → Sp
  | 0 => fun _ _ _ _ => False
  | n + 1 => spLMark n
theorem hand_in (c : Nat) : inV (V.str (one c)) [V.str "a", V.str "b", V.str "c"] = hand c := in_hands c
theorem lp_five {t : Tr} (h : WF t = true) : five (lp t) = true := by rw [lp_mk h]; exact mk_five h
abbrev nLM : List Str := ["_law_tree_here", "_law_kind", "_law_sign", "_law_first", "_law_second", "_law_one", "_law_other", "_law_low", "_law_high"]
theorem sc_lmark : FnScope nLM ["_law_tree_here", "_law_kind"] (defScope (top iLMark)) := ⟨rfl, rfl, rfl, by decide +kernel, rfl, by decide +kernel, by decide +kernel⟩
theorem ok_lmark1 (F : FnP K "_law_mark" iLMark (He.ga K "_law_mark") fd) (T : Txt K mg) (n : Nat) (GR : FnOk P w K mg base CX0 (1 + n) (He.ga K "_law_mark") fd ["_law_tree_here", "_law_kind"] (spLMarkL n)) :
    FnOk P w K mg base CX0 (2 + n) (He.ga K "_law_mark") fd ["_law_tree_here", "_law_kind"] (spLMark n) := by
  have BR : Binds K fd ["_law_tree_here", "_law_kind"] [] := F.bindsN fun _ _ _ _ _ _ us hl => match us, hl with | [_, _], _ => rfl
  rw [show 2 + n = (1 + n) + 1 by omega]
  refine F.ok sc_lmark (fun vs H Q E h => ?_) (fun cdv A outer s H vs Q E hr h => ?_)
  · obtain ⟨v, t, k, rfl, _⟩ := h
    rfl
  · obtain ⟨v, t, k, rfl, ht, hd, q⟩ := h
    have nd := sc_lmark.nd
    refine ⟨_, PSs.nox (pss_cons (ps_asg (pv 0) (pg_tup (by rfl) (pgs_cons (pg_name (i := 2) nd rfl (.inl rfl)) (pgs_cons (pg_name (i := 3) nd rfl (.inl rfl)) (pgs_cons (pg_name (i := 4) nd rfl (.inl rfl)) pgs_nil))))) (pss_cons (ps_if (pt_cmpR op_isN (pv 3) pe_non (nomark _)) (pss_cons (ps_if (pt_cmpR op_eq (pv 1) pe_str (nomark _)) (pss_one (ps_ret (pv 2))) pss_nil) (pss_one (ps_ret (pe_callTy call_int1 (by rfl) (T.fr "int") boot_int (pa_cons ((pe_or (pe_cmpR op_eq (pv 2) pe_str (nomark _)) (pe_one (pe_and (pe_cmpR op_in_seq (pv 2) (pe_lst (pa_cons pe_str (pa_cons pe_str (pa_cons pe_str pa_nil)))) (by rfl)) (pe_one (pe_cmpR op_in_sign (pv 2) (pv 1) (by rfl))))))) pa_nil))))) pss_nil) (pss_cons (ps_set (i := 5) nd rfl (.inl rfl) (pe_call GR hr (by rfl) (T.df "_law_mark" iLMark) F.kp BR .nil pass0 (pa_cons (pv 3) (pa_cons (pv 1) pa_nil)))) (pss_cons (ps_set (i := 6) nd rfl (.inl rfl) (pe_call GR hr (by rfl) (T.df "_law_mark" iLMark) F.kp BR .nil pass0 (pa_cons (pv 4) (pa_cons (pv 1) pa_nil)))) (pss_cons (ps_if (pt_cmpR op_ne (pv 1) pe_str (nomark _)) (pss_one (ps_ret (pe_ifExp (pt_cmpR op_eq (pv 2) pe_str (nomark _)) (pe_callTy call_int1 (by rfl) (T.fr "int") boot_int (pa_cons (pe_cmpR op_gt (pe_op op_add (pv 5) (pv 6)) pe_int (nomark _)) pa_nil)) (pe_op op_mul (pv 5) (pv 6))))) pss_nil) (pss_cons (ps_if (pt_cmpR op_eq (pv 5) (pv 6) (nomark _)) (pss_one (ps_ret (pv 5))) pss_nil) (pss_cons (ps_asg (pe_ifExp (pt_cmpR op_eq (pv 2) pe_str (nomark _)) (pe_lst (pa_cons pe_str (pa_cons pe_str pa_nil))) (pe_lst (pa_cons pe_str (pa_cons pe_str pa_nil)))) (pg_unl rfl (pgs_cons (pg_name (i := 7) nd rfl (.inl rfl)) (pgs_cons (pg_name (i := 8) nd rfl (.inl rfl)) pgs_nil)))) (pss_cons (ps_if (PW.pt (pw_or (pt_cmpR op_eq (pv 5) (pv 7) (nomark _)) (pw_or1 (pt_cmpR op_eq (pv 6) (pv 7) (nomark _))))) (pss_one (ps_ret (pe_ifExp (pt_cmpR op_eq (pv 5) (pv 7) (nomark _)) (pv 6) (pv 5)))) pss_nil) (pss_one (ps_ret (pv 8))))))))))), ?_⟩
    have hwf := ht.wf
    cases t with
    | lf c =>
      obtain ⟨hc, a, rfl, ha⟩ := ht
      refine ⟨_, rfl, a, _, rfl, SqT.of ha, rfl, _, _, rfl, _, _, rfl, _, _, rfl, rfl, ?_⟩
      refine ⟨_, rfl, rfl, _, rfl, ?_⟩
      refine iteT ⟨_, rfl, rfl, _, rfl, ?_⟩
      rw [kS_pl]
      unfold lmV at q
      simp only [lp, li] at q
      refine ite2 (fun h => ?_) (fun h => ?_)
      · rw [if_pos (of_decide_eq_true h)] at q
        exact ⟨_, rfl, q _ (Same.refl _)⟩
      · rw [if_neg (fun e => h (decide_eq_true e))] at q
        refine ⟨_, rfl, rfl, _, rfl, ?_⟩
        rw [show decide (V.str (one c) = V.str "1") = (c == 49) from dec_one]
        cases h49 : (c == 49) with
        | true =>
          have e49 : c = 49 := by simpa using h49
          rw [if_pos (.inl e49)] at q
          exact iteT (.inr ⟨_, rfl, q _ (Same.refl _)⟩)
        | false =>
          have e49 : c ≠ 49 := by simpa using h49
          refine iteF ⟨_, rfl, (by show 3 ≤ sizeLine; decide), fun p hp => ⟨p, _, rfl, .inl (SqL.of upd_same), rfl, rfl, _, rfl, ?_⟩⟩
          simp only [Bool.false_eq_true, if_false, hand_in]
          have sp := same_new (o := .lst [.str "a", .str "b", .str "c"]) hp
          cases hh : hand c with
          | false =>
            rw [if_neg (by simp [e49, hh])] at q
            exact iteF (.inr ⟨_, rfl, q _ sp⟩)
          | true =>
            refine iteT ⟨_, rfl, _, rfl, c, _, rfl, rfl, ?_⟩
            refine .inr ⟨_, rfl, ?_⟩
            rw [kS_list]
            by_cases hm : c ∈ k
            · rw [if_pos (.inr ⟨hh, hm⟩)] at q
              rw [decide_eq_true hm]
              exact q _ sp
            · rw [if_neg (by simp [e49, hm])] at q
              rw [decide_eq_false hm]
              exact q _ sp
    | nd c l r =>
      obtain ⟨hc, a, u, z, rfl, ha, hl, hr'⟩ := ht
      simp only [dep] at hd
      obtain ⟨m, rfl⟩ : ∃ m, n = m + 1 := ⟨n - 1, by omega⟩
      have un : u ≠ .non := by obtain ⟨a, e⟩ := hl.ref; rw [e]; intro z; cases z
      have wl := hl.wf
      have wr := hr'.wf
      refine ⟨_, rfl, a, _, rfl, SqT.of ha, rfl, _, _, rfl, _, _, rfl, _, _, rfl, rfl, ?_⟩
      refine ⟨_, rfl, rfl, _, rfl, ?_⟩
      rw [show decide (u = V.non) = false from decide_eq_false un]
      refine iteF ⟨_, rfl, _, rfl, u, l, k, rfl, hl, by omega, fun H1 s1 => ?_⟩
      refine ⟨_, rfl, _, rfl, z, r, k, rfl, hr'.same s1, by omega, fun H2 s2 => ?_⟩
      have s12 := s1.trans s2
      refine ⟨_, rfl, rfl, _, rfl, ?_⟩
      rw [kS_pl]
      unfold lmV at q
      by_cases hk : k = PL
      · subst hk
        simp only [if_true, lp] at q
        rw [decide_eq_true (rfl : PL = PL)]
        refine iteF ?_
        have e1 : lmV PL l = .str (one (lp l)) := if_pos rfl
        have e2 : lmV PL r = .str (one (lp r)) := if_pos rfl
        rw [e1, e2]
        refine ⟨_, rfl, _, rfl, rfl, _, rfl, ?_⟩
        rw [show decide (V.str (one (lp l)) = V.str (one (lp r))) = (lp l == lp r) from dec_one]
        refine ite2 (fun h => ?_) (fun h => ?_)
        · rw [if_pos (by simpa using h)] at q
          exact ⟨_, rfl, q _ s12⟩
        · rw [if_neg (by simpa using h)] at q
          rcases joint_two hc with rfl | rfl
          · simp only [if_true] at q
            refine ⟨_, rfl, rfl, _, rfl, ?_⟩
            rw [show decide (V.str (one 43) = V.str "+") = true from dec_one]
            refine iteT ⟨(by show 2 ≤ sizeLine; decide), fun p hp => ⟨p, _, rfl, SqL.of upd_same, rfl, _, _, rfl, _, _, rfl, rfl, ?_⟩⟩
            have s3 := s12.trans (same_new (o := .lst [.str "0", .str "1"]) hp)
            have q := q _ s3
            refine ⟨_, rfl, _, rfl, rfl, _, rfl, ?_⟩
            rw [show decide (V.str (one (lp l)) = V.str "0") = (lp l == 48) from dec_one]
            refine ite2 (fun h1 => ?_) (fun h1 => ?_)
            · have h1' : lp l = 48 := by simpa using h1
              rw [if_pos (.inl h1'), if_pos h1'] at q
              refine ⟨_, rfl, _, rfl, rfl, _, rfl, ?_⟩
              rw [show decide (V.str (one (lp l)) = V.str "0") = (lp l == 48) from dec_one]
              rw [h1]
              exact iteT ⟨_, rfl, q⟩
            · have h1' : lp l ≠ 48 := by simpa using h1
              refine ⟨_, rfl, _, rfl, rfl, _, rfl, ?_⟩
              rw [show decide (V.str (one (lp r)) = V.str "0") = (lp r == 48) from dec_one]
              refine ite2 (fun h2 => ?_) (fun h2 => ?_)
              · have h2' : lp r = 48 := by simpa using h2
                rw [if_pos (.inr h2'), if_neg h1'] at q
                refine ⟨_, rfl, _, rfl, rfl, _, rfl, ?_⟩
                rw [show decide (V.str (one (lp l)) = V.str "0") = (lp l == 48) from dec_one]
                rw [Bool.eq_false_iff.mpr h1]
                exact iteF ⟨_, rfl, q⟩
              · have h2' : lp r ≠ 48 := by simpa using h2
                rw [if_neg (by rintro (e | e); exact h1' e; exact h2' e)] at q
                exact ⟨_, rfl, q⟩
          · simp only [show (38 : Nat) ≠ 43 by decide, if_false] at q
            refine ⟨_, rfl, rfl, _, rfl, ?_⟩
            rw [show decide (V.str (one 38) = V.str "+") = false from dec_one]
            refine iteF ⟨(by show 2 ≤ sizeLine; decide), fun p hp => ⟨p, _, rfl, SqL.of upd_same, rfl, _, _, rfl, _, _, rfl, rfl, ?_⟩⟩
            have s3 := s12.trans (same_new (o := .lst [.str "1", .str "0"]) hp)
            have q := q _ s3
            refine ⟨_, rfl, _, rfl, rfl, _, rfl, ?_⟩
            rw [show decide (V.str (one (lp l)) = V.str "1") = (lp l == 49) from dec_one]
            refine ite2 (fun h1 => ?_) (fun h1 => ?_)
            · have h1' : lp l = 49 := by simpa using h1
              rw [if_pos (.inl h1'), if_pos h1'] at q
              refine ⟨_, rfl, _, rfl, rfl, _, rfl, ?_⟩
              rw [show decide (V.str (one (lp l)) = V.str "1") = (lp l == 49) from dec_one]
              rw [h1]
              exact iteT ⟨_, rfl, q⟩
            · have h1' : lp l ≠ 49 := by simpa using h1
              refine ⟨_, rfl, _, rfl, rfl, _, rfl, ?_⟩
              rw [show decide (V.str (one (lp r)) = V.str "1") = (lp r == 49) from dec_one]
              refine ite2 (fun h2 => ?_) (fun h2 => ?_)
              · have h2' : lp r = 49 := by simpa using h2
                rw [if_pos (.inr h2'), if_neg h1'] at q
                refine ⟨_, rfl, _, rfl, rfl, _, rfl, ?_⟩
                rw [show decide (V.str (one (lp l)) = V.str "1") = (lp l == 49) from dec_one]
                rw [Bool.eq_false_iff.mpr h1]
                exact iteF ⟨_, rfl, q⟩
              · have h2' : lp r ≠ 49 := by simpa using h2
                rw [if_neg (by rintro (e | e); exact h1' e; exact h2' e)] at q
                exact ⟨_, rfl, q⟩
      · rw [decide_eq_false hk]
        rw [if_neg hk] at q
        have e1 : lmV k l = .int (li k l) := if_neg hk
        have e2 : lmV k r = .int (li k r) := if_neg hk
        obtain ⟨b1, f1⟩ := li_mk hk wl
        obtain ⟨b2, f2⟩ := li_mk hk wr
        have g1 : 0 ≤ li k l ∧ li k l ≤ 1 := by rw [f1]; rcases b1 with e | e <;> rw [e] <;> decide
        rw [e1, e2]
        simp only [li] at q
        refine iteT ⟨_, rfl, rfl, _, rfl, ?_⟩
        rw [show decide (V.str (one c) = V.str "+") = (c == 43) from dec_one]
        refine ite2 (fun h => ?_) (fun h => ?_)
        · rw [if_pos (by simpa using h)] at q
          refine ⟨_, rfl, _, rfl, _, _, rfl, rfl, _, _, rfl, rfl, .inr ⟨_, rfl, ?_⟩⟩
          have := q _ s12
          by_cases hp : li k l + li k r > 0
          · rw [if_pos hp] at this
            rw [decide_eq_true hp]
            exact this
          · rw [if_neg hp] at this
            rw [decide_eq_false hp]
            exact this
        · rw [if_neg (by simpa using h)] at q
          exact ⟨_, rfl, _, rfl, _, _, rfl, rfl, .inl ⟨by omega, by omega⟩, q _ s12⟩
end
end KT

set_option Elab.async false
set_option linter.all false
set_option maxRecDepth 100000
set_option maxHeartbeats 4000000
/-! # o.m(..) within a try; o.m(.., k = v) -/
namespace VX
open PySem PySem.Spec PyProof.Rows L2
section
variable {X : Cx} {CX : CXT} {k n : Nat} {f C : Addr} {fd : FuncData} {ps ks : List Str} {sp : Sp} {E : XK} {m : Str} {pos apos : Pos} {o e : Expr} {es : List Expr} {kws : List Keyword} {ta : TE} {t tk : TA} {g : List Value → List Value → List Value} {gV : List V → List V → List V}
def tMethT (C : Addr) (m : Str) (sp : Sp) (E : L2.St → XK) (ta : TE) (t : TA) : TE := fun σ H Q => ta σ H fun x H1 => ∃ a dx fs, x = .ref a ∧ H1 a = some (.ins C dx fs) ∧ fs.lookup m = none ∧ t σ H1 fun vs H2 => sp (x :: vs) H2 Q (E σ)
theorem pe_methT {pl : Sem Bool} {E : L2.St → XK} (he : PE X o ta) (c : Cls X.K C) (hm : Meth X.K C m f) (F : FnOk X.prog X.w X.K X.mg X.base CX k f fd ps sp) (hr : Room k X.A) (hb : Binds X.K fd ps []) (hx : ∀ σ, PassesAt CX X σ (E σ)) (ha : PA X (e :: es) t)
    (hst : starEach (e :: es) X.env = (false, eval e X.env) :: starEach es X.env := by rfl) (hpl : (backTo pos (starEach es X.env)).any (·.1) = false := by rfl)
    (ht : eval (.Call (.Attribute o m apos) (e :: es) [] pos) X.env = (do
      let ov ← eval o X.env
      standAt apos.atName
      let (f, first) ← holding [ov] (getMethod ov m pl)
      callWith pos f first (backTo pos (starEach (e :: es) X.env)) (backToKw pos (keywordEach [] X.env))) := by rfl) :
    PE X (.Call (.Attribute o m apos) (e :: es) [] pos) (tMethT C m sp E ta t) := by
  refine ⟨fun pins s σ H Q I h => ?_⟩
  refine PySem.W.methodCall_KW (pl := pl) (thn (he.run pins s σ H _ I h) fun u s1 ⟨x, H1, I1, rx, a, dx, fs, ex, ea, l, q⟩ => ?_) ht
  subst ex
  obtain rfl : u = Value.ref a := rx
  refine getmeth_ok I1 ea c hm l ?_
  refine PySem.W.callWith_K (first := [.ref a]) (h₀ := X.base) I.ok.mod.kin hm.kp (thn (ha.run pos pins s1 σ H1 _ I1 q) fun us s2 ⟨vs, H2, I2, r, q2⟩ => ⟨I2.kIn, ?_⟩) hst hpl
  exact run_fnS (us := .ref a :: us) (vs := .ref a :: vs) F hr hb (hx σ) I2 (.cons rfl r) q2
def tMethN (C : Addr) (m : Str) (n l : Nat) (sp : Sp) (gV : List V → List V → List V) (E : XK) (ta : TE) (t tk : TA) : TE := fun σ H Q => ta σ H fun x H1 => ∃ a dx fs, x = .ref a ∧ H1 a = some (.ins C dx fs) ∧ fs.lookup m = none ∧
  t σ H1 fun vs H2 => tk σ H2 fun zs H3 => vs.length = n ∧ zs.length = l ∧ sp (gV (x :: vs) zs) H3 Q E
/-- o.m(e, .., k = v, ..) -/
theorem pe_methN {pl : Sem Bool} (he : PE X o ta) (c : Cls X.K C) (hm : Meth X.K C m f) (F : FnOk X.prog X.w X.K X.mg X.base CX k f fd ps sp) (hr : Room k X.A) (hb : KBn X.K fd ps (n + 1) ks g gV) (hx : Passes CX X E) (ha : PA X (e :: es) t) (hkw : PK X kws tk)
    (hall : (backToKw pos (keywordEach kws X.env)).all (·.1.isSome) = true := by rfl) (hks : (backToKw pos (keywordEach kws X.env)).filterMap (·.1) = ks := by rfl)
    (hst : starEach (e :: es) X.env = (false, eval e X.env) :: starEach es X.env := by rfl) (hpl : ((backTo pos (starEach (e :: es) X.env)).any (·.1) || (backToKw pos (keywordEach kws X.env)).any (·.1.isNone)) = false := by rfl)
    (ht : eval (.Call (.Attribute o m apos) (e :: es) kws pos) X.env = (do
      let ov ← eval o X.env
      standAt apos.atName
      let (f, first) ← holding [ov] (getMethod ov m pl)
      callWith pos f first (backTo pos (starEach (e :: es) X.env)) (backToKw pos (keywordEach kws X.env))) := by rfl) :
    PE X (.Call (.Attribute o m apos) (e :: es) kws pos) (tMethN C m n ks.length sp gV E ta t tk) := by
  refine ⟨fun pins s σ H Q I h => ?_⟩
  refine PySem.W.methodCall_KW (pl := pl) (thn (he.run pins s σ H _ I h) fun u s1 ⟨x, H1, I1, rx, a, dx, fs, ex, ea, l, q⟩ => ?_) ht
  subst ex
  obtain rfl : u = Value.ref a := rx
  refine getmeth_ok I1 ea c hm l ?_
  refine PySem.W.callWith_KW (first := [.ref a]) (h₀ := X.base) I.ok.mod.kin hm.kp hall (thn (ha.run pos pins s1 σ H1 _ I1 q) fun us s2 ⟨vs, H2, I2, r, q2⟩ => ?_) hpl hst
  refine thn (hkw.run pos pins s2 σ H2 _ I2 q2) fun ws s3 ⟨zs, H3, I3, rz, l1, l2, q3⟩ => ⟨I3.kIn, ?_⟩
  rw [hks]
  exact run_fnN (us := .ref a :: us) (vs := .ref a :: vs) F hr hb hx I3 (.cons rfl r) rz (by rw [List.length_cons, l1]) l2 q3
/-- o.m(k = v, ..) -/
theorem pe_methN0 {pl : Sem Bool} (he : PE X o ta) (c : Cls X.K C) (hm : Meth X.K C m f) (F : FnOk X.prog X.w X.K X.mg X.base CX k f fd ps sp) (hr : Room k X.A) (hb : KBn X.K fd ps 1 ks g gV) (hx : Passes CX X E) (hkw : PK X kws tk)
    (hall : (backToKw pos (keywordEach kws X.env)).all (·.1.isSome) = true := by rfl) (hks : (backToKw pos (keywordEach kws X.env)).filterMap (·.1) = ks := by rfl)
    (hpl : ((backTo pos (starEach [] X.env)).any (·.1) || (backToKw pos (keywordEach kws X.env)).any (·.1.isNone)) = false := by rfl)
    (ht : eval (.Call (.Attribute o m apos) [] kws pos) X.env = (do
      let ov ← eval o X.env
      standAt apos.atName
      let (f, first) ← holding [ov] (getMethod ov m pl)
      callWith pos f first (backTo pos (starEach [] X.env)) (backToKw pos (keywordEach kws X.env))) := by rfl) :
    PE X (.Call (.Attribute o m apos) [] kws pos) (tMethN C m 0 ks.length sp gV E ta tNil tk) := by
  refine ⟨fun pins s σ H Q I h => ?_⟩
  refine PySem.W.methodCall_KW (pl := pl) (thn (he.run pins s σ H _ I h) fun u s1 ⟨x, H1, I1, rx, a, dx, fs, ex, ea, l, q⟩ => ?_) ht
  subst ex
  obtain rfl : u = Value.ref a := rx
  refine getmeth_ok I1 ea c hm l ?_
  refine PySem.W.callWith_KW0 (first := [.ref a]) (h₀ := X.base) I.ok.mod.kin hm.kp hall ?_ hpl
  refine thn (hkw.run pos pins s1 σ H1 _ I1 q) fun ws s3 ⟨zs, H3, I3, rz, l1, l2, q3⟩ => ⟨I3.kIn, ?_⟩
  rw [hks]
  exact run_fnN (us := [.ref a]) (vs := [.ref a]) F hr hb hx I3 (.cons rfl .nil) rz (by rfl) l2 q3
end
end VX
namespace VX
open PySem PySem.Spec PyProof.Rows L2
/-! ### rules whose reading names K, not X.K: for a comprehension's element -/
section
variable {X : Cx} {e : Expr} {f : Str} {pos : Pos} {ta : TE}
theorem pe_fldK (K : PySem.W.Frag) (he : PE X e ta) (hb : attributeBase e f X.env (eval e X.env) = eval e X.env) (hK : X.K = K := by rfl) : PE X (.Attribute e f pos) (tFld K ta f) := by
  subst hK
  exact pe_fld he hb
def rLenS (K : PySem.W.Frag) : List V → Hp → VK → Prop := fun xs H Q => ∃ p ys, xs = [.ref p] ∧ (SqL K H p ys ∨ SqT K H p ys) ∧ Q (.int ys.length) H
theorem call_lenK (K : PySem.W.Frag) (hK : X.K = K := by rfl) : CallR X (.builtin "len") (rLenS K) := by
  subst hK
  exact call_len_seq
theorem op_inK (K : PySem.W.Frag) (hK : X.K = K := by rfl) : OpR X (compareOp .In) (rIn K false) := by
  subst hK
  exact op_in_seq
theorem op_notInK (K : PySem.W.Frag) (hK : X.K = K := by rfl) : OpR X (compareOp .NotIn) (rIn K true) := by
  subst hK
  exact op_notIn_seq
end
end VX
namespace VX
open PySem PySem.Spec PyProof.Rows L2
/-- tuple(e) of a list or a tuple, as one word -/
structure RTup (K : PySem.W.Frag) (vs : List V) (H : Hp) (Q : VK) : Prop where
  h : ∃ p ys, vs = [.ref p] ∧ ((SqL K H p ys ∧ ∀ l, H l = none → Q (.ref l) (upd H l (.tup ys))) ∨ (SqT K H p ys ∧ Q (.ref p) H))
theorem call_tupK {X : Cx} (K : PySem.W.Frag) (hK : X.K = K := by rfl) : CallR X (.type "tuple") (RTup K) := by
  subst hK
  intro pins s σ H xs us Q I r h
  exact call_tuple_of pins s σ H xs us Q I r h.h
theorem sqT_same {K : PySem.W.Frag} {H H' : Hp} {a : Addr} {xs : List V} (s : Same H H') (h : SqT K H a xs) : SqT K H' a xs := by
  rcases h with (h | ⟨o, h⟩) | h
  · exact .inl (.inl (s _ _ h))
  · exact .inl (.inr ⟨o, s _ _ h⟩)
  · exact .inr h
theorem sqL_same {K : PySem.W.Frag} {H H' : Hp} {a : Addr} {xs : List V} (s : Same H H') (h : SqL K H a xs) : SqL K H' a xs := by
  rcases h with (h | ⟨o, h⟩) | h
  · exact .inl (.inl (s _ _ h))
  · exact .inl (.inr ⟨o, s _ _ h⟩)
  · exact .inr h
theorem tup_use {K : PySem.W.Frag} {H : Hp} {a : Addr} {vs : List V} {Q : VK} (h : SqL K H a vs ∨ SqT K H a vs) (k : ∀ t H', Same H H' → SqT K H' t vs → Q (.ref t) H') : RTup K [.ref a] H Q :=
  ⟨a, vs, rfl, h.elim (fun h => .inl ⟨h, fun l hl => k _ _ (same_new hl) (SqT.of upd_same)⟩) (fun h => .inr ⟨h, k _ _ (Same.refl _) h⟩)⟩
end VX

set_option Elab.async false
set_option linter.all false
set_option maxRecDepth 100000
set_option maxHeartbeats 4000000
/-! # == and != of lists of flat things -/
namespace VX
open PySem PySem.Spec PyProof.Rows L2
def eqLV : List V → List V → Bool
  | [], [] => true
  | x :: xs, y :: ys => eqV x y && eqLV xs ys
  | _, _ => false
def eF (xs ys : List V) (j : Nat) : Bool := match xs[j]?, ys[j]? with
  | some x, some y => eqV x y
  | _, _ => true
theorem eF_all : ∀ {xs ys : List V}, xs.length = ys.length → (List.range xs.length).all (eF xs ys) = eqLV xs ys
  | [], [], _ => rfl
  | x :: xs, y :: ys, h => by
    rw [List.length_cons, List.range_succ_eq_map, List.all_cons, List.all_map]
    have ih := eF_all (xs := xs) (ys := ys) (by simpa using h)
    show (eqV x y && (List.range xs.length).all (eF (x :: xs) (y :: ys) ∘ Nat.succ)) = (eqV x y && eqLV xs ys)
    rw [← ih]
    rfl
theorem eqLV_len : ∀ {xs ys : List V}, xs.length ≠ ys.length → eqLV xs ys = false
  | [], [], h => absurd rfl h
  | [], _ :: _, _ => rfl
  | _ :: _, [], _ => rfl
  | x :: xs, y :: ys, h => by
    show (eqV x y && eqLV xs ys) = false
    rw [eqLV_len (by simpa using h), Bool.and_false]
theorem eqLV_nil : ∀ xs : List V, eqLV xs [] = xs.isEmpty
  | [] => rfl
  | _ :: _ => rfl
theorem flat_at {A : Around} {s : Shared} : ∀ {xs ys : List V} {us ws : List Value}, Vals xs us → Vals ys ws → xs.all flatV = true → ys.all flatV = true → ∀ j (h1 : j < us.length) (h2 : j < ws.length), SeqAt.EqAt A s us[j] ws[j] (eF xs ys j)
  | [], _, _, _, .nil, _, _, _, j, h1, _ => absurd h1 (Nat.not_lt_zero j)
  | _ :: _, [], _, _, _, .nil, _, _, j, _, h2 => absurd h2 (Nat.not_lt_zero j)
  | x :: xs, y :: ys, _, _, .cons a b, .cons a' b', f, f', 0, _, _ => by
    rw [List.all_cons, Bool.and_eq_true] at f f'
    exact eqAt_V a a' f.1 f'.1
  | x :: xs, y :: ys, _, _, .cons a b, .cons a' b', f, f', j + 1, h1, h2 => by
    rw [List.all_cons, Bool.and_eq_true] at f f'
    exact flat_at b b' f.2 f'.2 j (Nat.lt_of_succ_lt_succ h1) (Nat.lt_of_succ_lt_succ h2)
def rEqF (K : PySem.W.Frag) (b : Bool) : R2 := fun x y H Q => ∃ p q xs ys, x = .ref p ∧ y = .ref q ∧ SqL K H p xs ∧ SqL K H q ys ∧ xs.all flatV = true ∧ ys.all flatV = true ∧ Q (.bl (if b = true then eqLV xs ys else !eqLV xs ys)) H
theorem op_eqF {X : Cx} (K : PySem.W.Frag) (hu : X.A.units < cLine) (hK : X.K = K := by rfl) : OpR X (compareOp .Eq) (rEqF K true) := by
  subst hK
  intro pins s σ H x y v u Q I rx ry h
  obtain ⟨p, q, xs, ys, rfl, rfl, hp, hq, fx, fy, hQ⟩ := h
  cases (show v = Value.ref p from rx)
  cases (show u = Value.ref q from ry)
  obtain ⟨us, r1, p1, _⟩ := I.list hp
  obtain ⟨ws, r2, p2, _⟩ := I.list hq
  by_cases hl : xs.length = ys.length
  · have hsz : us.toArray.size = ws.toArray.size := by
      rw [List.size_toArray, List.size_toArray, ← r1.length, ← r2.length, hl]
    refine SeqAt.RcAt.lists (e := eF xs ys) p1.isList p2.isList hsz hu (fun j h1 h2 => ?_) _ _ _ _ ?_
    · have k := flat_at (A := X.A.in1) (s := s) r1 r2 fx fy j (by simpa using h1) (by simpa using h2)
      simpa using k
    · rw [show us.toArray.size = xs.length by rw [List.size_toArray, ← r1.length], eF_all hl]
      exact ⟨.bl _, H, I, rfl, hQ⟩
  · refine SeqAt.RcAt.lists_lengths p1.isList p2.isList (by rw [List.size_toArray, List.size_toArray, ← r1.length, ← r2.length]; simpa using hl) hu _ _ _ _ ?_
    rw [if_pos rfl, eqLV_len hl] at hQ
    exact ⟨.bl false, H, I, rfl, hQ⟩
theorem op_neF {X : Cx} (K : PySem.W.Frag) (hu : X.A.units < cLine) (hK : X.K = K := by rfl) : OpR X (compareOp .NotEq) (rEqF K false) := by
  subst hK
  intro pins s σ H x y v u Q I rx ry h
  obtain ⟨p, q, xs, ys, rfl, rfl, hp, hq, fx, fy, hQ⟩ := h
  cases (show v = Value.ref p from rx)
  cases (show u = Value.ref q from ry)
  obtain ⟨us, r1, p1, _⟩ := I.list hp
  obtain ⟨ws, r2, p2, _⟩ := I.list hq
  rw [if_neg Bool.false_ne_true] at hQ
  by_cases hl : xs.length = ys.length
  · have hsz : us.toArray.size = ws.toArray.size := by
      rw [List.size_toArray, List.size_toArray, ← r1.length, ← r2.length, hl]
    refine SeqAt.RcNeAt.lists (e := eF xs ys) p1.isList p2.isList hsz hu (fun j h1 h2 => ?_) _ _ _ _ ?_
    · have k := flat_at (A := X.A.in1) (s := s) r1 r2 fx fy j (by simpa using h1) (by simpa using h2)
      simpa using k
    · rw [show us.toArray.size = xs.length by rw [List.size_toArray, ← r1.length], eF_all hl]
      exact ⟨.bl _, H, I, rfl, hQ⟩
  · refine SeqAt.RcNeAt.lists_lengths p1.isList p2.isList (by rw [List.size_toArray, List.size_toArray, ← r1.length, ← r2.length]; simpa using hl) hu _ _ _ _ ?_
    rw [eqLV_len hl] at hQ
    exact ⟨.bl true, H, I, rfl, hQ⟩
theorem eqLV_strs : ∀ {a b : List Str}, eqLV (a.map V.str) (b.map V.str) = decide (a = b)
  | [], [] => rfl
  | [], _ :: _ => rfl
  | _ :: _, [] => rfl
  | x :: a, y :: b => by
    show ((x == y) && eqLV (a.map V.str) (b.map V.str)) = _
    rw [eqLV_strs, Bool.eq_iff_iff]
    simp
end VX
namespace VX
open PySem PySem.Spec PyProof.Rows L2
/-- a list == [] -/
def rEqN (K : PySem.W.Frag) (b : Bool) : R2 := fun x y H Q => ∃ p q xs, x = .ref p ∧ y = .ref q ∧ SqL K H p xs ∧ SqL K H q [] ∧ Q (.bl (if b = true then xs.isEmpty else !xs.isEmpty)) H
theorem op_eqN {X : Cx} (K : PySem.W.Frag) (hu : X.A.units < cLine) (hK : X.K = K := by rfl) : OpR X (compareOp .Eq) (rEqN K true) := by
  subst hK
  intro pins s σ H x y v u Q I rx ry h
  obtain ⟨p, q, xs, rfl, rfl, hp, hq, hQ⟩ := h
  cases (show v = Value.ref p from rx)
  cases (show u = Value.ref q from ry)
  obtain ⟨us, r1, p1, _⟩ := I.list hp
  obtain ⟨ws, r2, p2, _⟩ := I.list hq
  cases r2
  cases xs with
  | nil =>
    cases r1
    refine SeqAt.RcAt.lists (e := fun _ => true) p1.isList p2.isList rfl hu (fun j h1 h2 => absurd h1 (Nat.not_lt_zero j)) _ _ _ _ ?_
    exact ⟨.bl true, H, I, rfl, hQ⟩
  | cons x xs =>
    cases r1
    refine SeqAt.RcAt.lists_lengths p1.isList p2.isList (by simp) hu _ _ _ _ ?_
    exact ⟨.bl false, H, I, rfl, hQ⟩
theorem op_neN {X : Cx} (K : PySem.W.Frag) (hu : X.A.units < cLine) (hK : X.K = K := by rfl) : OpR X (compareOp .NotEq) (rEqN K false) := by
  subst hK
  intro pins s σ H x y v u Q I rx ry h
  obtain ⟨p, q, xs, rfl, rfl, hp, hq, hQ⟩ := h
  cases (show v = Value.ref p from rx)
  cases (show u = Value.ref q from ry)
  obtain ⟨us, r1, p1, _⟩ := I.list hp
  obtain ⟨ws, r2, p2, _⟩ := I.list hq
  cases r2
  cases xs with
  | nil =>
    cases r1
    refine SeqAt.RcNeAt.lists (e := fun _ => true) p1.isList p2.isList rfl hu (fun j h1 h2 => absurd h1 (Nat.not_lt_zero j)) _ _ _ _ ?_
    exact ⟨.bl false, H, I, rfl, hQ⟩
  | cons x xs =>
    cases r1
    refine SeqAt.RcNeAt.lists_lengths p1.isList p2.isList (by simp) hu _ _ _ _ ?_
    exact ⟨.bl true, H, I, rfl, hQ⟩
end VX

set_option Elab.async false
set_option linter.all false
set_option maxRecDepth 100000
set_option maxHeartbeats 4000000
/-! # d == 'text' -/
namespace PySem.SeqAt
open PySem PySem.Spec
section
variable {A : Around} {s : Shared}
theorem dict_eq_declines_str (l : Addr) (b : Str) (u : Tok) :
    Meets (Builtin.«dict.__eq__» ⟨[.ref l, .str b u], []⟩) (fun _ R s => s.TypeIs (.ref l) "dict" ∧ R (.ok (.ret .notImplemented)) s) :=
  .of_wp fun prog w A R s h => by
    obtain ⟨hl, h⟩ := h
    show wpAny _ _ (Builtin.Dict.dictSlotArgs "__eq__" ⟨[.ref l, .str b u], []⟩ >>= _) _ _ s
    refine wpAny_bind ?_
    unfold Builtin.Dict.dictSlotArgs
    refine wpAny_bind (wpAny_notOrdered_dict hl ?_)
    show wpAny _ _ (pure (Value.ref l, Value.str b u)) _ _ s
    refine wpAny_pure ?_
    refine wpAny_bind (wpAny_isInstance (T := "str") (U := "dict") (typeIs_str s b u) PySem.F.sub_str_dict ?_)
    simp only [Bool.not_false, if_true]
    refine wpAny_bind (wpAny_rule ?_)
    exact wpAny_pure ⟨_, rfl, h⟩
theorem str_eq_declines_ref (b : Str) (u : Tok) (l : Addr) (c : Value) (dd : Option Addr) (es : Array DictEntry) (ep : Nat) (sl : Array (Option Value)) :
    Meets (Builtin.«str.__eq__» ⟨[.str b u, .ref l], []⟩) (fun _ R s => s.heap.get? l = some { cls := c, dict := dd, data := .dict es ep, slots := sl } ∧ R (.ok (.ret .notImplemented)) s) :=
  .of_wp fun prog w A R s h => by obtain ⟨hp, g, d, tk, os⟩ := s; obtain ⟨hl, h⟩ := h; wp_walk using AutoSeq1.wpAny_loadPart' hl, wpAny_load hl; exact ⟨_, rfl, h⟩
theorem RcAt.dict_str {l : Addr} (b : Str) (u : Tok) (hl : s.TypeIs (.ref l) "dict") (hd : ∃ o es ep, s.heap.get? l = some o ∧ o.data = .dict es ep) (hu : A.units < cLine) : RcAt A s (.ref l) (.str b u) false := fun prog w E Q h => by
  obtain ⟨⟨c, dd, dt, sl⟩, es, ep, ho, hc⟩ := hd
  simp only at hc
  subst hc
  exact rc_eq_decline_or (k := false) hl (typeIs_str s b u) (by decide) F.sub_str_dict F.slot_dict_eq F.slot_str_eq_refl
    (fun _ hq => call_meets F.slot_dict_eq hl F.entry_dict_eq (F.args_dict_eq_2 _ _) (dict_eq_declines_str l b u) ⟨hl, hq⟩)
    (fun _ hq => call_meets F.slot_str_eq_refl (typeIs_str s b u) F.entry_str_eq (F.args_str_eq_2 _ _) (str_eq_declines_ref b u l c dd es ep sl) ⟨ho, hq⟩)
    (fun _ hq => wpAny_of_eq (rfl : isSame (.ref l) (.str b u) = pure false) hq) (.inr hu) h
end
end PySem.SeqAt
namespace VX
open PySem PySem.Spec PyProof.Rows L2
/-- e == 'text' where e is None, a text, a number, a dict or a tuple -/
def rEqS (K : PySem.W.Frag) : R2 := fun x y H Q => ∃ z, y = .str z ∧ ((scal x y = true ∧ Q (.bl (decide (x = y))) H) ∨ (∃ a kvs, x = .ref a ∧ H a = some (.dK kvs) ∧ Q (.bl false) H) ∨ (∃ a xs, x = .ref a ∧ SqT K H a xs ∧ Q (.bl false) H))
theorem op_eqS {X : Cx} (K : PySem.W.Frag) (hu : X.A.units < cLine) (hK : X.K = K := by rfl) : OpR X (compareOp .Eq) (rEqS K) := by
  subst hK
  intro pins s σ H x y v u Q I rx ry h
  obtain ⟨z, rfl, h⟩ := h
  rcases h with h | ⟨a, kvs, rfl, ha, q⟩ | ⟨a, xs, rfl, ha, q⟩
  · exact op_eq pins s σ H x (.str z) v u Q I rx ry h
  · obtain ⟨t, rfl⟩ := ry
    obtain rfl : v = Value.ref a := rx
    obtain ⟨_, ya, va, ra, da⟩ := (show ObjOk X.prog X.w H s.heap a (.dK kvs) from I.hok a _ ha)
    exact SeqAt.RcAt.dict_str z t da.typeIs (by obtain ⟨o, es, ep, h1, _, h2, _⟩ := id da; exact ⟨o, es, ep, h1, h2⟩) hu _ _ _ _ ⟨.bl false, H, I, rfl, q⟩
  · obtain ⟨t, rfl⟩ := ry
    obtain rfl : v = Value.ref a := rx
    obtain ⟨its, rv, tp, _⟩ := I.tuple ha
    exact SeqAt.RcAt.tuple_str z t tp hu _ _ _ _ ⟨.bl false, H, I, rfl, q⟩
end VX

set_option Elab.async false
set_option linter.all false
set_option maxRecDepth 100000
set_option maxHeartbeats 4000000
/-! # == of two dicts of flat values, either way -/
namespace VX
open PySem PySem.Spec PyProof.Rows L2
theorem valV_mem {κ : Type} [DecidableEq κ] {k : κ} {v : V} : ∀ {kvs : List (κ × V)}, valV kvs k = some v → ∃ p ∈ kvs, p.2 = v
  | [], h => by cases h
  | q :: r, h => by
    by_cases e : q.1 = k
    · rw [valV_pos e] at h
      exact ⟨q, List.mem_cons_self, Option.some.inj h⟩
    · rw [valV_neg e] at h
      obtain ⟨p, hp, he⟩ := valV_mem h
      exact ⟨p, List.mem_cons_of_mem _ hp, he⟩
def dEq (ls ks : List (Key × V)) : Bool := ks.all fun p => match valV ls p.1 with
  | some y => eqV p.2 y
  | none => false
theorem hits_eq {A : Around} {s : Shared} {ls : List (Key × V)} {vb : List (Key × Value)} (rb : KV ls vb) (fb : ∀ p ∈ ls, flatV p.2 = true) {ks : List (Key × V)} {va : List (Key × Value)} (ra : KV ks va) (fa : ∀ p ∈ ks, flatV p.2 = true) :
    PySem.W.KeqHits A s vb va (dEq ls ks) := by
  unfold KV at ra
  induction ra with
  | nil => exact .nil
  | @cons p q ps qs h t ih =>
    obtain ⟨h1, h2⟩ := h
    obtain ⟨k, v⟩ := q
    have h1' : p.1 = k := h1
    have ih := ih fun p' hm => fa p' (List.mem_cons_of_mem _ hm)
    show PySem.W.KeqHits A s vb ((k, v) :: qs) ((match valV ls p.1 with
      | some y => eqV p.2 y
      | none => false) && dEq ls ps)
    cases e : valV ls p.1 with
    | none =>
      have rr : RelO (none : Option V) (valueAt vb p.1) := by rw [← e]; exact rb.val p.1
      cases hv : valueAt vb p.1 with
      | none => rw [h1'] at hv; exact .miss hv
      | some y => rw [hv] at rr; cases rr
    | some y =>
      have rr : RelO (some y) (valueAt vb p.1) := by rw [← e]; exact rb.val p.1
      obtain ⟨y', hy, ry⟩ := rr.some_of
      rw [h1'] at hy
      have fy : flatV y = true := by
        obtain ⟨z, hz, he⟩ := valV_mem e
        rw [← he]
        exact fb z hz
      exact .hit hy (eqAt_V h2 ry (fa p List.mem_cons_self) fy) ih
def rEqDK (b : Bool) : R2 := fun x y H Q => ∃ a c ks ls, x = .ref a ∧ y = .ref c ∧ H a = some (.dK ks) ∧ H c = some (.dK ls) ∧ (∀ p ∈ ks, flatV p.2 = true) ∧ (∀ p ∈ ls, flatV p.2 = true) ∧ Q (.bl (if b = true then (ks.length == ls.length && dEq ls ks) else !(ks.length == ls.length && dEq ls ks))) H
theorem op_eqDK {X : Cx} (hu : X.A.units < cLine) : OpR X (compareOp .Eq) (rEqDK true) := by
  intro pins s σ H x y v u Q I rx ry h
  obtain ⟨a, b, ks, ls, rfl, rfl, ea, eb, fa, fb, q⟩ := h
  obtain rfl : v = Value.ref a := rx
  obtain rfl : u = Value.ref b := ry
  obtain ⟨_, ya, va, ra, da⟩ := (show ObjOk X.prog X.w H s.heap a (.dK ks) from I.hok a _ ea)
  obtain ⟨_, yb, vb, rb, db⟩ := (show ObjOk X.prog X.w H s.heap b (.dK ls) from I.hok b _ eb)
  refine PySem.W.keq_eq (knd := mixKind X.prog X.w) (r := dEq ls ks) ya yb da db hu (fun _ => hits_eq rb fb ra fa) (fin_bl I q ?_)
  rw [ra.length, rb.length]
  rfl
theorem op_neDK {X : Cx} (hu : X.A.units < cLine) : OpR X (compareOp .NotEq) (rEqDK false) := by
  intro pins s σ H x y v u Q I rx ry h
  obtain ⟨a, b, ks, ls, rfl, rfl, ea, eb, fa, fb, q⟩ := h
  obtain rfl : v = Value.ref a := rx
  obtain rfl : u = Value.ref b := ry
  obtain ⟨_, ya, va, ra, da⟩ := (show ObjOk X.prog X.w H s.heap a (.dK ks) from I.hok a _ ea)
  obtain ⟨_, yb, vb, rb, db⟩ := (show ObjOk X.prog X.w H s.heap b (.dK ls) from I.hok b _ eb)
  refine PySem.W.keq_ne (knd := mixKind X.prog X.w) (r := dEq ls ks) ya yb da db hu (fun _ => hits_eq rb fb ra fa) (fin_bl I q ?_)
  rw [ra.length, rb.length]
  rfl
end VX

set_option linter.all false
set_option maxRecDepth 100000
/-! # the thirty words (no model); a reader of words -/
namespace KW
def t30 : List Tr := [
  (.lf 48),
  (.nd 38 (.nd 38 (.lf 97) (.lf 98)) (.lf 99)),
  (.nd 38 (.lf 97) (.lf 98)),
  (.nd 38 (.lf 97) (.lf 99)),
  (.nd 38 (.lf 98) (.lf 99)),
  (.nd 43 (.nd 38 (.lf 97) (.lf 98)) (.nd 38 (.lf 97) (.lf 99))),
  (.nd 43 (.nd 38 (.lf 97) (.lf 98)) (.nd 38 (.lf 98) (.lf 99))),
  (.nd 43 (.nd 38 (.lf 97) (.lf 99)) (.nd 38 (.lf 98) (.lf 99))),
  (.nd 43 (.nd 43 (.nd 38 (.lf 97) (.lf 98)) (.nd 38 (.lf 97) (.lf 99))) (.nd 38 (.lf 98) (.lf 99))),
  (.nd 38 (.lf 97) (.nd 43 (.lf 98) (.lf 99))),
  (.nd 38 (.lf 98) (.nd 43 (.lf 97) (.lf 99))),
  (.nd 38 (.lf 99) (.nd 43 (.lf 97) (.lf 98))),
  (.nd 43 (.nd 38 (.lf 97) (.nd 43 (.lf 98) (.lf 99))) (.nd 38 (.lf 98) (.lf 99))),
  (.nd 43 (.nd 38 (.lf 98) (.nd 43 (.lf 97) (.lf 99))) (.nd 38 (.lf 97) (.lf 99))),
  (.nd 43 (.nd 38 (.lf 99) (.nd 43 (.lf 97) (.lf 98))) (.nd 38 (.lf 97) (.lf 98))),
  (.nd 38 (.nd 38 (.nd 43 (.lf 97) (.lf 98)) (.nd 43 (.lf 97) (.lf 99))) (.nd 43 (.lf 98) (.lf 99))),
  (.lf 97),
  (.lf 98),
  (.lf 99),
  (.nd 43 (.lf 97) (.nd 38 (.lf 98) (.lf 99))),
  (.nd 43 (.lf 98) (.nd 38 (.lf 97) (.lf 99))),
  (.nd 43 (.lf 99) (.nd 38 (.lf 97) (.lf 98))),
  (.nd 38 (.nd 43 (.lf 97) (.lf 98)) (.nd 43 (.lf 97) (.lf 99))),
  (.nd 38 (.nd 43 (.lf 97) (.lf 98)) (.nd 43 (.lf 98) (.lf 99))),
  (.nd 38 (.nd 43 (.lf 97) (.lf 99)) (.nd 43 (.lf 98) (.lf 99))),
  (.nd 43 (.lf 97) (.lf 98)),
  (.nd 43 (.lf 97) (.lf 99)),
  (.nd 43 (.lf 98) (.lf 99)),
  (.nd 43 (.nd 43 (.lf 97) (.lf 98)) (.lf 99)),
  (.lf 49)]
def c30 : List (List Nat) := [
  [48],
  [97, 32, 38, 32, 98, 32, 38, 32, 99],
  [97, 32, 38, 32, 98],
  [97, 32, 38, 32, 99],
  [98, 32, 38, 32, 99],
  [97, 32, 38, 32, 98, 32, 43, 32, 97, 32, 38, 32, 99],
  [97, 32, 38, 32, 98, 32, 43, 32, 98, 32, 38, 32, 99],
  [97, 32, 38, 32, 99, 32, 43, 32, 98, 32, 38, 32, 99],
  [97, 32, 38, 32, 98, 32, 43, 32, 97, 32, 38, 32, 99, 32, 43, 32, 98, 32, 38, 32, 99],
  [97, 32, 38, 32, 40, 98, 32, 43, 32, 99, 41],
  [98, 32, 38, 32, 40, 97, 32, 43, 32, 99, 41],
  [99, 32, 38, 32, 40, 97, 32, 43, 32, 98, 41],
  [97, 32, 38, 32, 40, 98, 32, 43, 32, 99, 41, 32, 43, 32, 98, 32, 38, 32, 99],
  [98, 32, 38, 32, 40, 97, 32, 43, 32, 99, 41, 32, 43, 32, 97, 32, 38, 32, 99],
  [99, 32, 38, 32, 40, 97, 32, 43, 32, 98, 41, 32, 43, 32, 97, 32, 38, 32, 98],
  [40, 97, 32, 43, 32, 98, 41, 32, 38, 32, 40, 97, 32, 43, 32, 99, 41, 32, 38, 32, 40, 98, 32, 43, 32, 99, 41],
  [97],
  [98],
  [99],
  [97, 32, 43, 32, 98, 32, 38, 32, 99],
  [98, 32, 43, 32, 97, 32, 38, 32, 99],
  [99, 32, 43, 32, 97, 32, 38, 32, 98],
  [40, 97, 32, 43, 32, 98, 41, 32, 38, 32, 40, 97, 32, 43, 32, 99, 41],
  [40, 97, 32, 43, 32, 98, 41, 32, 38, 32, 40, 98, 32, 43, 32, 99, 41],
  [40, 97, 32, 43, 32, 99, 41, 32, 38, 32, 40, 98, 32, 43, 32, 99, 41],
  [97, 32, 43, 32, 98],
  [97, 32, 43, 32, 99],
  [98, 32, 43, 32, 99],
  [97, 32, 43, 32, 98, 32, 43, 32, 99],
  [49]]
/-- a reader: m tells what is read (0 a part, 1 an intersection, 2 its rest, 3 a sum, 4 its rest) -/
def rd : Nat → Nat → Nat → Tr → List Nat → Option (Tr × List Nat)
  | 0, _, _, _, _ => none
  | n + 1, m, d, t, l => if m = 0 then (match l with
      | [] => none
      | c :: r => if leafC c = true then some (.lf c, r) else if c = 40 ∧ d < 9 then (match rd n 3 (d + 1) t r with
        | some (u, x :: r') => if x = 41 then some (u, r') else none
        | _ => none) else none)
    else if m = 1 then (match rd n 0 d t l with
      | some (u, r) => rd n 2 d u r
      | none => none)
    else if m = 2 then (if l.head? = some 38 then (match rd n 0 d t l.tail with
      | some (u, r) => rd n 2 d (.nd 38 t u) r
      | none => none) else some (t, l))
    else if m = 3 then (match rd n 1 d t l with
      | some (u, r) => rd n 4 d u r
      | none => none)
    else (if l.head? = some 43 then (match rd n 1 d t l.tail with
      | some (u, r) => rd n 4 d (.nd 43 t u) r
      | none => none) else some (t, l))
def Rd (m d : Nat) (t : Tr) (l : List Nat) (t' : Tr) (r : List Nat) : Prop :=
  if m = 0 then RP d l t' r else if m = 1 then RI d l t' r else if m = 2 then ∃ k, RIs d k t l t' r else if m = 3 then RS d l t' r else ∃ k, RSs d k t l t' r
theorem head_of {l : List Nat} {c : Nat} (h : l.head? = some c) : l = c :: l.tail := by
  cases l with
  | nil => cases h
  | cons x l => simp only [List.head?_cons, Option.some.injEq] at h; subst h; rfl
theorem rd_ok : ∀ (n m d : Nat) (t : Tr) (l : List Nat) (t' : Tr) (r : List Nat), rd n m d t l = some (t', r) → Rd m d t l t' r := by
  intro n
  induction n with
  | zero => intro m d t l t' r h; cases h
  | succ n ih =>
    intro m d t l t' r h
    unfold rd at h
    unfold Rd
    split at h
    · rename_i hm
      rw [if_pos hm]
      cases l with
      | nil => cases h
      | cons c l =>
        dsimp only at h
        split at h
        · cases h
          exact .leaf (by assumption)
        · split at h
          · rename_i _ hc
            split at h
            · rename_i u x r' e
              split at h
              · rename_i hx
                cases h
                have := ih 3 _ _ _ _ _ e
                rw [hx] at this
                rw [hc.1]
                exact .paren hc.2 this
              · cases h
            · cases h
          · cases h
    · rename_i m0
      rw [if_neg m0]
      split at h
      · rename_i hm
        rw [if_pos hm]
        split at h
        · rename_i u r0 e
          have a := ih 0 _ _ _ _ _ e
          obtain ⟨k, b⟩ := (ih 2 _ _ _ _ _ h : ∃ k, RIs d k u r0 t' r)
          exact .mk a b
        · cases h
      · rename_i m1
        rw [if_neg m1]
        split at h
        · rename_i hm
          rw [if_pos hm]
          split at h
          · rename_i hl
            split at h
            · rename_i u r0 e
              have a := ih 0 _ _ _ _ _ e
              obtain ⟨k, b⟩ := (ih 2 _ _ _ _ _ h : ∃ k, RIs d k _ r0 t' r)
              rw [head_of hl]
              exact ⟨k + 1, .more a b⟩
            · cases h
          · rename_i hl
            cases h
            exact ⟨0, .stop hl⟩
        · rename_i m2
          rw [if_neg m2]
          split at h
          · rename_i hm
            rw [if_pos hm]
            split at h
            · rename_i u r0 e
              have a := ih 1 _ _ _ _ _ e
              obtain ⟨k, b⟩ := (ih 4 _ _ _ _ _ h : ∃ k, RSs d k u r0 t' r)
              exact .mk a b
            · cases h
          · rename_i m3
            rw [if_neg m3]
            split at h
            · rename_i hl
              split at h
              · rename_i u r0 e
                have a := ih 1 _ _ _ _ _ e
                obtain ⟨k, b⟩ := (ih 4 _ _ _ _ _ h : ∃ k, RSs d k _ r0 t' r)
                rw [head_of hl]
                exact ⟨k + 1, .more a b⟩
              · cases h
            · rename_i hl
              cases h
              exact ⟨0, .stop hl⟩
/-! ### trees compared -/
def eqT : Tr → Tr → Bool
  | .lf a, .lf b => a == b
  | .nd a l r, .nd b l' r' => a == b && (eqT l l' && eqT r r')
  | _, _ => false
theorem eqT_ok : ∀ {s t : Tr}, eqT s t = true → s = t
  | .lf a, .lf b, h => by rw [beq_iff_eq.mp h]
  | .nd a l r, .nd b l' r', h => by
    simp only [eqT, Bool.and_eq_true, beq_iff_eq] at h
    rw [h.1, eqT_ok h.2.1, eqT_ok h.2.2]
  | .lf _, .nd _ _ _, h => by cases h
  | .nd _ _ _, .lf _, h => by cases h
def rdIs (l : List Nat) (t : Tr) : Bool := match rd 100 3 0 t l with
  | some (u, r) => eqT u t && r.isEmpty
  | none => false
theorem rdIs_ok {l : List Nat} {t : Tr} (h : rdIs l t = true) : RS 0 l t [] := by
  unfold rdIs at h
  split at h
  · rename_i u r e
    simp only [Bool.and_eq_true, List.isEmpty_iff] at h
    have := rd_ok _ _ _ _ _ _ _ e
    rw [eqT_ok h.1, h.2] at this
    exact this
  · cases h
/-! ### what they are on the kinds -/
def keyT (t : Tr) : List Nat := kinds.map fun k => mk k t
def key30 : List (List Nat) := t30.map keyT
theorem read30 : ∀ i (h : i < 30), RS 0 ((c30[i]).filter (· != 32)) t30[i] [] := by
  have h : (List.zipWith (fun c t => rdIs (c.filter (· != 32)) t) c30 t30).all id = true := by decide +kernel
  intro i hi
  have hl : i < (List.zipWith (fun c t => rdIs (c.filter (· != 32)) t) c30 t30).length := by
    rw [List.length_zipWith]
    exact hi
  have q := List.all_eq_true.mp h _ (List.getElem_mem hl)
  rw [List.getElem_zipWith] at q
  exact rdIs_ok q
theorem due30 : ∀ c ∈ c30, due c = 0 := by decide +kernel
theorem wf30 : ∀ t ∈ t30, WF t = true := by decide +kernel
theorem dep30 : ∀ t ∈ t30, dep t ≤ 4 := by decide +kernel
theorem len30 : t30.length = 30 := rfl
theorem key30_nodup : key30.Nodup := by decide +kernel
def joinK (c : Nat) (x y : List Nat) : List Nat := List.zipWith (fun a b => if c = 43 then sumM a b else comM a b) x y
theorem keyT_nd {c : Nat} {l r : Tr} : keyT (.nd c l r) = joinK c (keyT l) (keyT r) := by
  unfold keyT joinK
  rw [List.zipWith_map]
  simp only [mk, List.zipWith_self]
theorem leaf_in {c : Nat} (h : leafC c = true) : keyT (.lf c) ∈ key30 := by
  have h5 : ∀ x ∈ [97, 98, 99, 48, 49], keyT (.lf x) ∈ key30 := by decide +kernel
  simp only [leafC, Bool.or_eq_true, beq_iff_eq] at h
  exact h5 c (by simp; omega)
theorem join_in : ∀ c ∈ [43, 38], ∀ x ∈ key30, ∀ y ∈ key30, joinK c x y ∈ key30 := by decide +kernel
theorem key_in : ∀ {t : Tr}, WF t = true → keyT t ∈ key30
  | .lf c, h => leaf_in h
  | .nd c l r, h => by
    simp only [WF, Bool.and_eq_true] at h
    rw [keyT_nd]
    exact join_in c (by rcases joint_two h.1.1 with e | e <;> simp [e]) _ (key_in h.1.2) _ (key_in h.2)
/-- the place of a word's plain form -/
def pix (t : Tr) : Nat := key30.idxOf (keyT t)
theorem pix_lt {t : Tr} (h : WF t = true) : pix t < 30 := List.idxOf_lt_length_iff.mpr (key_in h)
theorem pix_key {t : Tr} (h : WF t = true) : key30[pix t]? = some (keyT t) := by
  have := pix_lt h
  rw [List.getElem?_eq_getElem this]
  exact congrArg some (List.getElem_idxOf this)
theorem pix_one {t : Tr} {i : Nat} (h : key30[i]? = some (keyT t)) (hw : WF t = true) : i = pix t := by
  obtain ⟨hi, e⟩ := List.getElem?_eq_some_iff.mp h
  have q := pix_key hw
  obtain ⟨hj, e2⟩ := List.getElem?_eq_some_iff.mp q
  have pw := List.pairwise_iff_getElem.mp key30_nodup
  rcases Nat.lt_trichotomy i (pix t) with c | c | c
  · exact absurd (e.trans e2.symm) (pw _ _ hi hj c)
  · exact c
  · exact absurd (e2.trans e.symm) (pw _ _ hj hi c)
end KW

set_option linter.all false
set_option maxRecDepth 100000
/-! # what is read is one (no model) -/
namespace KW
mutual
theorem RP.det {d : Nat} {l : List Nat} {t : Tr} {r : List Nat} (h0 : RP d l t r) : ∀ {t' : Tr} {r' : List Nat}, RP d l t' r' → t = t' ∧ r = r' := by
  intro t' r' q
  match h0 with
  | .leaf h =>
    cases q with
    | leaf _ => exact ⟨rfl, rfl⟩
    | paren _ _ => cases h
  | .paren h hs =>
    cases q with
    | leaf h' => cases h'
    | paren _ hs' =>
      obtain ⟨a, b⟩ := RS.det hs hs'
      injection b with _ b
      exact ⟨a, b⟩
termination_by structural h0
theorem RIs.det {d k : Nat} {u : Tr} {l : List Nat} {t : Tr} {r : List Nat} (h0 : RIs d k u l t r) : ∀ {k' : Nat} {t' : Tr} {r' : List Nat}, RIs d k' u l t' r' → t = t' ∧ r = r' := by
  intro k' t' r' q
  match h0 with
  | .stop h =>
    cases q with
    | stop _ => exact ⟨rfl, rfl⟩
    | more _ _ => exact absurd rfl h
  | .more h hs =>
    cases q with
    | stop h' => exact absurd rfl h'
    | more h' hs' =>
      obtain ⟨a, b⟩ := RP.det h h'
      subst a b
      exact RIs.det hs hs'
termination_by structural h0
theorem RI.det {d : Nat} {l : List Nat} {t : Tr} {r : List Nat} (h0 : RI d l t r) : ∀ {t' : Tr} {r' : List Nat}, RI d l t' r' → t = t' ∧ r = r' := by
  intro t' r' q
  match h0 with
  | .mk h hs =>
    cases q with
    | mk h' hs' =>
      obtain ⟨a, b⟩ := RP.det h h'
      subst a b
      exact RIs.det hs hs'
termination_by structural h0
theorem RSs.det {d k : Nat} {u : Tr} {l : List Nat} {t : Tr} {r : List Nat} (h0 : RSs d k u l t r) : ∀ {k' : Nat} {t' : Tr} {r' : List Nat}, RSs d k' u l t' r' → t = t' ∧ r = r' := by
  intro k' t' r' q
  match h0 with
  | .stop h =>
    cases q with
    | stop _ => exact ⟨rfl, rfl⟩
    | more _ _ => exact absurd rfl h
  | .more h hs =>
    cases q with
    | stop h' => exact absurd rfl h'
    | more h' hs' =>
      obtain ⟨a, b⟩ := RI.det h h'
      subst a b
      exact RSs.det hs hs'
termination_by structural h0
theorem RS.det {d : Nat} {l : List Nat} {t : Tr} {r : List Nat} (h0 : RS d l t r) : ∀ {t' : Tr} {r' : List Nat}, RS d l t' r' → t = t' ∧ r = r' := by
  intro t' r' q
  match h0 with
  | .mk h hs =>
    cases q with
    | mk h' hs' =>
      obtain ⟨a, b⟩ := RI.det h h'
      subst a b
      exact RSs.det hs hs'
termination_by structural h0
end
end KW

set_option Elab.async false
set_option linter.all false
set_option maxRecDepth 100000
set_option maxHeartbeats 4000000
/-! # plain words, dual, plain -/
namespace KT
open PySem PySem.Spec PyProof.Rows L2 VX KW CwR
section
variable {P : Program} {w : World} {K : PySem.W.Frag} {mg : Str → Option Value} {base : Heap} {f : Addr} {fd : FuncData}
theorem cxE0 {X : Cx} : Passes (L2.CX X.prog X.w) X E0 := passes_call takes0 (fun _ _ _ _ h => h)
/-! ### the text's defs, as callers have them -/
theorem g_z (A : Dfs K) : ∃ fdI fdf a, Wif K fdI (.ref a) fdf := by
  obtain ⟨⟨fdI, FI⟩, ha⟩ := A.Word_init
  obtain ⟨fdf, Ff⟩ := A.def "fits" iFits
  exact ⟨fdI, fdf, _, FI, Ff, _, rfl, ha⟩
theorem g_prf (A : Dfs K) : ∃ fdg fdp, Prf K fdg fdp := by
  obtain ⟨a, ha⟩ := A.Word_sign
  obtain ⟨b, hb⟩ := A.Word_parts
  exact ⟨a, b, ha, hb⟩
theorem g_read (T : Txt K mg) (A : Dfs K) : FnR P w K mg base (L2.CX P w) 36 (He5.wf K (wC K) "classmethod" "read") (spRead K) := by
  obtain ⟨fdI, fdf, a, Z⟩ := g_z A
  obtain ⟨_, Fc⟩ := A.def "check_text" iCheck
  obtain ⟨_, Fs⟩ := A.def "read_sum" iSum
  obtain ⟨_, Fi⟩ := A.def "read_intersection" iInter
  obtain ⟨_, Fp⟩ := A.def "read_part" iPart
  obtain ⟨_, Frw⟩ := A.def "read_word" iRW
  obtain ⟨_, Wa⟩ := A.Word_add
  obtain ⟨_, Wb⟩ := A.Word_and
  obtain ⟨_, Wc⟩ := A.BadColumn_init
  obtain ⟨_, Wr⟩ := A.Word_read
  have GBc : FnOk P w K mg base CX0 1 (He.ma K (He.ga K "BadColumn") "__init__") _ ["self", "column"] (spIni K (He.ga K "BadColumn") "column") := ok_ini Wc ⟨rfl, rfl, rfl, by decide +kernel, rfl, by decide +kernel, by decide +kernel⟩ rfl T.inf (by decide) (by decide)
  have BBc := FunD.bindsN (ps := ["self", "column"]) Wc fun _ _ _ _ _ _ us hl => match us, hl with | [_, _], _ => rfl
  have GR := ok_read (P := P) (w := w) (mg := mg) (base := base) Wr T ⟨Z, Fp, Fi, Fs, Wa, Wb⟩ Frw Fc GBc BBc
  have BR := FunD.bindsN (ps := ["cls", "text"]) Wr fun _ _ _ _ _ _ us hl => match us, hl with | [_, _], _ => rfl
  exact (GR.raw BR .nil).imp fun vs H Q E h => by rw [List.append_nil]; exact h
def spTx (K : PySem.W.Frag) : Sp := fun vs H Q _ => ∃ (x : Addr) (t : Tr), vs = [.ref x] ∧ IsTr K H x t ∧ dep t ≤ 20 ∧ ∀ H', Same H H' → Q (.str (tx t)) H'
theorem g_tx (T : Txt K mg) (A : Dfs K) : Meth K (wC K) "text" (He.ma K (wC K) "text") ∧ ∃ fd, FnOk P w K mg base CX0 44 (He.ma K (wC K) "text") fd ["self"] (spTx K) ∧ Binds K fd ["self"] [] := by
  obtain ⟨fdT, FT⟩ := A.Word_text
  obtain ⟨fdP, FP⟩ := A.def "part_text" iPText
  obtain ⟨fdg, Fg⟩ := A.Word_sign
  have h : FnOk P w K mg base CX0 44 (He.ma K (wC K) "text") fdT ["self"] (spText K 21) := ok_text T ⟨T.m_Word_text, FT, FP, Fg⟩ 20
  refine ⟨T.m_Word_text, fdT, ?_, FT.bindsN fun _ _ _ _ _ _ us hl => match us, hl with | [_], _ => rfl⟩
  exact h.imp fun vs H Q E ⟨x, t, e, hx, hd, q⟩ => ⟨x, t, e, hx, by rw [depT_dep]; omega, tx_ok hd, q⟩
theorem g_marks (T : Txt K mg) (A : Dfs K) : ∃ fd, FnP K "marks" iMarks (He.ga K "marks") fd ∧ FnOk P w K mg base CX0 25 (He.ga K "marks") fd ["word"] (spMarks K) ∧ Binds K fd ["word"] [] := by
  obtain ⟨fd, F⟩ := A.def "marks" iMarks
  obtain ⟨fdM, FM⟩ := A.def "mark" iMark
  obtain ⟨_, ha⟩ := A.def "is_within" iWithin
  obtain ⟨_, hb⟩ := A.def "sum_mark" iSumM
  obtain ⟨_, hc⟩ := A.def "common_mark" iComM
  obtain ⟨_, hd⟩ := A.def "letter_mark" iLetM
  obtain ⟨_, he⟩ := A.Word_sign
  obtain ⟨_, hg⟩ := A.Word_parts
  exact ⟨fd, F, ok_marks F T FM ⟨ha, hb, hc, hd, he, hg⟩, F.bindsN fun _ _ _ _ _ _ us hl => match us, hl with | [_], _ => rfl⟩
/-! ### plain_words -/
def txt30 : List Str := c30.map fun c => ⟨c.toArray⟩
theorem txt30_v : txt30.map V.str = [.str "0", .str "a & b & c", .str "a & b", .str "a & c", .str "b & c", .str "a & b + a & c", .str "a & b + b & c", .str "a & c + b & c", .str "a & b + a & c + b & c", .str "a & (b + c)", .str "b & (a + c)", .str "c & (a + b)", .str "a & (b + c) + b & c", .str "b & (a + c) + a & c", .str "c & (a + b) + a & b", .str "(a + b) & (a + c) & (b + c)", .str "a", .str "b", .str "c", .str "a + b & c", .str "b + a & c", .str "c + a & b", .str "(a + b) & (a + c)", .str "(a + b) & (b + c)", .str "(a + c) & (b + c)", .str "a + b", .str "a + c", .str "b + c", .str "a + b + c", .str "1"] := by rfl
theorem txt30_tx : txt30 = t30.map tx := by decide +kernel
theorem txt30_len : ∀ z ∈ txt30, z.length ≤ 100 := by decide +kernel
def spPW (K : PySem.W.Frag) : Sp := fun vs H Q _ => vs = [] ∧ ∀ H' l ws, Same H H' → H l = none → H' l = some (.lst (ws.map V.ref)) → AreTr K H' ws t30 → Q (.ref l) H'
abbrev nPW : List Str := ["text"]
theorem sc_pw : FnScope nPW [] (defScope (top iPW)) := ⟨rfl, rfl, rfl, by decide +kernel, rfl, by decide +kernel, by decide +kernel⟩

theorem g_pw (T : Txt K mg) (A : Dfs K) : ∃ fd, FnP K "plain_words" iPW (He.ga K "plain_words") fd ∧ FnOk P w K mg base CX0 37 (He.ga K "plain_words") fd [] (spPW K) ∧ Binds K fd [] [] := by
  have RR : FnR P w K mg base (L2.CX P w) 36 (He5.wf K (wC K) "classmethod" "read") (spRead K) := g_read T A
  obtain ⟨fd, F⟩ := A.def "plain_words" iPW
  refine ⟨fd, F, ?_, F.bindsN fun _ _ _ _ _ _ us hl => match us, hl with | [], _ => rfl⟩
  refine F.ok sc_pw (fun vs H Q E h => ?_) (fun cdv A outer s H vs Q E hr h => ?_)
  · obtain ⟨rfl, _⟩ := h
    rfl
  · obtain ⟨rfl, q⟩ := h
    have nd := sc_pw.nd
    have ht : ∀ H, SqT K H (He.ga K "PLAIN_TEXTS") (txt30.map V.str) := fun H => by rw [txt30_v]; exact T.t_PLAIN_TEXTS H
    refine ⟨_, PSs.nox (pss_one (ps_ret (pe_lc (own := [("text", 0)]) (g := gName 0) (by rfl) nd (pi_tup (pe_glob (v := .ref (He.ga K "PLAIN_TEXTS")) (by rfl) T.g_PLAIN_TEXTS rfl)) (blkOk_by (own := [("text", 0)]) (N := nPW) (sc := defScope (top iPW)) (by decide +kernel)) (fun _ _ _ _ _ => pg_name (i := 0) nd rfl (Or.inl rfl)) (fun _ _ _ _ _ => pts_nil) (fun _ _ _ _ _ => ClX.pe_cmeth (pe_glob (v := .ref (wC K)) (by rfl) T.word rfl) T.cr T.cm RR hr cxE0 (pa_cons (pv 0) pa_nil))))), ?_⟩
    refine ⟨_, rfl, ⟨_, ht _⟩, fun D hD => lc_it (walk_tup (K := K) (xs := txt30.map V.str)) (fun i H' => Same H H' ∧ ∃ zs : List Addr, H' D = some (.lst (zs.map V.ref)) ∧ zs.length = i ∧ AreTr K H' zs (t30.take i)) ⟨same_new hD, [], upd_same, rfl, .nil⟩ (fun i H' _ _ => ht H') ?_ ?_⟩
    · rintro i v H1 H2 hi ⟨sm, zs, hz, hzl, htr⟩ ⟨rfl, hv⟩
      have hi30 : i < 30 := hi
      rw [List.getElem?_map] at hv
      obtain ⟨z, hz1, rfl⟩ : ∃ z, txt30[i]? = some z ∧ v = .str z := by
        cases e : txt30[i]? with
        | none => rw [e] at hv; cases hv
        | some z => rw [e] at hv; exact ⟨z, rfl, (Option.some.inj hv).symm⟩
      have hc : z.cps.toList = c30[i]'(by show i < 30; exact hi30) := by
        unfold txt30 at hz1
        rw [List.getElem?_map, List.getElem?_eq_getElem (by show i < 30; exact hi30)] at hz1
        rw [← Option.some.inj hz1]
      have hm : z ∈ txt30 := List.mem_of_getElem? hz1
      refine ⟨rfl, yes_if ?_⟩
      refine ⟨rfl, _, rfl, .ref (wC K), z, rfl, Nat.le_trans (txt30_len z hm) (by decide), fun h0 => absurd ?_ h0, fun h0 t ht H3 x s3 hx => ?_⟩
      · rw [hc]; exact due30 _ (List.getElem_mem _)
      · rw [hc] at ht
        obtain ⟨e, _⟩ := RS.det ht (read30 i hi30)
        have hti : t30[i]? = some t := by rw [e]; exact List.getElem?_eq_getElem _
        have hz3 := s3 _ _ hz
        refine ⟨_, hz3, lt_line (by rw [List.length_map]; omega), Same.grow (sm.trans s3) hD, zs ++ [x], by rw [upd_same, List.map_append]; rfl, by rw [List.length_append, List.length_singleton, hzl], ?_⟩
        rw [List.take_succ, hti]
        exact ((htr.same s3).append (.cons hx .nil)).updL hz3
    · rintro H1 ⟨sm, zs, hz, hzl, htr⟩
      exact q _ D zs sm hD hz htr
/-! ### dual -/
def dualM (c : Nat) : Nat := if c = 43 then 38 else if c = 38 then 43 else if c = 48 then 49 else if c = 49 then 48 else c
def dualD : List (Str × V) := [("+", .str "&"), ("&", .str "+"), ("0", .str "1"), ("1", .str "0")]
theorem one_ne {c d : Nat} (h : c ≠ d) : ¬ (Sum.inr (one d) : Key) = Sum.inr (one c) := fun e => h (one_eq.mp (Sum.inr.inj e)).symm
theorem dual_tab {H : Hp} {d : Addr} (h : H d = some (.dK (VY.kvK dualD))) : Tabl H d dualM := by
  refine ⟨_, h, fun c => ?_⟩
  show (valV [((Sum.inr (one 43) : Key), V.str (one 38)), (Sum.inr (one 38), V.str (one 43)), (Sum.inr (one 48), V.str (one 49)), (Sum.inr (one 49), V.str (one 48))] (Sum.inr (one c))).getD (.str (one c)) = _
  unfold dualM
  by_cases h1 : c = 43
  · subst h1; rw [valV_pos rfl]; rfl
  rw [valV_neg (one_ne h1), if_neg h1]
  by_cases h2 : c = 38
  · subst h2; rw [valV_pos rfl]; rfl
  rw [valV_neg (one_ne h2), if_neg h2]
  by_cases h3 : c = 48
  · subst h3; rw [valV_pos rfl]; rfl
  rw [valV_neg (one_ne h3), if_neg h3]
  by_cases h4 : c = 49
  · subst h4; rw [valV_pos rfl]; rfl
  rw [valV_neg (one_ne h4), if_neg h4]
  rfl
theorem dual_ok (c : Nat) : (leafC c = true → leafC (dualM c) = true) ∧ (jointC c = true → jointC (dualM c) = true) := by
  unfold dualM
  refine ⟨fun h => ?_, fun h => ?_⟩
  · simp only [leafC, Bool.or_eq_true, beq_iff_eq] at h
    rcases h with (((h | h) | h) | h) | h <;> subst h <;> decide
  · rcases joint_two h with h | h <;> subst h <;> decide
def spDu (K : PySem.W.Frag) : Sp := fun vs H Q _ => ∃ (x : Addr) (t : Tr), vs = [.ref x] ∧ IsTr K H x t ∧ dep t ≤ 20 ∧ ∀ H' y, Same H H' → H y = none → IsTr K H' y (ren dualM t) → Q (.ref y) H'
abbrev nDu : List Str := ["self"]
theorem sc_du : FnScope nDu ["self"] (defScope s_Word_dual) := ⟨rfl, rfl, rfl, by decide +kernel, rfl, by decide +kernel, by decide +kernel⟩

theorem g_du (T : Txt K mg) (A : Dfs K) (B : Tabs K w) : Meth K (wC K) "dual" (He.ma K (wC K) "dual") ∧ ∃ fd, FnOk P w K mg base CX0 25 (He.ma K (wC K) "dual") fd ["self"] (spDu K) ∧ Binds K fd ["self"] [] := by
  obtain ⟨fdI, fdf, a, Z⟩ := g_z A
  obtain ⟨fdg, fdp, Y⟩ := g_prf A
  obtain ⟨fdR, FR⟩ := A.def "renamed" iRen
  have GR : FnOk P w K mg base CX0 24 (He.ga K "renamed") fdR ["word", "table"] (spRen K 21) := ok_ren FR T Y Z 20
  have BR : Binds K fdR ["word", "table"] [] := FR.bindsN fun _ _ _ _ _ _ us hl => match us, hl with | [_, _], _ => rfl
  obtain ⟨fd, F⟩ := A.Word_dual
  refine ⟨T.m_Word_dual, fd, ?_, F.bindsN fun _ _ _ _ _ _ us hl => match us, hl with | [_], _ => rfl⟩
  refine F.ok sc_du (fun vs H Q E h => ?_) (fun cdv A outer s H vs Q E hr h => ?_)
  · obtain ⟨x, t, rfl, _⟩ := h
    rfl
  · obtain ⟨x, t, rfl, hx, hd, q⟩ := h
    refine ⟨_, PSs.nox (pss_one (ps_ret (pe_call GR hr (by rfl) (T.df "renamed" iRen) FR.kp BR .nil pass0 (pa_cons (pv 0) (pa_cons (pe_callTy (VY.call_dictW K w) (by rfl) (T.fr "dict") (by decide +kernel) (pa_cons (pe_glob (v := .ref (He.ga K "DUALS")) (by rfl) T.g_DUALS rfl) pa_nil)) pa_nil))))), ?_⟩
    refine ⟨_, rfl, _, dualD, rfl, B.d_DUALS, fun p hp => ?_⟩
    have s1 := same_new (o := .dK (VY.kvK dualD)) hp
    refine ⟨x, p, t, dualM, rfl, hx.same s1, by rw [depT_dep]; omega, dual_tab upd_same, dual_ok, fun H' y s2 hy0 hy => ?_⟩
    exact q H' y (s1.trans s2) (s1.free hy0) hy
theorem ren_dep {m : Nat → Nat} : ∀ {t : Tr}, dep (ren m t) = dep t
  | .lf _ => rfl
  | .nd _ l r => by simp only [ren, dep, ren_dep (t := l), ren_dep (t := r)]
/-! ### plain -/
theorem mark_flat {t : Tr} : ∀ p ∈ dictK (markV t), flatV p.2 = true := by
  intro p hp
  unfold dictK at hp
  obtain ⟨k, _, rfl⟩ := List.mem_map.mp hp
  show flatV (markV t k) = true
  unfold markV
  split <;> rfl
theorem markV_eq {t u : Tr} {k : List Nat} : eqV (markV t k) (markV u k) = decide (mk k t = mk k u) := by
  unfold markV
  split
  · show (one (mk k t) == one (mk k u)) = _
    rw [beq_one, Bool.eq_iff_iff, beq_iff_eq, decide_eq_true_eq]
    exact eq_comm
  · show decide ((mk k t : Int) - 48 = (mk k u : Int) - 48) = _
    exact decide_eq_decide.mpr (by omega)
theorem mark_dEq {t u : Tr} : ((dictK (markV t)).length == (dictK (markV u)).length && dEq (dictK (markV u)) (dictK (markV t))) = decide (keyT t = keyT u) := by
  have hl : ((dictK (markV t)).length == (dictK (markV u)).length) = true := by unfold dictK; simp
  rw [hl, Bool.true_and, Bool.eq_iff_iff, decide_eq_true_eq]
  unfold dEq
  rw [List.all_eq_true]
  have hv : ∀ k ∈ kinds, valV (dictK (markV u)) (Sum.inr (kS k)) = some (markV u k) := fun k hk => by
    obtain ⟨i, hi⟩ := List.mem_iff_getElem?.mp hk
    exact dictK_get (markV u) hi
  unfold keyT
  rw [List.map_inj_left]
  constructor
  · intro h k hk
    have := h (Sum.inr (kS k), markV t k) (List.mem_map.mpr ⟨k, hk, rfl⟩)
    dsimp only at this
    rw [hv k hk] at this
    dsimp only at this
    rw [markV_eq] at this
    exact of_decide_eq_true this
  · intro h p hp
    obtain ⟨k, hk, rfl⟩ := List.mem_map.mp hp
    dsimp only
    rw [hv k hk]
    dsimp only
    rw [markV_eq]
    exact decide_eq_true (h k hk)
theorem find_idx {α : Type} {f : α → List Nat} {a : List Nat} : ∀ l : List α, l.find? (fun u => decide (f u = a)) = l[(l.map f).idxOf a]?
  | [] => rfl
  | x :: l => by
    rw [List.find?_cons, List.map_cons, List.idxOf_cons]
    by_cases h : f x = a
    · rw [decide_eq_true h, h, beq_self_eq_true]
      rfl
    · rw [decide_eq_false h, beq_eq_false_iff_ne.mpr h]
      dsimp only [cond_false]
      rw [find_idx l, List.getElem?_cons_succ]
theorem filt_head {t : Tr} : (t30.filter fun u => decide (keyT u = keyT t))[0]? = t30[pix t]? := by
  rw [← List.head?_eq_getElem?, List.head?_filter, find_idx]
  rfl
theorem AreTr.nth {H : Hp} {xs : List Addr} {ts : List Tr} {i : Nat} {t : Tr} (h : AreTr K H xs ts) (e : ts[i]? = some t) : ∃ x, xs[i]? = some x ∧ IsTr K H x t := by
  obtain ⟨hi, _⟩ := List.getElem?_eq_some_iff.mp e
  have hx : xs[i]? = some (xs[i]'(by rw [h.length]; exact hi)) := List.getElem?_eq_getElem _
  obtain ⟨u, hu, hh⟩ := h.get hx
  rw [e] at hu
  cases hu
  exact ⟨_, hx, hh⟩
def spPl (K : PySem.W.Frag) : Sp := fun vs H Q _ => ∃ (x : Addr) (t : Tr), vs = [.ref x] ∧ IsTr K H x t ∧ dep t ≤ 20 ∧ ∀ H' y u, Same H H' → t30[pix t]? = some u → IsTr K H' y u → Q (.ref y) H'
abbrev nPl : List Str := ["word", "told", "candidate"]
theorem sc_pl : FnScope nPl ["word"] (defScope (top iPlain)) := ⟨rfl, rfl, rfl, by decide +kernel, rfl, by decide +kernel, by decide +kernel⟩

theorem g_pl (T : Txt K mg) (A : Dfs K) : ∃ fd, FnP K "plain" iPlain (He.ga K "plain") fd ∧ FnOk P w K mg base CX0 38 (He.ga K "plain") fd ["word"] (spPl K) ∧ Binds K fd ["word"] [] := by
  obtain ⟨fdM, FM, GM, BM⟩ := g_marks (P := P) (w := w) (base := base) T A
  obtain ⟨fdP, FP, GP, BP⟩ := g_pw (P := P) (w := w) (base := base) T A
  obtain ⟨fd, F⟩ := A.def "plain" iPlain
  refine ⟨fd, F, ?_, F.bindsN fun _ _ _ _ _ _ us hl => match us, hl with | [_], _ => rfl⟩
  refine F.ok sc_pl (fun vs H Q E h => ?_) (fun cdv A outer s H vs Q E hr h => ?_)
  · obtain ⟨x, t, rfl, _⟩ := h
    rfl
  · obtain ⟨x, t, rfl, hx, hd, q⟩ := h
    have nd := sc_pl.nd
    have hrm : Room 25 _ := hr.mono (by decide)
    have hrp : Room 37 _ := hr
    have hu0 := hr.units0
    refine ⟨_, PSs.nox (pss_cons (ps_set (i := 1) nd rfl (.inr rfl) (pe_call GM hrm (by rfl) (T.df "marks" iMarks) FM.kp BM .nil pass0 (pa_cons (pv 0) pa_nil))) (pss_one (ps_ret (pe_ix ix_list (pe_lc (own := [("candidate", 2)]) (g := gName 2) (by rfl) nd (pi_list (pe_call0 GP hrp (by rfl) (T.df "plain_words" iPW) FP.kp BP .nil pass0)) (blkOk_by (own := [("candidate", 2)]) (N := nPl) (sc := defScope (top iPlain)) (by decide +kernel)) (fun _ _ _ _ _ => pg_name (i := 2) nd rfl (Or.inl rfl)) (fun _ _ _ _ _ => pts_one (pt_cmpR (op_eqDK hu0) (pe_call GM hrm (by rfl) (T.df "marks" iMarks) FM.kp BM .nil pass0 (pa_cons (pv 2) pa_nil)) (pv 1) (nomark _))) (fun _ _ _ _ _ => pv 2)) pe_int (fun _ _ => rfl))))), ?_⟩
    refine ⟨_, rfl, x, t, rfl, hx, hd, fun H1 d s1 hd0 hdd => ?_⟩
    refine ⟨rfl, fun H2 l ws s2 hl hll hws => ?_⟩
    refine ⟨l, rfl, ⟨_, SqL.of hll⟩, fun D hD => lc_it (walk_list (K := K) (a := l) (xs := ws.map V.ref)) (fun i H' => Same H2 H' ∧ ∃ zs : List Addr, H' D = some (.lst (zs.map V.ref)) ∧ zs.length ≤ i ∧ AreTr K H' zs ((t30.take i).filter fun u => decide (keyT u = keyT t))) ⟨same_new hD, [], upd_same, Nat.le_refl _, .nil⟩ (fun i H' _ z => SqL.of (z.1 _ _ hll)) ?_ ?_⟩
    · rintro i v Ha Hb hi ⟨sm, zs, hz, hzl, htr⟩ ⟨rfl, hv⟩
      rw [List.length_map, hws.length] at hi
      have hi30 : i < 30 := hi
      rw [List.getElem?_map] at hv
      obtain ⟨y, hy, rfl⟩ : ∃ y, ws[i]? = some y ∧ v = .ref y := by
        cases e : ws[i]? with
        | none => rw [e] at hv; cases hv
        | some y => rw [e] at hv; exact ⟨y, rfl, (Option.some.inj hv).symm⟩
      obtain ⟨u, hu, hyu⟩ := hws.get hy
      have du : dep u ≤ 20 := Nat.le_trans (dep30 u (List.mem_of_getElem? hu)) (by decide)
      refine ⟨rfl, _, rfl, y, u, rfl, hyu.same sm, du, fun H3 d3 s3 hd3 hdd3 => ?_⟩
      have s13 := s2.trans (sm.trans s3)
      refine ⟨_, rfl, d3, d, _, _, rfl, rfl, hdd3, s13 _ _ hdd, mark_flat, mark_flat, _, rfl, ?_⟩
      simp only [if_true, mark_dEq]
      have htr3 := htr.same s3
      have hz3 := s3 _ _ hz
      refine ite2 (fun h => ?_) (fun h => ?_)
      · refine ⟨_, rfl, _, hz3, lt_line (by rw [List.length_map]; omega), Same.grow (sm.trans s3) hD, zs ++ [y], by rw [upd_same, List.map_append]; rfl, by rw [List.length_append, List.length_singleton]; omega, ?_⟩
        rw [List.take_succ, hu, List.filter_append]
        rw [show List.filter (fun u => decide (keyT u = keyT t)) (some u).toList = [u] from by simp only [Option.toList, List.filter_cons, h, if_true, List.filter_nil]]
        exact (htr3.append (.cons ((hyu.same sm).same s3) .nil)).updL hz3
      · refine ⟨sm.trans s3, zs, hz3, by omega, ?_⟩
        rw [List.take_succ, hu, List.filter_append]
        rw [show List.filter (fun u => decide (keyT u = keyT t)) (some u).toList = [] from by simp only [Option.toList, List.filter_cons, h, if_false, List.filter_nil, Bool.false_eq_true], List.append_nil]
        exact htr3
    · rintro H3 ⟨sm, zs, hz, hzl, htr⟩
      have hT : List.take (List.map V.ref ws).length t30 = t30 := by
        rw [List.length_map, hws.length, List.take_length]
      rw [hT] at htr
      have hw := hx.wf
      have hp : t30[pix t]? = some (t30[pix t]'(pix_lt hw)) := List.getElem?_eq_getElem _
      obtain ⟨y, hy, hyt⟩ := htr.nth (filt_head.trans hp)
      refine ⟨D, _, 0, .ref y, rfl, rfl, SqL.of hz, ?_, q H3 y _ (s1.trans (s2.trans sm)) hp hyt⟩
      show atI (zs.map V.ref) ((0 : Nat) : Int) = _
      exact atI_nat (by rw [List.getElem?_map, hy]; rfl)
end
end KT

set_option Elab.async false
set_option linter.all false
set_option maxRecDepth 100000
set_option maxHeartbeats 4000000
/-! # a tuple == () -/
namespace VX
open PySem PySem.Spec PyProof.Rows L2
def rEqTN (K : PySem.W.Frag) : R2 := fun x y H Q => ∃ p q xs, x = .ref p ∧ y = .ref q ∧ SqT K H p xs ∧ SqT K H q [] ∧ Q (.bl xs.isEmpty) H
theorem op_eqTN {X : Cx} (K : PySem.W.Frag) (hu : X.A.units < cLine) (hK : X.K = K := by rfl) : OpR X (compareOp .Eq) (rEqTN K) := by
  subst hK
  intro pins s σ H x y v u Q I rx ry h
  obtain ⟨p, q, xs, rfl, rfl, hp, hq, hQ⟩ := h
  cases (show v = Value.ref p from rx)
  cases (show u = Value.ref q from ry)
  obtain ⟨us, r1, p1, _⟩ := I.tuple hp
  obtain ⟨ws, r2, p2, _⟩ := I.tuple hq
  cases r2
  refine SeqAt.RcAt.tuples (e := fun _ => true) p1 p2 hu (fun j h1 h2 => absurd h2 (Nat.not_lt_zero j)) _ _ _ _ ?_
  refine ⟨.bl _, H, I, ?_, hQ⟩
  have := r1.length
  cases r1 <;> rfl
end VX
namespace VX
open PySem PySem.Spec PyProof.Rows L2
theorem mt_indexDK {X : Cx} (K : PySem.W.Frag) (hu : X.A.units + 65 < cLine) (hK : X.K = K := by rfl) : MtR X "list.index" (rIndexD K) := by
  subst hK
  exact mt_indexD hu
end VX
namespace VX
open PySem PySem.Spec PyProof.Rows L2
theorem pe_bm0K {X : Cx} {o : Expr} {to : TE} {name : Str} {apos cpos : Pos} {T id : String} {r : V → List V → Hp → VK → Prop} (K : PySem.W.Frag) (pa : PlainAttrs T) (slot : Slot T name id) (hty : typeOf (.builtin id) = pure (.type "method_descriptor")) (hm : MtR X id r) (ho : PE X o to)
    (hK : X.K = K := by rfl) (hbase : attributeBase o name X.env (eval o X.env) = eval o X.env := by rfl) (hline : (apos.endLine == cpos.line) = true := by rfl) : PE X (.Call (.Attribute o name apos) [] [] cpos) (tBM0 K T r to) := by
  subst hK
  exact pe_bm0 pa slot hty hm ho hbase hline
theorem pe_bmK {X : Cx} {o e : Expr} {es : List Expr} {to : TE} {t : TA} {name : Str} {apos cpos : Pos} {T id : String} {r : V → List V → Hp → VK → Prop} (K : PySem.W.Frag) (pa : PlainAttrs T) (slot : Slot T name id) (hty : typeOf (.builtin id) = pure (.type "method_descriptor")) (hm : MtR X id r) (ho : PE X o to) (ha : PA X (e :: es) t)
    (hK : X.K = K := by rfl) (hbase : attributeBase o name X.env (eval o X.env) = eval o X.env := by rfl)
    (hfew : ((backTo cpos (starEach (e :: es) X.env)).all (fun x => !x.1) && (backToKw cpos (keywordEach [] X.env)).all (fun x => x.1.isSome)
      && decide ((e :: es).length + ([] : List Keyword).length + (if ([] : List Keyword).isEmpty then 0 else 1) < 30)) = true := by rfl)
    (hline : (apos.endLine == cpos.line) = true := by rfl) (hs : starEach (e :: es) X.env = (false, eval e X.env) :: starEach es X.env := by rfl) (hplain : (backTo cpos (starEach es X.env)).any (·.1) = false := by rfl) :
    PE X (.Call (.Attribute o name apos) (e :: es) [] cpos) (tBM K T r to t) := by
  subst hK
  exact pe_bm pa slot hty hm ho ha hbase hfew hline hs hplain
end VX

set_option Elab.async false
set_option linter.all false
set_option maxRecDepth 100000
set_option maxHeartbeats 4000000
/-! # law: texts, trees of words, keys -/
namespace KT
open PySem PySem.Spec PyProof.Rows L2 VX KW CwR
section
variable {P : Program} {w : World} {K : PySem.W.Frag} {mg : Str → Option Value} {base : Heap} {f : Addr} {fd : FuncData}
theorem lst_same {H : Hp} {l : Addr} {xs : List V} (h : H l = none) : Same H (upd H l (.lst xs)) := same_new h
/-! ### _law_texts -/
def spTe (K : PySem.W.Frag) : Sp := fun vs H Q _ => vs = [] ∧ ∀ H' l, Same H H' → H l = none → H' l = some (.lst (txt30.map V.str)) → Q (.ref l) H'
abbrev nTe : List Str := ["_law_found"]
theorem sc_te : FnScope nTe [] (defScope (top iTexts)) := ⟨rfl, rfl, rfl, by decide +kernel, rfl, by decide +kernel, by decide +kernel⟩

theorem g_te (T : Txt K mg) (A : Dfs K) : ∃ fd, FnP K "_law_texts" iTexts (He.ga K "_law_texts") fd ∧ FnOk P w K mg base CX0 1 (He.ga K "_law_texts") fd [] (spTe K) ∧ Binds K fd [] [] := by
  obtain ⟨fd, F⟩ := A.def "_law_texts" iTexts
  refine ⟨fd, F, ?_, F.bindsN fun _ _ _ _ _ _ us hl => match us, hl with | [], _ => rfl⟩
  refine F.ok sc_te (fun vs H Q E h => ?_) (fun cdv A outer s H vs Q E hr h => ?_)
  · obtain ⟨rfl, _⟩ := h
    rfl
  · obtain ⟨rfl, q⟩ := h
    have nd := sc_te.nd
    refine ⟨_, PSs.nox (pss_cons (ps_set (i := 0) nd rfl (.inl rfl) (pe_lst (pa_cons pe_str (pa_cons pe_str (pa_cons pe_str (pa_cons pe_str (pa_cons pe_str (pa_cons pe_str (pa_cons pe_str (pa_cons pe_str pa_nil)))))))))) (pss_cons (ps_set (i := 0) nd rfl (.inl rfl) (pe_op op_cat (pv 0) (pe_lst (pa_cons pe_str (pa_cons pe_str (pa_cons pe_str (pa_cons pe_str (pa_cons pe_str pa_nil)))))))) (pss_cons (ps_set (i := 0) nd rfl (.inl rfl) (pe_op op_cat (pv 0) (pe_lst (pa_cons pe_str (pa_cons pe_str (pa_cons pe_str (pa_cons pe_str (pa_cons pe_str (pa_cons pe_str pa_nil))))))))) (pss_cons (ps_set (i := 0) nd rfl (.inl rfl) (pe_op op_cat (pv 0) (pe_lst (pa_cons pe_str (pa_cons pe_str (pa_cons pe_str (pa_cons pe_str (pa_cons pe_str pa_nil)))))))) (pss_one (ps_ret (pe_op op_cat (pv 0) (pe_lst (pa_cons pe_str (pa_cons pe_str (pa_cons pe_str (pa_cons pe_str (pa_cons pe_str (pa_cons pe_str pa_nil)))))))))))))), ?_⟩
    refine ⟨(by show 8 ≤ sizeLine; decide), fun a1 h1 => ?_⟩
    have s1 := fun o => same_new (o := o) h1
    refine ⟨_, rfl, (by show 5 ≤ sizeLine; decide), fun a2 h2 => ⟨a1, a2, _, _, rfl, rfl, same_new h2 _ _ upd_same, upd_same, (by show 8 + 5 ≤ sizeLine; decide), fun a3 h3 => ?_⟩⟩
    have s2 := fun o => same_new (o := o) h2
    refine ⟨_, rfl, (by show 6 ≤ sizeLine; decide), fun a4 h4 => ⟨a3, a4, _, _, rfl, rfl, same_new h4 _ _ upd_same, upd_same, (by show 13 + 6 ≤ sizeLine; decide), fun a5 h5 => ?_⟩⟩
    refine ⟨_, rfl, (by show 5 ≤ sizeLine; decide), fun a6 h6 => ⟨a5, a6, _, _, rfl, rfl, same_new h6 _ _ upd_same, upd_same, (by show 19 + 5 ≤ sizeLine; decide), fun a7 h7 => ?_⟩⟩
    refine ⟨_, rfl, (by show 6 ≤ sizeLine; decide), fun a8 h8 => ⟨a7, a8, _, _, rfl, rfl, same_new h8 _ _ upd_same, upd_same, (by show 24 + 6 ≤ sizeLine; decide), fun a9 h9 => ?_⟩⟩
    refine q _ a9 (((((((((same_new h1).trans (same_new h2)).trans (same_new h3)).trans (same_new h4)).trans (same_new h5)).trans (same_new h6)).trans (same_new h7)).trans (same_new h8)).trans (same_new h9)) (by refine Same.free ?_ h9; exact ((((((((same_new h1).trans (same_new h2)).trans (same_new h3)).trans (same_new h4)).trans (same_new h5)).trans (same_new h6)).trans (same_new h7)).trans (same_new h8))) ?_
    rw [upd_same, txt30_v]
    rfl
/-! ### _law_of -/
def spOf (K : PySem.W.Frag) (n : Nat) : Sp := fun vs H Q _ => ∃ (x : Addr) (t : Tr), vs = [.ref x] ∧ IsTr K H x t ∧ dep t ≤ n ∧ ∀ H' v, Same H H' → IsTT H' v t → Q v H'
def spOfL (K : PySem.W.Frag) : Nat → Sp
  | 0 => fun _ _ _ _ => False
  | n + 1 => spOf K n
abbrev nOf : List Str := ["_law_word_here"]
theorem sc_of : FnScope nOf ["_law_word_here"] (defScope (top iOf)) := ⟨rfl, rfl, rfl, by decide +kernel, rfl, by decide +kernel, by decide +kernel⟩

theorem ok_of1 {fdg fdp : FuncData} (F : FnP K "_law_of" iOf (He.ga K "_law_of") fd) (T : Txt K mg) (Z : Prf K fdg fdp) (n : Nat) (GR : FnOk P w K mg base CX0 (2 + n) (He.ga K "_law_of") fd ["_law_word_here"] (spOfL K n)) :
    FnOk P w K mg base CX0 (3 + n) (He.ga K "_law_of") fd ["_law_word_here"] (spOf K n) := by
  have BR : Binds K fd ["_law_word_here"] [] := F.bindsN fun _ _ _ _ _ _ us hl => match us, hl with | [_], _ => rfl
  have GSg : FnOk P w K mg base CX0 1 _ fdg ["self"] (spGetS K) := ok_gets Z.fg T
  have BSg : Binds K fdg ["self"] [] := Z.fg.bindsN fun _ _ _ _ _ _ us hl => match us, hl with | [_], _ => rfl
  have GPa : FnOk P w K mg base CX0 1 _ fdp ["self"] (spGetP K) := ok_getp Z.fp T
  have BPa : Binds K fdp ["self"] [] := Z.fp.bindsN fun _ _ _ _ _ _ us hl => match us, hl with | [_], _ => rfl
  rw [show 3 + n = (2 + n) + 1 by omega]
  refine F.ok sc_of (fun vs H Q E h => ?_) (fun cdv A outer s H vs Q E hr h => ?_)
  · obtain ⟨x, t, rfl, _⟩ := h
    rfl
  · obtain ⟨x, t, rfl, hx, hd, q⟩ := h
    have nd := sc_of.nd
    have hr2 : Room 2 _ := hr.mono (by omega)
    have hu0 := hr.units0
    refine ⟨_, PSs.nox (pss_cons (ps_if (pt_cmpR (op_eqTN K hu0) (pe_prop (pv 0) T.cls T.pp GPa hr2 BPa .nil pass0 rfl) (pe_tup pa_nil) (nomark _)) (pss_one (ps_ret (pe_tup (pa_cons (pe_prop (pv 0) T.cls T.ps GSg hr2 BSg .nil pass0 rfl) (pa_cons pe_non (pa_cons pe_non pa_nil)))))) pss_nil) (pss_one (ps_ret (pe_tup (pa_cons (pe_prop (pv 0) T.cls T.ps GSg hr2 BSg .nil pass0 rfl) (pa_cons (pe_call GR hr (by rfl) (T.df "_law_of" iOf) F.kp BR .nil pass0 (pa_cons (pe_ix ix_tup (pe_prop (pv 0) T.cls T.pp GPa hr2 BPa .nil pass0 rfl) pe_int (fun _ _ => rfl)) pa_nil)) (pa_cons (pe_call GR hr (by rfl) (T.df "_law_of" iOf) F.kp BR .nil pass0 (pa_cons (pe_ix ix_tup (pe_prop (pv 0) T.cls T.pp GPa hr2 BPa .nil pass0 rfl) pe_int (fun _ _ => rfl)) pa_nil)) pa_nil))))))), ?_⟩
    cases t with
    | lf c =>
      obtain ⟨hlc, wx⟩ := hx
      obtain ⟨dx, a, h1, h2⟩ := id wx
      refine ⟨_, rfl, x, dx, _, rfl, h1, x, c, _, rfl, wx, fun a2 ha2 => ⟨(by show 0 ≤ sizeLine; decide), fun e he => ⟨a2, e, _, rfl, rfl, SqT.same (same_new he) ha2, SqT.of upd_same, _, rfl, iteT ?_⟩⟩⟩
      have s1 := same_new (o := .tup []) he
      refine ⟨_, rfl, x, dx, _, rfl, s1 _ _ h1, x, c, _, rfl, wx.same s1, (by show 3 ≤ sizeLine; decide), fun t ht => ?_⟩
      exact q _ _ (s1.trans (same_new ht)) ⟨hlc, t, rfl, upd_same⟩
    | nd c l r =>
      obtain ⟨hj, y, z, wx, hy, hz⟩ := hx
      obtain ⟨dx, a, h1, h2⟩ := id wx
      simp only [dep] at hd
      obtain ⟨m, rfl⟩ : ∃ m, n = m + 1 := ⟨n - 1, by omega⟩
      refine ⟨_, rfl, x, dx, _, rfl, h1, x, c, _, rfl, wx, fun a2 ha2 => ⟨(by show 0 ≤ sizeLine; decide), fun e he => ⟨a2, e, _, rfl, rfl, SqT.same (same_new he) ha2, SqT.of upd_same, _, rfl, iteF ?_⟩⟩⟩
      have s1 := same_new (o := .tup []) he
      generalize upd H e (.tup []) = H1 at s1
      have wx1 := wx.same s1
      refine ⟨_, rfl, x, dx, _, rfl, s1 _ _ h1, x, c, _, rfl, wx1, ?_⟩
      refine ⟨_, rfl, x, dx, _, rfl, s1 _ _ h1, x, c, _, rfl, wx1, fun a3 ha3 => ⟨a3, _, 0, .ref y, rfl, rfl, ha3, rfl, y, l, rfl, hy.same s1, by omega, fun H2 v s2 hv => ?_⟩⟩
      have s02 := s1.trans s2
      refine ⟨_, rfl, x, dx, _, rfl, s02 _ _ h1, x, c, _, rfl, wx.same s02, fun a4 ha4 => ⟨a4, _, 1, .ref z, rfl, rfl, ha4, rfl, z, r, rfl, hz.same s02, by omega, fun H3 u s3 hu => ?_⟩⟩
      refine ⟨(by show 3 ≤ sizeLine; decide), fun t ht => ?_⟩
      have s4 := same_new (o := .tup [.str (one c), v, u]) ht
      exact q _ _ (s02.trans (s3.trans s4)) ⟨hj, t, v, u, rfl, upd_same, hv.same (s3.trans s4), hu.same s4⟩
theorem g_of (T : Txt K mg) (A : Dfs K) : ∃ fd, FnP K "_law_of" iOf (He.ga K "_law_of") fd ∧ FnOk P w K mg base CX0 23 (He.ga K "_law_of") fd ["_law_word_here"] (spOf K 20) ∧ Binds K fd ["_law_word_here"] [] := by
  obtain ⟨fd, F⟩ := A.def "_law_of" iOf
  obtain ⟨_, _, Z⟩ := g_prf A
  have h : ∀ n, FnOk P w K mg base CX0 (3 + n) (He.ga K "_law_of") fd ["_law_word_here"] (spOf K n) := by
    intro n
    induction n with
    | zero => exact ok_of1 F T Z 0 ⟨fun _ _ _ _ h => h.elim, fun _ _ _ _ _ _ _ _ _ _ _ _ _ h => h.elim⟩
    | succ n ih => exact ok_of1 F T Z (n + 1) (by rw [show 2 + (n + 1) = 3 + n by omega]; exact ih)
  exact ⟨fd, F, h 20, F.bindsN fun _ _ _ _ _ _ us hl => match us, hl with | [_], _ => rfl⟩
/-! ### _law_key -/
theorem ok_lmark (F : FnP K "_law_mark" iLMark (He.ga K "_law_mark") fd) (T : Txt K mg) : ∀ n, FnOk P w K mg base CX0 (2 + n) (He.ga K "_law_mark") fd ["_law_tree_here", "_law_kind"] (spLMark n) := by
  intro n
  induction n with
  | zero => exact ok_lmark1 F T 0 ⟨fun _ _ _ _ h => h.elim, fun _ _ _ _ _ _ _ _ _ _ _ _ _ h => h.elim⟩
  | succ n ih => exact ok_lmark1 F T (n + 1) (by rw [show 1 + (n + 1) = 2 + n by omega]; exact ih)
def keyV (t : Tr) : List V := kinds.map fun k => lmV k t
def spKe : Sp := fun vs H Q _ => ∃ (v : V) (t : Tr), vs = [v] ∧ IsTT H v t ∧ dep t ≤ 20 ∧ ∀ H' l, Same H H' → H l = none → H' l = some (.lst (keyV t)) → Q (.ref l) H'
abbrev nKe : List Str := ["_law_tree_here", "_law_kind"]
theorem sc_ke : FnScope nKe ["_law_tree_here"] (defScope (top iKey)) := ⟨rfl, rfl, rfl, by decide +kernel, rfl, by decide +kernel, by decide +kernel⟩

theorem g_ke (T : Txt K mg) (A : Dfs K) : ∃ fd, FnP K "_law_key" iKey (He.ga K "_law_key") fd ∧ FnOk P w K mg base CX0 23 (He.ga K "_law_key") fd ["_law_tree_here"] spKe ∧ Binds K fd ["_law_tree_here"] [] := by
  obtain ⟨fdM, FM⟩ := A.def "_law_mark" iLMark
  have GM : FnOk P w K mg base CX0 22 _ fdM ["_law_tree_here", "_law_kind"] (spLMark 20) := ok_lmark FM T 20
  have BM : Binds K fdM ["_law_tree_here", "_law_kind"] [] := FM.bindsN fun _ _ _ _ _ _ us hl => match us, hl with | [_, _], _ => rfl
  obtain ⟨fd, F⟩ := A.def "_law_key" iKey
  refine ⟨fd, F, ?_, F.bindsN fun _ _ _ _ _ _ us hl => match us, hl with | [_], _ => rfl⟩
  refine F.ok sc_ke (fun vs H Q E h => ?_) (fun cdv A outer s H vs Q E hr h => ?_)
  · obtain ⟨v, t, rfl, _⟩ := h
    rfl
  · obtain ⟨v, t, rfl, ht, hd, q⟩ := h
    have nd := sc_ke.nd
    refine ⟨_, PSs.nox (pss_one (ps_ret (pe_lc (own := [("_law_kind", 1)]) (g := gName 1) (by rfl) nd (pi_list (pe_lst (pa_cons pe_str (pa_cons pe_str (pa_cons pe_str (pa_cons pe_str (pa_cons pe_str (pa_cons pe_str (pa_cons pe_str (pa_cons pe_str (pa_cons pe_str pa_nil))))))))))) (blkOk_by (own := [("_law_kind", 1)]) (N := nKe) (sc := defScope (top iKey)) (by decide +kernel)) (fun _ _ _ _ _ => pg_name (i := 1) nd rfl (Or.inl rfl)) (fun _ _ _ _ _ => pts_nil) (fun _ _ _ _ _ => pe_call GM hr (by rfl) (T.df "_law_mark" iLMark) FM.kp BM .nil pass0 (pa_cons (pv 0) (pa_cons (pv 1) pa_nil)))))), ?_⟩
    refine ⟨(by show 9 ≤ sizeLine; decide), fun lk hlk => ⟨lk, rfl, ⟨_, SqL.of upd_same⟩, fun D hD => ?_⟩⟩
    have s1 := same_new (o := .lst kindV) hlk
    have h1 : upd H lk (.lst kindV) lk = some (.lst kindV) := upd_same
    have hD : upd H lk (.lst kindV) D = none := hD
    show ∃ W : Nat → Nat → Hp → Prop, (∃ m, W 0 m (upd (upd H lk (.lst kindV)) D (.lst []))) ∧ _
    generalize upd H lk (.lst kindV) = H1 at s1 h1 hD
    refine lc_it (walk_list (K := K) (a := lk) (xs := kindV)) (fun i H' => Same H1 H' ∧ H' D = some (.lst ((keyV t).take i))) ⟨same_new hD, upd_same⟩ (fun i H' _ z => SqL.of (z.1 _ _ h1)) ?_ ?_
    · rintro i u Ha Hb hi ⟨sm, hz⟩ ⟨rfl, hv⟩
      obtain ⟨k, hk, rfl⟩ := kind_at hv
      refine ⟨rfl, yes_if ?_⟩
      refine ⟨_, rfl, _, rfl, v, t, k, rfl, ht.same (s1.trans sm), hd, fun H3 s3 => ?_⟩
      have hz3 := s3 _ _ hz
      refine ⟨_, hz3, lt_line (Nat.le_trans (List.length_take_le' _ _) (by show 9 ≤ 100000; decide)), Same.grow (sm.trans s3) hD, ?_⟩
      rw [upd_same, List.take_succ]
      have : (keyV t)[i]? = some (lmV k t) := by unfold keyV; rw [List.getElem?_map, hk]; rfl
      rw [this]
      rfl
    · rintro H3 ⟨sm, hz⟩
      exact q H3 D (s1.trans sm) (s1.free hD) hz
end
end KT

set_option Elab.async false
set_option linter.all false
set_option maxRecDepth 100000
set_option maxHeartbeats 4000000
/-! # the law -/
namespace KT
open PySem PySem.Spec PyProof.Rows L2 VX KW CwR
section
variable {P : Program} {w : World} {K : PySem.W.Frag} {mg : Str → Option Value} {base : Heap} {f : Addr} {fd : FuncData}
/-! ### keys as data -/
theorem strOk_one {c : Nat} (h : leafC c = true ∨ jointC c = true) : PyData.canLay0 (.str (one c)) = true := by
  have hs : ∀ x ∈ [97, 98, 99, 48, 49, 43, 38], PyData.canLay0 (.str (one x)) = true := by decide +kernel
  refine hs c ?_
  rcases h with h | h
  · simp only [leafC, Bool.or_eq_true, beq_iff_eq] at h
    simp; omega
  · rcases joint_two h with h | h <;> simp [h]
def kdF (t : Tr) (k : List Nat) : PyData := if k = PL then .str (one (lp t)) else .int (li k t)
def kD (t : Tr) : PyData := .list (kinds.map (kdF t))
theorem dp_map {H : Hp} {t : Tr} : ∀ ks : List (List Nat), DpAll K H (ks.map fun k => lmV k t) (ks.map (kdF t))
  | [] => .nil
  | k :: ks => by
    refine .cons ?_ (dp_map ks)
    show Dp K H (if k = PL then .str (one (lp t)) else .int (li k t)) (if k = PL then .str (one (lp t)) else .int (li k t))
    by_cases h : k = PL
    · rw [if_pos h, if_pos h]; exact .str _
    · rw [if_neg h, if_neg h]; exact .int _
theorem dp_key {H : Hp} {a : Addr} {t : Tr} (h : H a = some (.lst (keyV t))) : Dp K H (.ref a) (kD t) := .lst (SqL.of h) (dp_map kinds)
theorem kdF_lay {t : Tr} (h : WF t = true) (k : List Nat) : PyData.canLay0 (kdF t k) = true := by
  unfold kdF
  split
  · refine strOk_one (.inl ?_)
    have := mk_five (k := PL) h
    rw [← lp_mk h] at this
    rcases five_cases this with e | e | e | e | e <;> rw [e] <;> rfl
  · rfl
theorem kdF_dep {t : Tr} (k : List Nat) : (kdF t k).depth = 0 := by
  unfold kdF
  split <;> rfl
theorem map_lay {t : Tr} (h : WF t = true) : ∀ ks : List (List Nat), PyData.canLayAll0 (ks.map (kdF t)) = true ∧ PyData.depthAll (ks.map (kdF t)) = 0
  | [] => ⟨rfl, by simp [PyData.depthAll]⟩
  | k :: ks => by
    obtain ⟨a, b⟩ := map_lay h ks
    refine ⟨?_, ?_⟩
    · simp only [List.map_cons, PyData.canLayAll0, kdF_lay h k, a, Bool.and_self]
    · simp only [List.map_cons, PyData.depthAll, kdF_dep, b, Nat.max_self]
theorem kD_shaped {t : Tr} (h : WF t = true) : SeqAt.shaped (kD t) = true := by
  obtain ⟨a, b⟩ := map_lay h kinds
  show (PyData.canLay0 (kD t) && decide ((kD t).depth ≤ 64)) = true
  have e1 : PyData.canLay0 (kD t) = true := by unfold kD; simp only [PyData.canLay0, a]
  have e2 : (kD t).depth ≤ 64 := by unfold kD; simp only [PyData.depth, b]; omega
  rw [e1, decide_eq_true e2]
  rfl
theorem kDs_shaped : SeqAt.shaped (.list (t30.map kD)) = true := by decide +kernel
theorem all_eqv {f g : List Nat → PyData} : ∀ ks : List (List Nat), PyData.eqvAll (ks.map f) (ks.map g) = ks.all fun k => PyData.eqv (f k) (g k)
  | [] => by simp [PyData.eqvAll]
  | k :: ks => by simp only [List.map_cons, PyData.eqvAll, List.all_cons, all_eqv ks]
theorem kd_eq {t u : Tr} (ht : WF t = true) (hu : WF u = true) : PyData.eqv (kD t) (kD u) = decide (keyT t = keyT u) := by
  unfold kD keyT
  rw [PyData.eqv, all_eqv, Bool.eq_iff_iff, decide_eq_true_eq, List.all_eq_true, List.map_inj_left]
  have h : ∀ k, PyData.eqv (kdF t k) (kdF u k) = decide (mk k t = mk k u) := by
    intro k
    unfold kdF
    by_cases hk : k = PL
    · rw [if_pos hk, if_pos hk, hk]
      show (one (lp t) == one (lp u)) = _
      rw [lp_mk ht, lp_mk hu, beq_one, Bool.eq_iff_iff, beq_iff_eq, decide_eq_true_eq]
      exact eq_comm
    · rw [if_neg hk, if_neg hk]
      show (li k t == li k u) = _
      rw [(li_mk hk ht).2, (li_mk hk hu).2, Bool.eq_iff_iff, beq_iff_eq, decide_eq_true_eq]
      omega
  constructor
  · intro q k hk
    have := q k hk
    rw [h] at this
    exact of_decide_eq_true this
  · intro q k hk
    rw [h]
    exact decide_eq_true (q k hk)
/-- lists of keys -/
inductive IsKs (H : Hp) : List V → List Tr → Prop
  | nil : IsKs H [] []
  | cons {v : V} {vs : List V} {t : Tr} {ts : List Tr} : (∃ a, v = .ref a ∧ H a = some (.lst (keyV t))) → IsKs H vs ts → IsKs H (v :: vs) (t :: ts)
theorem IsKs.kept {H H' : Hp} {b : Addr} {xs : List V} (hb : H b = some (.lst xs)) (hx : ∀ t, xs ≠ keyV t) (k : Kept b H H') {vs : List V} {ts : List Tr} (h : IsKs H vs ts) : IsKs H' vs ts := by
  induction h with
  | nil => exact .nil
  | @cons v vs t ts h _ ih =>
    obtain ⟨a, e, h⟩ := h
    refine .cons ⟨a, e, k _ _ h ?_⟩ ih
    rintro rfl
    rw [hb] at h
    cases h
    exact hx t rfl
theorem IsKs.same {H H' : Hp} (s : Same H H') {vs : List V} {ts : List Tr} (h : IsKs H vs ts) : IsKs H' vs ts := by
  induction h with
  | nil => exact .nil
  | cons h _ ih =>
    obtain ⟨a, e, h⟩ := h
    exact .cons ⟨a, e, s _ _ h⟩ ih
theorem IsKs.length {H : Hp} {vs : List V} {ts : List Tr} (h : IsKs H vs ts) : vs.length = ts.length := by
  induction h with
  | nil => rfl
  | cons _ _ ih => simp [ih]
theorem IsKs.add {H : Hp} {a : Addr} {t : Tr} (q : H a = some (.lst (keyV t))) : ∀ {vs : List V} {ts : List Tr}, IsKs H vs ts → IsKs H (vs ++ [.ref a]) (ts ++ [t])
  | _, _, .nil => .cons ⟨a, rfl, q⟩ .nil
  | _, _, .cons h r => .cons h (r.add q)
theorem IsKs.get {H : Hp} : ∀ {vs : List V} {ts : List Tr} {i : Nat} {t : Tr}, IsKs H vs ts → ts[i]? = some t → ∃ a, vs[i]? = some (.ref a) ∧ H a = some (.lst (keyV t))
  | _, _, 0, _, .cons ⟨a, e, h⟩ _, q => by
    simp only [List.getElem?_cons_zero, Option.some.injEq] at q
    subst q
    exact ⟨a, by rw [e]; rfl, h⟩
  | _, _, i + 1, _, .cons _ r, q => by
    rw [List.getElem?_cons_succ] at q
    obtain ⟨a, h1, h2⟩ := r.get q
    exact ⟨a, by rw [List.getElem?_cons_succ]; exact h1, h2⟩
theorem IsKs.dp {H : Hp} {vs : List V} {ts : List Tr} (h : IsKs H vs ts) : DpAll K H vs (ts.map kD) := by
  induction h with
  | nil => exact .nil
  | cons h _ ih =>
    obtain ⟨a, rfl, h⟩ := h
    exact .cons (dp_key h) ih
theorem keyV_len {t : Tr} : (keyV t).length = 9 := rfl
theorem keyV_head {t : Tr} {a : Addr} {vs : List V} : V.ref a :: vs ≠ keyV t := by
  intro e
  have : (keyV t)[0]? = some (V.int (li [] t)) := rfl
  rw [← e] at this
  cases this
theorem ref_keys {H : Hp} {vs : List V} {ts : List Tr} (h : IsKs H vs ts) : ∀ t, vs ≠ keyV t := by
  intro t e
  cases h with
  | nil => have := congrArg List.length e; cases this
  | cons h _ =>
    obtain ⟨a, rfl, _⟩ := h
    exact keyV_head e
theorem idx_use {H : Hp} {D a : Addr} {vs : List V} {t : Tr} {Q : VK} (hD : H D = some (.lst vs)) (hk : IsKs H vs t30) (ha : H a = some (.lst (keyV t))) (hw : WF t = true) (q : Q (.int (pix t : Nat)) H) : rIndexD K (.ref D) [.ref a] H Q := by
  have hp : pix t < t30.length := pix_lt hw
  have he : (t30.map kD)[pix t]? = some (kD (t30[pix t]'hp)) := by
    rw [List.getElem?_map, List.getElem?_eq_getElem hp]
    rfl
  have ek : ∀ m (hm : m < t30.length), key30[m]? = some (keyT (t30[m]'hm)) := fun m hm => by
    unfold key30
    rw [List.getElem?_map, List.getElem?_eq_getElem hm]
    rfl
  refine ⟨D, .ref a, kD t, t30.map kD, pix t, _, rfl, rfl, .lst (SqL.of hD) hk.dp, dp_key ha, kDs_shaped, kD_shaped hw, he, ?_, ?_, q⟩
  · rw [kd_eq (wf30 _ (List.getElem_mem _)) hw, decide_eq_true_eq]
    have := pix_key hw
    rw [ek _ hp] at this
    exact Option.some.inj this
  · intro m z hm hz
    have hm30 : m < t30.length := by omega
    rw [List.getElem?_map, List.getElem?_eq_getElem hm30] at hz
    cases hz
    rw [kd_eq (wf30 _ (List.getElem_mem _)) hw, decide_eq_false_iff_not]
    intro e
    have := pix_one ((ek m hm30).trans (by rw [e])) hw
    omega
theorem pix_self {i : Nat} (h : i < t30.length) : pix (t30[i]'h) = i := by
  refine (pix_one ?_ (wf30 _ (List.getElem_mem _))).symm
  unfold key30
  rw [List.getElem?_map, List.getElem?_eq_getElem h]
  rfl
theorem txt_at {i : Nat} {u : Tr} (h : t30[i]? = some u) : (txt30.map V.str)[i]? = some (.str (tx u)) := by
  rw [txt30_tx, List.map_map, List.getElem?_map, h]
  rfl
/-! ### the law -/
def spLaw (K : PySem.W.Frag) : Sp := fun vs H Q _ => ∃ (l : Addr) (ns : List Int), vs = [.ref l] ∧ SqL K H l (ns.map V.int) ∧ ∀ H', Q (.bl true) H'
theorem box3 {H : Hp} {b : Addr} {N : Nat} (h : BoxK H b N) : ∃ xs, H b = some (.lst xs) ∧ ∀ t, xs ≠ keyV t := by
  obtain ⟨x, y, z, hb, _⟩ := h
  exact ⟨_, hb, fun t e => by have := congrArg List.length e; cases this⟩
theorem sqT_kept {H H' : Hp} {b a : Addr} {xs ys : List V} (hb : H b = some (.lst xs)) (k : Kept b H H') (h : SqT K H a ys) : SqT K H' a ys := by
  rcases h with (h | ⟨o, h⟩) | h
  · exact .inl (.inl (k _ _ h (by rintro rfl; rw [hb] at h; cases h)))
  · exact .inl (.inr ⟨o, k _ _ h (by rintro rfl; rw [hb] at h; cases h)⟩)
  · exact .inr h
theorem IsWd.kept {H H' : Hp} {b x : Addr} {xs ys : List V} {c : Nat} (hb : H b = some (.lst xs)) (k : Kept b H H') (h : IsWd K H x c ys) : IsWd K H' x c ys := by
  obtain ⟨dx, a, h1, h2⟩ := h
  exact ⟨dx, a, k _ _ h1 (by rintro rfl; rw [hb] at h1; cases h1), sqT_kept hb k h2⟩
theorem IsTr.kept {H H' : Hp} {b : Addr} {xs : List V} (hb : H b = some (.lst xs)) (k : Kept b H H') : ∀ {t : Tr} {x : Addr}, IsTr K H x t → IsTr K H' x t
  | .lf _, _, h => ⟨h.1, h.2.kept hb k⟩
  | .nd _ _ _, _, h => by
    obtain ⟨j, y, z, h1, h2, h3⟩ := h
    exact ⟨j, y, z, h1.kept hb k, h2.kept hb k, h3.kept hb k⟩
theorem AreTr.kept {H H' : Hp} {b : Addr} {xs : List V} (hb : H b = some (.lst xs)) (k : Kept b H H') : ∀ {ws : List Addr} {ts : List Tr}, AreTr K H ws ts → AreTr K H' ws ts
  | _, _, .nil => .nil
  | _, _, .cons h r => .cons (h.kept hb k) (r.kept hb k)
structure Std (K : PySem.W.Frag) (H : Hp) (D l6 : Addr) (vs : List V) (ws : List Addr) : Prop where
  hz : H D = some (.lst vs)
  hk : IsKs H vs t30
  hl : H l6 = some (.lst (ws.map V.ref))
  hw : AreTr K H ws t30
theorem Std.same {H H' : Hp} {D l6 : Addr} {vs : List V} {ws : List Addr} (s : Same H H') (h : Std K H D l6 vs ws) : Std K H' D l6 vs ws := ⟨s _ _ h.hz, h.hk.same s, s _ _ h.hl, h.hw.same s⟩
theorem Std.kept {H H' : Hp} {b D l6 : Addr} {vs : List V} {ws : List Addr} {N : Nat} (hb : BoxK H b N) (n1 : D ≠ b) (n2 : l6 ≠ b) (k : Kept b H H') (h : Std K H D l6 vs ws) : Std K H' D l6 vs ws := by
  obtain ⟨xs, hx, hn⟩ := box3 hb
  exact ⟨k _ _ h.hz n1, h.hk.kept hx hn k, k _ _ h.hl n2, h.hw.kept hx k⟩
theorem IsTr.dx {H : Hp} {x : Addr} {t : Tr} (h : IsTr K H x t) : ∃ dx a, H x = some (.ins (wC K) dx [("_sign", .str (one (sgn t))), ("_parts", .ref a)]) := by
  obtain ⟨_, dx, a, h1, _⟩ := h.wd
  exact ⟨dx, a, h1⟩
abbrev nLaw : List Str := ["_law_script", "_law_box_here", "_law_told", "_law_keys", "_law_thirty", "_law_turn", "_law_tree_here", "_law_one", "_law_other", "_law_word_here", "_law_k"]
theorem sc_law : FnScope nLaw ["_law_script"] (defScope (top iLaw)) := ⟨rfl, rfl, rfl, by decide +kernel, rfl, by decide +kernel, by decide +kernel⟩

theorem ok_law (F : FnP K "law" iLaw f fd) (T : Txt K mg) (A : Dfs K) (B : Tabs K w) : FnOk P w K mg base CX0 45 f fd ["_law_script"] (spLaw K) := by
  obtain ⟨fdP, FP, GP, BP⟩ := g_pw (P := P) (w := w) (base := base) T A
  obtain ⟨fdTe, FTe, GTe, BTe⟩ := g_te (P := P) (w := w) (base := base) T A
  obtain ⟨MT, fdT, GT, BT⟩ := g_tx (P := P) (w := w) (base := base) T A
  obtain ⟨fdK, FK, GK, BK⟩ := g_ke (P := P) (w := w) (base := base) T A
  obtain ⟨fdO, FO, GO, BO⟩ := g_of (P := P) (w := w) (base := base) T A
  obtain ⟨MD, fdD, GD, BD⟩ := g_du (P := P) (w := w) (base := base) T A B
  obtain ⟨fdPl, FPl, GPl, BPl⟩ := g_pl (P := P) (w := w) (base := base) T A
  obtain ⟨fdX, FX⟩ := A.def "_law_box" iBox
  obtain ⟨fdCe, FCe⟩ := A.def "_law_cell" iCell
  have GX : FnOk P w K mg base CX0 2 (He.ga K "_law_box") fdX ["_law_script", "_law_k"] (spBox K) := ok_box FX T FCe
  have BX : Binds K fdX ["_law_script", "_law_k"] [] := FX.bindsN fun _ _ _ _ _ _ us hl => match us, hl with | [_, _], _ => rfl
  obtain ⟨fdTk, FTk⟩ := A.def "_law_take" iTake
  have GTk : FnOk P w K mg base CX0 1 (He.ga K "_law_take") fdTk ["_law_box_here", "_law_many"] spTake := ok_take FTk T
  have BTk : Binds K fdTk ["_law_box_here", "_law_many"] [] := FTk.bindsN fun _ _ _ _ _ _ us hl => match us, hl with | [_, _], _ => rfl
  obtain ⟨fdR, FR⟩ := A.def "_law_tree" iTree
  have GR : FnOk P w K mg base CX0 10 (He.ga K "_law_tree") fdR ["_law_box_here", "_law_size"] (spTree 8) := ok_tree FR T FTk 8
  have BR : Binds K fdR ["_law_box_here", "_law_size"] [] := FR.bindsN fun _ _ _ _ _ _ us hl => match us, hl with | [_, _], _ => rfl
  obtain ⟨fdW, FW⟩ := A.def "_law_word" iLWord
  obtain ⟨fdI, fdf, aw, Z⟩ := g_z A
  have GW : FnOk P w K mg base CX0 24 (He.ga K "_law_word") fdW ["_law_tree_here"] (spLWord K 20) := ok_lword FW T Z 20
  have BW : Binds K fdW ["_law_tree_here"] [] := FW.bindsN fun _ _ _ _ _ _ us hl => match us, hl with | [_], _ => rfl
  obtain ⟨fdA, FA⟩ := A.Word_add
  obtain ⟨fdB, FB⟩ := A.Word_and
  have GA : FnOk P w K mg base CX0 4 (He.ma K (wC K) "__add__") fdA ["self", "other"] (spOp K 43) := ok_wa FA T Z
  have BA : Binds K fdA ["self", "other"] [] := FA.bindsN fun _ _ _ _ _ _ us hl => match us, hl with | [_, _], _ => rfl
  have GB : FnOk P w K mg base CX0 4 (He.ma K (wC K) "__and__") fdB ["self", "other"] (spOp K 38) := ok_wb FB T Z
  have BB : Binds K fdB ["self", "other"] [] := FB.bindsN fun _ _ _ _ _ _ us hl => match us, hl with | [_, _], _ => rfl
  have RA : FnR P w K mg base CX0 4 (He.ma K (wC K) "__add__") (spOp K 43) := (GA.raw BA .nil).imp fun vs H Q E h => by rw [List.append_nil]; exact h
  have RB : FnR P w K mg base CX0 4 (He.ma K (wC K) "__and__") (spOp K 38) := (GB.raw BB .nil).imp fun vs H Q E h => by rw [List.append_nil]; exact h
  refine F.ok sc_law (fun vs H Q E h => ?_) (fun cdv A0 outer s H vs Q E hr h => ?_)
  · obtain ⟨l, ns, rfl, _⟩ := h
    rfl
  · obtain ⟨l, ns, rfl, hs, k⟩ := h
    have nd := sc_law.nd
    have hrx : Room 2 _ := hr.mono (by decide)
    have hrp : Room 37 _ := hr.mono (by decide)
    have hrk : Room 1 _ := hr.mono (by decide)
    have hrw : Room 23 _ := hr.mono (by decide)
    have hrt : Room 10 _ := hr.mono (by decide)
    have hrpl : Room 38 _ := hr.mono (by decide)
    have hrl : Room 24 _ := hr.mono (by decide)
    have hrd : Room 25 _ := hr.mono (by decide)
    have hr4 : Room 4 _ := hr.mono (by decide)
    have hu0 := hr.units0
    have hu65 : (A0.deeper (envOfC "law" (defScope (top iLaw)) s.heap.objs.size f cdv)).units + 65 < cLine := by have := hr.un; omega
    refine ⟨_, PSs.nox (pss_cons (ps_set (i := 1) nd rfl (.inl rfl) (pe_call GX hrx (by rfl) (T.df "_law_box" iBox) FX.kp BX .nil pass0 (pa_cons (pv 0) (pa_cons pe_int pa_nil)))) (pss_cons (ps_set (i := 2) nd rfl (.inl rfl) (pe_call0 GP hrp (by rfl) (T.df "plain_words" iPW) FP.kp BP .nil pass0)) (pss_cons (ps_if (pt_cmpR (op_neF K hu0) (pe_lc (own := [("_law_word_here", 9)]) (g := gName 9) (by rfl) nd (pi_list (pv 2)) (blkOk_by (own := [("_law_word_here", 9)]) (N := nLaw) (sc := defScope (top iLaw)) (by decide +kernel)) (fun _ _ _ _ _ => pg_name (i := 9) nd rfl (Or.inl rfl)) (fun _ _ _ _ _ => pts_nil) (fun _ _ _ _ _ => pe_meth0 (pv 9) T.cls MT GT hr BT .nil pass0)) (pe_call0 GTe hrk (by rfl) (T.df "_law_texts" iTexts) FTe.kp BTe .nil pass0) (nomark _)) (pss_one (ps_ret pe_bl)) pss_nil) (pss_cons (ps_set (i := 3) nd rfl (.inr rfl) (pe_lc (own := [("_law_word_here", 9)]) (g := gName 9) (by rfl) nd (pi_list (pv 2)) (blkOk_by (own := [("_law_word_here", 9)]) (N := nLaw) (sc := defScope (top iLaw)) (by decide +kernel)) (fun _ _ _ _ _ => pg_name (i := 9) nd rfl (Or.inl rfl)) (fun _ _ _ _ _ => pts_nil) (fun _ _ _ _ _ => pe_call GK hrw (by rfl) (T.df "_law_key" iKey) FK.kp BK .nil pass0 (pa_cons (pe_call GO hrw (by rfl) (T.df "_law_of" iOf) FO.kp BO .nil pass0 (pa_cons (pv 9) pa_nil)) pa_nil)))) (pss_cons (ps_if (pt_cmpR (op_neN K hu0) (pe_lc (own := [("_law_k", 10)]) (g := gName 10) (by rfl) nd (pi_range1 (by rfl) (T.fr "range") (pa_cons pe_int pa_nil)) (blkOk_by (own := [("_law_k", 10)]) (N := nLaw) (sc := defScope (top iLaw)) (by decide +kernel)) (fun _ _ _ _ _ => pg_name (i := 10) nd rfl (Or.inl rfl)) (fun _ _ _ _ _ => pts_one (pt_cmpR op_ne (pe_bmK (r := rIndexD K) K PySem.F.plainAttrs_list PySem.F.slot_list_index PySem.F.type_list_index (mt_indexDK K hu65) (pv 3) (pa_cons (pe_ix (r := rIxL K) ix_list (pv 3) (pv 10) (fun _ _ => rfl)) pa_nil)) (pv 10) (nomark _))) (fun _ _ _ _ _ => pv 10)) (pe_lst pa_nil) (nomark _)) (pss_one (ps_ret pe_bl)) pss_nil) (pss_cons (ps_expr (pe_bm0 PySem.F.plainAttrs_list PySem.F.slot_list_clear PySem.F.type_list_clear mt_clear (pv 2))) (pss_cons (ps_set (i := 4) nd rfl (.inl rfl) (pe_call0 GP hrp (by rfl) (T.df "plain_words" iPW) FP.kp BP .nil pass0)) (pss_cons (ps_for PassesOwn.never rfl (pi_range1 (by rfl) (T.fr "range") (pa_cons pe_int pa_nil)) (pg_name (i := 5) nd rfl (.inl rfl)) (pss_cons (ps_set (i := 6) nd rfl (.inl rfl) (pe_call GR hrt (by rfl) (T.df "_law_tree" iTree) FR.kp BR .nil pass0 (pa_cons (pv 1) (pa_cons (pe_op op_add pe_int (pe_call GTk hrk (by rfl) (T.df "_law_take" iTake) FTk.kp BTk .nil pass0 (pa_cons (pv 1) (pa_cons pe_int pa_nil)))) pa_nil)))) (pss_cons (ps_if (pt_cmpR op_ne (pe_meth0 (pe_call GPl hrpl (by rfl) (T.df "plain" iPlain) FPl.kp BPl .nil pass0 (pa_cons (pe_call GW hrl (by rfl) (T.df "_law_word" iLWord) FW.kp BW .nil pass0 (pa_cons (pv 6) pa_nil)) pa_nil)) T.cls MT GT hr BT .nil pass0) (pe_ix ix_list (pe_call0 GTe hrk (by rfl) (T.df "_law_texts" iTexts) FTe.kp BTe .nil pass0) (pe_bmK (r := rIndexD K) K PySem.F.plainAttrs_list PySem.F.slot_list_index PySem.F.type_list_index (mt_indexDK K hu65) (pv 3) (pa_cons (pe_call GK hrw (by rfl) (T.df "_law_key" iKey) FK.kp BK .nil pass0 (pa_cons (pv 6) pa_nil)) pa_nil)) (fun _ _ => rfl)) (nomark _)) (pss_one (ps_ret pe_bl)) pss_nil) (pss_cons (ps_set (i := 7) nd rfl (.inl rfl) (pe_ix ix_list (pv 4) (pe_call GTk hrk (by rfl) (T.df "_law_take" iTake) FTk.kp BTk .nil pass0 (pa_cons (pv 1) (pa_cons pe_int pa_nil))) (fun _ _ => rfl))) (pss_cons (ps_set (i := 8) nd rfl (.inl rfl) (pe_ix ix_list (pv 4) (pe_call GTk hrk (by rfl) (T.df "_law_take" iTake) FTk.kp BTk .nil pass0 (pa_cons (pv 1) (pa_cons pe_int pa_nil))) (fun _ _ => rfl))) (pss_one (ps_for PassesOwn.never rfl (pi_list (pe_lst (pa_cons (pe_op (op_ownB RA T.first T.add T.addf pass0 hr4) (pv 7) (pv 8)) (pa_cons (pe_op (op_ownB RB T.first T.and T.andf pass0 hr4) (pv 7) (pv 8)) (pa_cons (pv 7) (pa_cons (pe_meth0 (pv 8) T.cls MD GD hrd BD .nil pass0) pa_nil)))))) (pg_name (i := 9) nd rfl (.inl rfl)) (pss_one (ps_if (pt_cmpR op_ne (pe_meth0 (pe_call GPl hrpl (by rfl) (T.df "plain" iPlain) FPl.kp BPl .nil pass0 (pa_cons (pv 9) pa_nil)) T.cls MT GT hr BT .nil pass0) (pe_ix ix_list (pe_call0 GTe hrk (by rfl) (T.df "_law_texts" iTexts) FTe.kp BTe .nil pass0) (pe_bmK (r := rIndexD K) K PySem.F.plainAttrs_list PySem.F.slot_list_index PySem.F.type_list_index (mt_indexDK K hu65) (pv 3) (pa_cons (pe_call GK hrw (by rfl) (T.df "_law_key" iKey) FK.kp BK .nil pass0 (pa_cons (pe_call GO hrw (by rfl) (T.df "_law_of" iOf) FO.kp BO .nil pass0 (pa_cons (pv 9) pa_nil)) pa_nil)) pa_nil)) (fun _ _ => rfl)) (nomark _)) (pss_one (ps_ret pe_bl)) pss_nil))))))))) (pss_one (ps_ret (pe_cmpR (op_eqF K hu0) (pe_lc (own := [("_law_word_here", 9)]) (g := gName 9) (by rfl) nd (pi_list (pv 4)) (blkOk_by (own := [("_law_word_here", 9)]) (N := nLaw) (sc := defScope (top iLaw)) (by decide +kernel)) (fun _ _ _ _ _ => pg_name (i := 9) nd rfl (Or.inl rfl)) (fun _ _ _ _ _ => pts_nil) (fun _ _ _ _ _ => pe_meth0 (pv 9) T.cls MT GT hr BT .nil pass0)) (pe_call0 GTe hrk (by rfl) (T.df "_law_texts" iTexts) FTe.kp BTe .nil pass0) (nomark _)))))))))))), ?_⟩
    have lp2 : ∀ {ws : List Addr} {H : Hp}, AreTr K H ws t30 → (ws.map V.ref).length = 30 := fun h => by rw [List.length_map, h.length]; rfl
    have wd : ∀ {u : Tr} {i : Nat}, t30[i]? = some u → dep u ≤ 20 := fun h => Nat.le_trans (dep30 _ (List.mem_of_getElem? h)) (by decide)
    refine ⟨_, rfl, l, ns, 0, rfl, hs, by decide, fun b H1 hb s1 bx => ?_⟩
    refine ⟨rfl, fun H2 l2 ws s2 hl2 hl2e hws => ?_⟩
    have bx := bx.same s2
    -- the texts
    refine ⟨_, rfl, l2, rfl, ⟨_, SqL.of hl2e⟩, fun D hD => lc_it (walk_list (K := K) (a := l2) (xs := ws.map V.ref)) (fun i H' => Same H2 H' ∧ H' D = some (.lst ((txt30.map V.str).take i))) ⟨same_new hD, upd_same⟩ (fun i H' _ z => SqL.of (z.1 _ _ hl2e)) ?_ ?_⟩
    · rintro i v Ha Hb hi ⟨sm, hz⟩ ⟨rfl, hv⟩
      rw [List.getElem?_map] at hv
      obtain ⟨y, hy, rfl⟩ : ∃ y, ws[i]? = some y ∧ v = .ref y := by
        cases e : ws[i]? with
        | none => rw [e] at hv; cases hv
        | some y => rw [e] at hv; exact ⟨y, rfl, (Option.some.inj hv).symm⟩
      obtain ⟨u, hu, hyu⟩ := hws.get hy
      obtain ⟨dx, fs, hins⟩ := (hyu.same sm).ins
      obtain ⟨xs, dy, ay, hy1, _⟩ := (hyu.same sm).wd
      refine ⟨rfl, yes_if ?_⟩
      refine ⟨_, rfl, y, _, _, rfl, hy1, rfl, y, u, rfl, hyu.same sm, wd hu, fun H3 s3 => ?_⟩
      refine ⟨_, s3 _ _ hz, lt_line (Nat.le_trans (List.length_take_le' _ _) (by show 30 ≤ 100000; decide)), Same.grow (sm.trans s3) hD, ?_⟩
      rw [upd_same, List.take_succ, txt_at hu]
      rfl
    rintro H3 ⟨s3, hD3⟩
    rw [lp2 hws] at hD3
    have hD3 : H3 D = some (.lst (txt30.map V.str)) := hD3
    refine ⟨rfl, fun H4 l4 s4 _ hl4 => ⟨D, l4, _, _, rfl, rfl, SqL.of (s4 _ _ hD3), SqL.of hl4, by rw [List.all_map]; rfl, by rw [List.all_map]; rfl, _, rfl, ?_⟩⟩
    simp only [Bool.false_eq_true, if_false, eqLV_strs, decide_true, Bool.not_true]
    have s24 := s3.trans s4
    have bx := bx.same s24
    have hws := hws.same s24
    have hl2e := s24 _ _ hl2e
    clear s24 s4 hl4 hD3 s3 hD hl2 s2 hb s1 hs
    -- the keys
    refine ⟨_, rfl, l2, rfl, ⟨_, SqL.of hl2e⟩, fun D hD => lc_it (walk_list (K := K) (a := l2) (xs := ws.map V.ref)) (fun i H' => Same H4 H' ∧ ∃ vs, H' D = some (.lst vs) ∧ vs.length = i ∧ IsKs H' vs (t30.take i)) ⟨same_new hD, [], upd_same, rfl, .nil⟩ (fun i H' _ z => SqL.of (z.1 _ _ hl2e)) ?_ ?_⟩
    · rintro i v Ha Hb hi ⟨sm, vs, hz, hvl, hks⟩ ⟨rfl, hv⟩
      rw [lp2 hws] at hi
      rw [List.getElem?_map] at hv
      obtain ⟨y, hy, rfl⟩ : ∃ y, ws[i]? = some y ∧ v = .ref y := by
        cases e : ws[i]? with
        | none => rw [e] at hv; cases hv
        | some y => rw [e] at hv; exact ⟨y, rfl, (Option.some.inj hv).symm⟩
      obtain ⟨u, hu, hyu⟩ := hws.get hy
      refine ⟨rfl, yes_if ?_⟩
      refine ⟨_, rfl, y, u, rfl, hyu.same sm, wd hu, fun H5 v5 s5 hv5 => ?_⟩
      refine ⟨v5, u, rfl, hv5, wd hu, fun H6 a s6 ha ha6 => ?_⟩
      have hz6 := s6 _ _ (s5 _ _ hz)
      refine ⟨_, hz6, lt_line (by omega), Same.grow (sm.trans (s5.trans s6)) hD, vs ++ [.ref a], upd_same, by simp [hvl], ?_⟩
      rw [List.take_succ, hu]
      have k6 : Kept D H6 (upd H6 D (.lst (vs ++ [.ref a]))) := fun c o q ne => by rw [upd_ne ne]; exact q
      exact (((hks.same s5).same s6).add ha6).kept hz6 (ref_keys ((hks.same s5).same s6)) k6
    rintro H5 ⟨s5, vs, hz, hvl, hks⟩
    rw [lp2 hws] at hks
    have hks : IsKs H5 vs t30 := hks
    have nDl : D ≠ l2 := fun e => by rw [e, hl2e] at hD; cases hD
    have nDb : D ≠ b := fun e => by obtain ⟨xs, hx⟩ := bx.at; rw [e, hx] at hD; cases hD
    have bx := bx.same s5
    have hws := hws.same s5
    have hl2e := s5 _ _ hl2e
    have nbl : b ≠ l2 := fun e => by
      obtain ⟨x, y, z, hb, _⟩ := bx
      rw [e, hl2e] at hb
      have := lp2 hws
      injection hb with hb
      injection hb with hb
      rw [hb] at this
      cases this
    -- the first places
    refine ⟨30, rfl, by decide, by decide, fun D2 hD2 => lc_it (walk_range (lo := 0) (n := (30 : Int).toNat)) (fun i H' => Same H5 H' ∧ H' D2 = some (.lst [])) ⟨same_new hD2, upd_same⟩ (fun _ _ _ _ => trivial) ?_ ?_⟩
    · rintro i v Ha Hb hi ⟨sm, hz2⟩ ⟨rfl, rfl⟩
      have hi30 : i < t30.length := hi
      obtain ⟨a, hva, hka⟩ := (hks.same sm).get (List.getElem?_eq_getElem hi30)
      refine ⟨rfl, ?_⟩
      refine ⟨_, rfl, .inl ⟨rfl, _, SqL.of (sm _ _ hz)⟩, _, rfl, _, rfl, D, vs, _, .ref a, rfl, rfl, SqL.of (sm _ _ hz), ?_, ?_⟩
      · show atI vs (0 + (i : Int)) = _
        rw [Int.zero_add]
        exact atI_nat hva
      · dsimp -proj only [tCons, tC, tNil, List.append_nil]
        refine idx_use (sm _ _ hz) (hks.same sm) hka (wf30 _ (List.getElem_mem _)) ?_
        rw [pix_self hi30]
        refine ⟨_, rfl, rfl, _, rfl, ?_⟩
        rw [show (!decide (V.int (i : Nat) = V.int (0 + (i : Int)))) = false from by rw [Int.zero_add, decide_eq_true rfl]; rfl]
        exact iteF ⟨sm, hz2⟩
    rintro H6 ⟨s6, hD2e⟩
    refine ⟨(by show 0 ≤ sizeLine; decide), fun e he => ⟨D2, e, _, rfl, rfl, SqL.of (same_new he _ _ hD2e), SqL.of upd_same, _, rfl, ?_⟩⟩
    have s7 := s6.trans (same_new (o := .lst []) he)
    generalize upd H6 e (.lst []) = H7 at s7
    simp only [Bool.false_eq_true, if_false, List.isEmpty_nil, Bool.not_true]
    -- clear
    have hl7 := s7 _ _ hl2e
    refine ⟨_, rfl, .inl ⟨rfl, _, SqL.of hl7⟩, l2, _, rfl, rfl, hl7, ?_⟩
    have k8 : Kept l2 H7 (upd H7 l2 (.lst [])) := fun c o q ne => by rw [upd_ne ne]; exact q
    generalize upd H7 l2 (.lst []) = H8 at k8
    have hks8 : IsKs H8 vs t30 := (hks.same s7).kept hl7 (fun t e => by have := congrArg List.length e; rw [lp2 hws] at this; cases this) k8
    have hz8 : H8 D = some (.lst vs) := k8 _ _ (s7 _ _ hz) nDl
    have b8 : BoxK H8 b 0 := by
      obtain ⟨x, y, z, hb, r⟩ := bx.same s7
      exact ⟨x, y, z, k8 _ _ hb nbl, r⟩
    clear k8 hl7 s7 hD2e s6 hks hz hl2e hws bx
    refine ⟨rfl, fun H9 l6 ws6 s9 hl60 hl6 hws6 => ?_⟩
    have n6 : l6 ≠ b := fun e => by obtain ⟨xs, hx⟩ := b8.at; rw [e, hx] at hl60; cases hl60
    have st : Std K H9 D l6 vs ws6 := ⟨s9 _ _ hz8, hks8.same s9, hl6, hws6⟩
    have b9 := b8.same s9
    refine ⟨3, rfl, by decide, by decide, for_it (walk_range (lo := 0) (n := (3 : Int).toNat)) (fun i σ H' => (∃ y5 y6 y7 y8 y9 y10, σ = [some (V.ref l), some (V.ref b), some (V.ref l2), some (V.ref D), some (V.ref l6), y5, y6, y7, y8, y9, y10]) ∧ BoxK H' b (100 * i) ∧ Std K H' D l6 vs ws6) ⟨⟨_, _, _, _, _, _, rfl⟩, b9, st⟩ (fun _ _ _ _ _ => trivial) ?_ ?_⟩
    · rintro i v σ Ha Hb hi ⟨⟨y5, y6, y7, y8, y9, y10, rfl⟩, bi, st⟩ ⟨rfl, rfl⟩
      have hi3 : i < 3 := hi
      refine ⟨_, rfl, _, rfl, ?_⟩
      dsimp -proj only [tCons, tC, tNil, List.append_nil]
      refine take_use (m := 8) bi (by omega) (by decide) (by decide) fun e H1 e0 e1 k1 b1 _ => ?_
      obtain ⟨e, rfl⟩ : ∃ n : Nat, e = (n : Int) := ⟨e.toNat, by omega⟩
      have st := st.kept bi nDb n6 k1
      refine ⟨_, _, rfl, rfl, b, _, e + 1, ?_, b1, by omega, by omega, by omega, by omega, fun H2 a1 t1 k2 b2 ht1 hd1 => ?_⟩
      · show [V.ref b, V.int (1 + (e : Int))] = _
        rw [show (1 + (e : Int)) = ((e + 1 : Nat) : Int) by omega]
      have st := st.kept b1 nDb n6 k2
      have d1 : dep t1 ≤ 20 := by omega
      have w1 := ht1.wf
      -- plain of it
      refine ⟨_, rfl, .ref a1, t1, rfl, ht1, d1, fun H3 x s3 hx => ?_⟩
      refine ⟨x, t1, rfl, hx, d1, fun H4 y u s4 hu hyu => ?_⟩
      obtain ⟨dx, ax, hy1⟩ := hyu.dx
      refine ⟨y, dx, _, rfl, hy1, rfl, y, u, rfl, hyu, wd hu, fun H5 s5 => ?_⟩
      have s25 := s3.trans (s4.trans s5)
      refine ⟨rfl, fun H6 l8 s6 _ hl8 => ?_⟩
      have s26 := s25.trans s6
      have st6 := st.same s26
      refine ⟨_, rfl, .inl ⟨rfl, _, SqL.of st6.hz⟩, _, rfl, .ref a1, t1, rfl, ht1.same s26, d1, fun H7 a7 s7 _ ha7 => ?_⟩
      have s27 := s26.trans s7
      dsimp -proj only [tCons, tC, tNil, List.append_nil]
      refine idx_use (st6.same s7).hz (st6.same s7).hk ha7 w1 ?_
      refine ⟨l8, _, _, .str (tx u), rfl, rfl, SqL.of (s7 _ _ hl8), atI_nat (txt_at hu), rfl, _, rfl, ?_⟩
      rw [decide_eq_true rfl]
      refine iteF ?_
      have st := st.same s27
      have b7 := b2.same s27
      clear s27 st6 s26 s25 hl8 ha7 hyu hx hy1
      -- two of the thirty
      refine ⟨_, rfl, _, rfl, ?_⟩
      dsimp -proj only [tCons, tC, tNil, List.append_nil]
      refine take_use (m := 30) b7 (by omega) (by decide) (by decide) fun g H8 g0 g1 k8 b8 _ => ?_
      have st := st.kept b7 nDb n6 k8
      obtain ⟨g, rfl⟩ : ∃ n : Nat, g = (n : Int) := ⟨g.toNat, by omega⟩
      have hg : g < t30.length := by show g < 30; omega
      obtain ⟨x1, hx1, hxt1⟩ := st.hw.nth (List.getElem?_eq_getElem hg)
      refine ⟨l6, _, _, .ref x1, rfl, rfl, SqL.of st.hl, atI_nat (by rw [List.getElem?_map, hx1]; rfl), ?_⟩
      refine ⟨_, rfl, _, rfl, ?_⟩
      dsimp -proj only [tCons, tC, tNil, List.append_nil]
      refine take_use (m := 30) b8 (by omega) (by decide) (by decide) fun q H9 q0 q1 k9 b9 _ => ?_
      obtain ⟨xs8, hxs8, _⟩ := box3 b8
      have hxt1 := hxt1.kept hxs8 k9
      have st := st.kept b8 nDb n6 k9
      obtain ⟨q, rfl⟩ : ∃ n : Nat, q = (n : Int) := ⟨q.toNat, by omega⟩
      have hq : q < t30.length := by show q < 30; omega
      obtain ⟨x2, hx2, hxt2⟩ := st.hw.nth (List.getElem?_eq_getElem hq)
      refine ⟨l6, _, _, .ref x2, rfl, rfl, SqL.of st.hl, atI_nat (by rw [List.getElem?_map, hx2]; rfl), ?_⟩
      have du1 : dep t30[g] ≤ 4 := dep30 _ (List.getElem_mem _)
      have du2 : dep t30[q] ≤ 4 := dep30 _ (List.getElem_mem _)
      generalize t30[g] = u1 at hxt1 du1
      generalize t30[q] = u2 at hxt2 du2
      -- four words
      obtain ⟨dx1, ax1, hi1⟩ := hxt1.dx
      obtain ⟨dx2, ax2, hi2⟩ := hxt2.dx
      refine ⟨_, rfl, _, rfl, x1, x2, dx1, dx2, _, _, rfl, rfl, hi1, hi2, x1, x2, rfl, fun HA z1 sA _ hz1 => ?_⟩
      refine ⟨_, rfl, _, rfl, x1, x2, dx1, dx2, _, _, rfl, rfl, sA _ _ hi1, sA _ _ hi2, x1, x2, rfl, fun HB z2 sB _ hz2 => ?_⟩
      have sAB := sA.trans sB
      refine ⟨_, rfl, _, rfl, x2, dx2, _, rfl, sAB _ _ hi2, rfl, x2, u2, rfl, hxt2.same sAB, by omega, fun HC z4 sC _ hz4 => ?_⟩
      have sAC := sAB.trans sC
      refine ⟨(by show 4 ≤ sizeLine; decide), fun lp hlp => ⟨lp, rfl, ⟨_, SqL.of upd_same⟩, ?_⟩⟩
      have sD := sAC.trans (same_new (o := .lst [.ref z1, .ref z2, .ref x1, .ref z4]) hlp)
      have hlp3 : upd HC lp (.lst [.ref z1, .ref z2, .ref x1, .ref z4]) lp = some (.lst [.ref z1, .ref z2, .ref x1, .ref z4]) := upd_same
      have sCD := same_new (o := .lst [.ref z1, .ref z2, .ref x1, .ref z4]) hlp
      generalize upd HC lp (.lst [.ref z1, .ref z2, .ref x1, .ref z4]) = HD at sD hlp3 sCD
      have st := st.same sD
      have bD := b9.same sD
      have tr1 : IsTr K HD z1 (.nd 43 u1 u2) := ⟨rfl, x1, x2, (hz1.same sB).same (sC.trans sCD), hxt1.same sD, hxt2.same sD⟩
      have tr2 : IsTr K HD z2 (.nd 38 u1 u2) := ⟨rfl, x1, x2, hz2.same (sC.trans sCD), hxt1.same sD, hxt2.same sD⟩
      have tr3 := hxt1.same sD
      have tr4 := hz4.same sCD
      have items : ∀ (j : Nat) (v : V), [V.ref z1, V.ref z2, V.ref x1, V.ref z4][j]? = some v → ∃ x t, v = .ref x ∧ IsTr K HD x t ∧ dep t ≤ 20 := by
        intro j v hv
        match j, hv with
        | 0, hv => cases hv; exact ⟨_, _, rfl, tr1, by simp only [dep]; omega⟩
        | 1, hv => cases hv; exact ⟨_, _, rfl, tr2, by simp only [dep]; omega⟩
        | 2, hv => cases hv; exact ⟨_, _, rfl, tr3, by omega⟩
        | 3, hv => cases hv; exact ⟨_, _, rfl, tr4, by rw [ren_dep]; omega⟩
        | n + 4, hv => cases hv
      clear tr1 tr2 tr3 tr4 hz4 hz2 hz1 sD sAC sAB sCD hlp sA sB sC hi1 hi2 hxt1 hxt2
      refine for_it (walk_list (K := K) (a := lp) (xs := [.ref z1, .ref z2, .ref x1, .ref z4])) (fun j σ H' => (∃ y9 y10, σ = [some (V.ref l), some (V.ref b), some (V.ref l2), some (V.ref D), some (V.ref l6), some (V.int (0 + (i : Nat))), some (V.ref a1), some (V.ref x1), some (V.ref x2), y9, y10]) ∧ Same HD H') ⟨⟨_, _, rfl⟩, Same.refl _⟩ (fun j σ H' _ y => SqL.of (y.2 _ _ hlp3)) ?_ ?_
      · rintro j v1 σ Hc Hd hj ⟨⟨y9, y10, rfl⟩, sj⟩ ⟨rfl, hv⟩
        obtain ⟨x, t, rfl, hx, hd⟩ := items j v1 hv
        have hx := hx.same sj
        have st := st.same sj
        refine ⟨_, rfl, x, t, rfl, hx, hd, fun H4 y u s4 hu hyu => ?_⟩
        obtain ⟨dx, ax, hy1⟩ := hyu.dx
        refine ⟨y, dx, _, rfl, hy1, rfl, y, u, rfl, hyu, wd hu, fun H5 s5 => ?_⟩
        have s25 := s4.trans s5
        refine ⟨rfl, fun H6 l8 s6 _ hl8 => ?_⟩
        have s26 := s25.trans s6
        have st6 := st.same s26
        refine ⟨_, rfl, .inl ⟨rfl, _, SqL.of st6.hz⟩, _, rfl, x, t, rfl, hx.same s26, hd, fun H7 v7 s7 hv7 => ?_⟩
        refine ⟨v7, t, rfl, hv7, hd, fun H8 a8 s8 _ ha8 => ?_⟩
        have s28 := s26.trans (s7.trans s8)
        dsimp -proj only [tCons, tC, tNil, List.append_nil]
        refine idx_use (st.same s28).hz (st.same s28).hk ha8 hx.wf ?_
        refine ⟨l8, _, _, .str (tx u), rfl, rfl, SqL.of (s8 _ _ (s7 _ _ hl8)), atI_nat (txt_at hu), rfl, _, rfl, ?_⟩
        rw [decide_eq_true rfl]
        exact iteF ⟨⟨_, _, rfl⟩, sj.trans s28⟩
      · rintro σ Hc ⟨⟨y9, y10, rfl⟩, sj⟩
        exact ⟨⟨_, _, _, _, _, _, rfl⟩, (bD.same sj).mono (by omega), st.same sj⟩
    · rintro σ Ha ⟨⟨y5, y6, y7, y8, y9, y10, rfl⟩, bi, st⟩
      have hws := st.hw
      have hl2e := st.hl
      refine ⟨_, rfl, l6, rfl, ⟨_, SqL.of hl2e⟩, fun D hD => lc_it (walk_list (K := K) (a := l6) (xs := ws6.map V.ref)) (fun i H' => Same Ha H' ∧ H' D = some (.lst ((txt30.map V.str).take i))) ⟨same_new hD, upd_same⟩ (fun i H' _ z => SqL.of (z.1 _ _ hl2e)) ?_ ?_⟩
      · rintro i v Hb Hc hi ⟨sm, hz⟩ ⟨rfl, hv⟩
        rw [List.getElem?_map] at hv
        obtain ⟨y, hy, rfl⟩ : ∃ y, ws6[i]? = some y ∧ v = .ref y := by
          cases e : ws6[i]? with
          | none => rw [e] at hv; cases hv
          | some y => rw [e] at hv; exact ⟨y, rfl, (Option.some.inj hv).symm⟩
        obtain ⟨u, hu, hyu⟩ := hws.get hy
        obtain ⟨dy, ay, hy1⟩ := (hyu.same sm).dx
        refine ⟨rfl, yes_if ?_⟩
        refine ⟨_, rfl, y, _, _, rfl, hy1, rfl, y, u, rfl, hyu.same sm, wd hu, fun H3 s3 => ?_⟩
        refine ⟨_, s3 _ _ hz, lt_line (Nat.le_trans (List.length_take_le' _ _) (by show 30 ≤ 100000; decide)), Same.grow (sm.trans s3) hD, ?_⟩
        rw [upd_same, List.take_succ, txt_at hu]
        rfl
      rintro H3 ⟨s3, hD3⟩
      rw [lp2 hws] at hD3
      have hD3 : H3 D = some (.lst (txt30.map V.str)) := hD3
      refine ⟨rfl, fun H4 l4 s4 _ hl4 => ⟨D, l4, _, _, rfl, rfl, SqL.of (s4 _ _ hD3), SqL.of hl4, by rw [List.all_map]; rfl, by rw [List.all_map]; rfl, ?_⟩⟩
      simp only [if_true, eqLV_strs, decide_true]
      exact k H4
end
end KT

set_option Elab.async false
set_option linter.all false
set_option maxRecDepth 100000
set_option maxHeartbeats 0
/-! ## the facts of the top -/
namespace KT
open PySem PySem.Spec PyProof.Rows L2 VX
def dD (x : Str) (i : Nat) : He5.DefA := ⟨fun K => He.ga K x, x, x, defArgs (top i), defBody (top i), defScope (top i), [], []⟩
def mets : List He5.DefA := (⟨fun K => (He.ma K (He.ga K "Word") "__init__"), "__init__", "Word.__init__", defArgs s_Word_init, defBody s_Word_init, defScope s_Word_init, [.adr (He.dflAt ("Word", some "__init__") 0)], []⟩) :: (⟨fun K => (He5.wf K (He.ga K "Word") "classmethod" "read"), "read", "Word.read", defArgs s_Word_read, defBody s_Word_read, defScope s_Word_read, [], []⟩) :: (⟨fun K => (VY.pG K (He.ga K "Word") "sign"), "sign", "Word.sign", defArgs s_Word_sign, defBody s_Word_sign, defScope s_Word_sign, [], []⟩) :: (⟨fun K => (VY.pG K (He.ga K "Word") "parts"), "parts", "Word.parts", defArgs s_Word_parts, defBody s_Word_parts, defScope s_Word_parts, [], []⟩) :: (⟨fun K => (He.ma K (He.ga K "Word") "__add__"), "__add__", "Word.__add__", defArgs s_Word_add, defBody s_Word_add, defScope s_Word_add, [], []⟩) :: (⟨fun K => (He.ma K (He.ga K "Word") "__and__"), "__and__", "Word.__and__", defArgs s_Word_and, defBody s_Word_and, defScope s_Word_and, [], []⟩) :: (⟨fun K => (He.ma K (He.ga K "Word") "__eq__"), "__eq__", "Word.__eq__", defArgs s_Word_eq, defBody s_Word_eq, defScope s_Word_eq, [], []⟩) :: (⟨fun K => (He.ma K (He.ga K "Word") "__len__"), "__len__", "Word.__len__", defArgs s_Word_len, defBody s_Word_len, defScope s_Word_len, [], []⟩) :: (⟨fun K => (He.ma K (He.ga K "Word") "text"), "text", "Word.text", defArgs s_Word_text, defBody s_Word_text, defScope s_Word_text, [], []⟩) :: (⟨fun K => (He.ma K (He.ga K "Word") "dual"), "dual", "Word.dual", defArgs s_Word_dual, defBody s_Word_dual, defScope s_Word_dual, [], []⟩) :: (⟨fun K => He.ma K (He.ga K "BadSign") "__init__", "__init__", "BadSign.__init__", defArgs s_BadSign_init, defBody s_BadSign_init, defScope s_BadSign_init, [], []⟩) :: (⟨fun K => He.ma K (He.ga K "BadColumn") "__init__", "__init__", "BadColumn.__init__", defArgs s_BadColumn_init, defBody s_BadColumn_init, defScope s_BadColumn_init, [], []⟩) :: []
def fn : List He5.DefA := (defs.map fun p => dD p.1 p.2) ++ mets
def more : List He.Fa := (.glo "HANDS") :: (.str "PLANE" "plane") :: (.glo "KINDS") :: (.glo "LEAVES") :: (.glo "JOINTS") :: (.int "MOST_OPEN" 9) :: (.glo "PLAIN_TEXTS") :: (.glo "DUALS") :: (.glo "Word") :: (.cls "Word") :: (.noat "Word" "_sign") :: (.noat "Word" "_parts") :: (.mkr "Word") :: (.meth "Word" "text") :: (.meth "Word" "dual") :: (.glo "BadSign") :: (.glo "BadColumn") :: (.exm "BadSign" "BadSign" true) :: (.exm "BadColumn" "BadColumn" true) :: []
def fa : List He.Fa := ((defs.map fun p => He.Fa.glo p.1) ++ free.map He.Fa.free) ++ more
def exL (K : PySem.W.Frag) : List Bool := (He.tupB K "HANDS" [.str "a", .str "b", .str "c"]) :: (He.tupB K "KINDS" [.str "", .str "a", .str "b", .str "c", .str "ab", .str "ac", .str "bc", .str "abc", .str "plane"]) :: (He.tupB K "LEAVES" [.str "a", .str "b", .str "c", .str "0", .str "1"]) :: (He.tupB K "JOINTS" [.str "+", .str "&"]) :: (He.tupB K "PLAIN_TEXTS" [.str "0", .str "a & b & c", .str "a & b", .str "a & c", .str "b & c", .str "a & b + a & c", .str "a & b + b & c", .str "a & c + b & c", .str "a & b + a & c + b & c", .str "a & (b + c)", .str "b & (a + c)", .str "c & (a + b)", .str "a & (b + c) + b & c", .str "b & (a + c) + a & c", .str "c & (a + b) + a & b", .str "(a + b) & (a + c) & (b + c)", .str "a", .str "b", .str "c", .str "a + b & c", .str "b + a & c", .str "c + a & b", .str "(a + b) & (a + c)", .str "(a + b) & (b + c)", .str "(a + c) & (b + c)", .str "a + b", .str "a + c", .str "b + c", .str "a + b + c", .str "1"]) :: (PySem.W.selfFirst K (He.ga K "Word")) :: (VY.tyB K (He.ga K "Word")) :: (VY.crB K (He.ga K "Word")) :: (VY.cmB K (He.ga K "Word") "read") :: (VY.propB K (He.ga K "Word") "sign") :: (VY.propB K (He.ga K "Word") "parts") :: (VY.opB K (He.ga K "Word") "__add__") :: (VY.opB K (He.ga K "Word") "__and__") :: (VY.opB K (He.ga K "Word") "__eq__") :: (VY.opB K (He.ga K "Word") "__len__") :: (exB K (He.ga K "BadSign")) :: (inB K (He.ga K "BadSign") "told") :: (exB K (He.ga K "BadColumn")) :: (inB K (He.ga K "BadColumn") "column") :: (VY.nilB K (He.dflAt ("Word", some "__init__") 0 K)) :: (VY.obsV K (He.ga K "DUALS") [.str "&", .str "+", .str "1", .str "0"]) :: []
def ex (K : PySem.W.Frag) : Bool := (exL K).all id
theorem ex_in {K : PySem.W.Frag} (e : ex K = true) {b : Bool} (h : b ∈ exL K) : b = true := List.all_eq_true.mp e b h
theorem fa_in {K : PySem.W.Frag} (c : He5.SaysA fa fn K) (f : He.Fa) (hf : f ∈ fa) : f.ok K = true := by
  obtain ⟨i, hi, e⟩ := List.mem_iff_getElem.mp hf
  exact c.fact i (f := f) (by rw [List.getElem?_eq_getElem hi, e])
theorem fn_in {K : PySem.W.Frag} (c : He5.SaysA fa fn K) (d : He5.DefA) (hd : d ∈ fn) : ∃ fd, FunD K d.name d.qual d.params d.body d.scope (d.dvs K) (d.kws K) (d.at_ K) fd := by
  obtain ⟨i, hi, e⟩ := List.mem_iff_getElem.mp hd
  exact c.def_ i (d := d) (by rw [List.getElem?_eq_getElem hi, e])
theorem met_in {K : PySem.W.Frag} (c : He5.SaysA fa fn K) (i : Nat) (h : i < mets.length) : ∃ fd, FunD K mets[i].name mets[i].qual mets[i].params mets[i].body mets[i].scope (mets[i].dvs K) (mets[i].kws K) (mets[i].at_ K) fd := fn_in c _ (List.mem_append_right _ (List.getElem_mem h))
theorem txt_mk {K : PySem.W.Frag} {h : Heap} {mg : Str → Option Value} (X : K.In h) (G : h.Ns mainGlobals mg) (c : He5.SaysA fa fn K) (e : ex K = true) : Txt K mg where
  dfs := fun p hp => He.glo_ok X G (fa_in c _ (List.mem_append_left _ (List.mem_append_left _ (List.mem_map.mpr ⟨p, hp, rfl⟩))))
  free := fun x hx => He.free_ok X G (fa_in c _ (List.mem_append_left _ (List.mem_append_right _ (List.mem_map.mpr ⟨x, hx, rfl⟩))))
  g_HANDS := He.glo_ok X G (fa_in c (.glo "HANDS") (List.mem_append_right _ (.head _)))
  t_HANDS := fun H => He.tupB_ok (ex_in e (.head _)) H
  s_PLANE := He.str_ok X G (fa_in c (.str "PLANE" "plane") (List.mem_append_right _ (.tail _ (.head _))))
  g_KINDS := He.glo_ok X G (fa_in c (.glo "KINDS") (List.mem_append_right _ (.tail _ (.tail _ (.head _)))))
  t_KINDS := fun H => He.tupB_ok (ex_in e (.tail _ (.head _))) H
  g_LEAVES := He.glo_ok X G (fa_in c (.glo "LEAVES") (List.mem_append_right _ (.tail _ (.tail _ (.tail _ (.head _))))))
  t_LEAVES := fun H => He.tupB_ok (ex_in e (.tail _ (.tail _ (.head _)))) H
  g_JOINTS := He.glo_ok X G (fa_in c (.glo "JOINTS") (List.mem_append_right _ (.tail _ (.tail _ (.tail _ (.tail _ (.head _)))))))
  t_JOINTS := fun H => He.tupB_ok (ex_in e (.tail _ (.tail _ (.tail _ (.head _))))) H
  n_MOST_OPEN := He.int_ok X G (fa_in c (.int "MOST_OPEN" 9) (List.mem_append_right _ (.tail _ (.tail _ (.tail _ (.tail _ (.tail _ (.head _))))))))
  g_PLAIN_TEXTS := He.glo_ok X G (fa_in c (.glo "PLAIN_TEXTS") (List.mem_append_right _ (.tail _ (.tail _ (.tail _ (.tail _ (.tail _ (.tail _ (.head _)))))))))
  t_PLAIN_TEXTS := fun H => He.tupB_ok (ex_in e (.tail _ (.tail _ (.tail _ (.tail _ (.head _)))))) H
  g_DUALS := He.glo_ok X G (fa_in c (.glo "DUALS") (List.mem_append_right _ (.tail _ (.tail _ (.tail _ (.tail _ (.tail _ (.tail _ (.tail _ (.head _))))))))))
  g_Word := He.glo_ok X G (fa_in c (.glo "Word") (List.mem_append_right _ (.tail _ (.tail _ (.tail _ (.tail _ (.tail _ (.tail _ (.tail _ (.tail _ (.head _)))))))))))
  c_Word := He.cls_ok (fa_in c (.cls "Word") (List.mem_append_right _ (.tail _ (.tail _ (.tail _ (.tail _ (.tail _ (.tail _ (.tail _ (.tail _ (.tail _ (.head _))))))))))))
  a_Word_sign := He.noat_ok (fa_in c (.noat "Word" "_sign") (List.mem_append_right _ (.tail _ (.tail _ (.tail _ (.tail _ (.tail _ (.tail _ (.tail _ (.tail _ (.tail _ (.tail _ (.head _)))))))))))))
  a_Word_parts := He.noat_ok (fa_in c (.noat "Word" "_parts") (List.mem_append_right _ (.tail _ (.tail _ (.tail _ (.tail _ (.tail _ (.tail _ (.tail _ (.tail _ (.tail _ (.tail _ (.tail _ (.head _))))))))))))))
  f_Word := (ex_in e (.tail _ (.tail _ (.tail _ (.tail _ (.tail _ (.head _)))))))
  ty_Word := VY.tyB_ok (ex_in e (.tail _ (.tail _ (.tail _ (.tail _ (.tail _ (.tail _ (.head _))))))))
  r_Word := VY.crB_ok (ex_in e (.tail _ (.tail _ (.tail _ (.tail _ (.tail _ (.tail _ (.tail _ (.head _)))))))))
  k_Word := He.mkr_ok (fa_in c (.mkr "Word") (List.mem_append_right _ (.tail _ (.tail _ (.tail _ (.tail _ (.tail _ (.tail _ (.tail _ (.tail _ (.tail _ (.tail _ (.tail _ (.tail _ (.head _)))))))))))))))
  cm_Word_read := VY.cmB_ok (ex_in e (.tail _ (.tail _ (.tail _ (.tail _ (.tail _ (.tail _ (.tail _ (.tail _ (.head _))))))))))
  p_Word_sign := VY.propB_ok (ex_in e (.tail _ (.tail _ (.tail _ (.tail _ (.tail _ (.tail _ (.tail _ (.tail _ (.tail _ (.head _)))))))))))
  p_Word_parts := VY.propB_ok (ex_in e (.tail _ (.tail _ (.tail _ (.tail _ (.tail _ (.tail _ (.tail _ (.tail _ (.tail _ (.tail _ (.head _))))))))))))
  o_Word_add := VY.opB_ok (ex_in e (.tail _ (.tail _ (.tail _ (.tail _ (.tail _ (.tail _ (.tail _ (.tail _ (.tail _ (.tail _ (.tail _ (.head _)))))))))))))
  o_Word_and := VY.opB_ok (ex_in e (.tail _ (.tail _ (.tail _ (.tail _ (.tail _ (.tail _ (.tail _ (.tail _ (.tail _ (.tail _ (.tail _ (.tail _ (.head _))))))))))))))
  o_Word_eq := VY.opB_ok (ex_in e (.tail _ (.tail _ (.tail _ (.tail _ (.tail _ (.tail _ (.tail _ (.tail _ (.tail _ (.tail _ (.tail _ (.tail _ (.tail _ (.head _)))))))))))))))
  o_Word_len := VY.opB_ok (ex_in e (.tail _ (.tail _ (.tail _ (.tail _ (.tail _ (.tail _ (.tail _ (.tail _ (.tail _ (.tail _ (.tail _ (.tail _ (.tail _ (.tail _ (.head _))))))))))))))))
  m_Word_text := He.meth_ok (fa_in c (.meth "Word" "text") (List.mem_append_right _ (.tail _ (.tail _ (.tail _ (.tail _ (.tail _ (.tail _ (.tail _ (.tail _ (.tail _ (.tail _ (.tail _ (.tail _ (.tail _ (.head _))))))))))))))))
  m_Word_dual := He.meth_ok (fa_in c (.meth "Word" "dual") (List.mem_append_right _ (.tail _ (.tail _ (.tail _ (.tail _ (.tail _ (.tail _ (.tail _ (.tail _ (.tail _ (.tail _ (.tail _ (.tail _ (.tail _ (.tail _ (.head _)))))))))))))))))
  g_BadSign := He.glo_ok X G (fa_in c (.glo "BadSign") (List.mem_append_right _ (.tail _ (.tail _ (.tail _ (.tail _ (.tail _ (.tail _ (.tail _ (.tail _ (.tail _ (.tail _ (.tail _ (.tail _ (.tail _ (.tail _ (.tail _ (.head _))))))))))))))))))
  xf_BadSign := exB_ok (ex_in e (.tail _ (.tail _ (.tail _ (.tail _ (.tail _ (.tail _ (.tail _ (.tail _ (.tail _ (.tail _ (.tail _ (.tail _ (.tail _ (.tail _ (.tail _ (.head _)))))))))))))))))
  if_BadSign := inB_ok (exB_ok (ex_in e (.tail _ (.tail _ (.tail _ (.tail _ (.tail _ (.tail _ (.tail _ (.tail _ (.tail _ (.tail _ (.tail _ (.tail _ (.tail _ (.tail _ (.tail _ (.head _)))))))))))))))))) (ex_in e (.tail _ (.tail _ (.tail _ (.tail _ (.tail _ (.tail _ (.tail _ (.tail _ (.tail _ (.tail _ (.tail _ (.tail _ (.tail _ (.tail _ (.tail _ (.tail _ (.head _))))))))))))))))))
  g_BadColumn := He.glo_ok X G (fa_in c (.glo "BadColumn") (List.mem_append_right _ (.tail _ (.tail _ (.tail _ (.tail _ (.tail _ (.tail _ (.tail _ (.tail _ (.tail _ (.tail _ (.tail _ (.tail _ (.tail _ (.tail _ (.tail _ (.tail _ (.head _)))))))))))))))))))
  xf_BadColumn := exB_ok (ex_in e (.tail _ (.tail _ (.tail _ (.tail _ (.tail _ (.tail _ (.tail _ (.tail _ (.tail _ (.tail _ (.tail _ (.tail _ (.tail _ (.tail _ (.tail _ (.tail _ (.tail _ (.head _)))))))))))))))))))
  if_BadColumn := inB_ok (exB_ok (ex_in e (.tail _ (.tail _ (.tail _ (.tail _ (.tail _ (.tail _ (.tail _ (.tail _ (.tail _ (.tail _ (.tail _ (.tail _ (.tail _ (.tail _ (.tail _ (.tail _ (.tail _ (.head _)))))))))))))))))))) (ex_in e (.tail _ (.tail _ (.tail _ (.tail _ (.tail _ (.tail _ (.tail _ (.tail _ (.tail _ (.tail _ (.tail _ (.tail _ (.tail _ (.tail _ (.tail _ (.tail _ (.tail _ (.tail _ (.head _))))))))))))))))))))
  e_BadSign := He.exm_ok (fa_in c (.exm "BadSign" "BadSign" true) (List.mem_append_right _ (.tail _ (.tail _ (.tail _ (.tail _ (.tail _ (.tail _ (.tail _ (.tail _ (.tail _ (.tail _ (.tail _ (.tail _ (.tail _ (.tail _ (.tail _ (.tail _ (.tail _ (.head _))))))))))))))))))))
  e_BadColumn := He.exm_ok (fa_in c (.exm "BadColumn" "BadColumn" true) (List.mem_append_right _ (.tail _ (.tail _ (.tail _ (.tail _ (.tail _ (.tail _ (.tail _ (.tail _ (.tail _ (.tail _ (.tail _ (.tail _ (.tail _ (.tail _ (.tail _ (.tail _ (.tail _ (.tail _ (.head _)))))))))))))))))))))
theorem dfs_mk {K : PySem.W.Frag} (c : He5.SaysA fa fn K) (e : ex K = true) : Dfs K where
  d := fun p hp => fn_in c (dD p.1 p.2) (List.mem_append_left _ (List.mem_map.mpr ⟨p, hp, rfl⟩))
  Word_init := ⟨met_in c 0 (by decide), VY.nilB_ok (ex_in e (.tail _ (.tail _ (.tail _ (.tail _ (.tail _ (.tail _ (.tail _ (.tail _ (.tail _ (.tail _ (.tail _ (.tail _ (.tail _ (.tail _ (.tail _ (.tail _ (.tail _ (.tail _ (.tail _ (.head _)))))))))))))))))))))⟩
  Word_read := met_in c 1 (by decide)
  Word_sign := met_in c 2 (by decide)
  Word_parts := met_in c 3 (by decide)
  Word_add := met_in c 4 (by decide)
  Word_and := met_in c 5 (by decide)
  Word_eq := met_in c 6 (by decide)
  Word_len := met_in c 7 (by decide)
  Word_text := met_in c 8 (by decide)
  Word_dual := met_in c 9 (by decide)
  BadSign_init := met_in c 10 (by decide)
  BadColumn_init := met_in c 11 (by decide)
def ts : List VY.Tab := [("DUALS", [("+", .str "&"), ("&", .str "+"), ("0", .str "1"), ("1", .str "0")])]
theorem tabs_mk {K : PySem.W.Frag} {w : World} (e : ex K = true) (c : (ts.map fun t => He.dicW K (He.ga K t.1)) = ts.map fun t => some (He.keysIn w.params (t.2.map (·.1)))) : Tabs K w where
  d_DUALS := VY.wdict_of c ("DUALS", [("+", .str "&"), ("&", .str "+"), ("0", .str "1"), ("1", .str "0")]) (.head _) (ex_in e (.tail _ (.tail _ (.tail _ (.tail _ (.tail _ (.tail _ (.tail _ (.tail _ (.tail _ (.tail _ (.tail _ (.tail _ (.tail _ (.tail _ (.tail _ (.tail _ (.tail _ (.tail _ (.tail _ (.tail _ (.head _)))))))))))))))))))))) (by decide +kernel) (by decide +kernel)
abbrev R : PySem.W.OpenRow := PySem.W.OpenLaw.row PySem.Challenge.rw_handspaces_k23_thirty_words
abbrev hk : PySem.W.Hook := VY.hookMT 6 fa fn ex ts
def ob (s : PySem.W.SharedT) : (He.AlD × Bool) × List (Option (List (Option (Str × Int)))) := VY.obsMT 6 fa fn ex ts (HandSHeadRun.getT s)
theorem ob_eq (s : PySem.W.SharedT) : ob s = hk.obs s.abs := VY.obsMT_eq (HandSHeadRun.getT_eq s)
def loose : List Str := (["_wall", "HandError", "BadSign", "BadColumn", "HANDS", "PLANE", "KINDS", "LEAVES", "JOINTS", "DUALS", "MOST_OPEN", "fits", "leaves", "renamed", "part_text", "check_text", "read_sum", "read_intersection", "read_part", "read_word", "Word", "PLAIN_TEXTS", "is_within", "sum_mark"] : List Str) ++
  (["common_mark", "letter_mark", "mark", "marks", "plain_words", "plain", "_law_cell", "_law_box", "_law_take", "_law_tree", "_law_word", "_law_mark", "_law_within", "_law_texts", "_law_of", "_law_key"] : List Str)
set_option maxRecDepth 1000000 in
theorem runF (w : World) : HandSHeadRun.RunEq R (PySem.W.view R.prog [44]) hk ob 60000 loose (w.withFollow "special-get-raises" false) := by
  intro os
  kernel_rfl
set_option maxRecDepth 1000000 in
theorem runT (w : World) : HandSHeadRun.RunEq R (PySem.W.view R.prog [44]) hk ob 60000 loose (w.withFollow "special-get-raises" true) := by
  intro os
  kernel_rfl
theorem run (w : World) : HandSHeadRun.RunEq R (PySem.W.view R.prog [44]) hk ob 60000 loose w := PySem.W.byRow2 "special-get-raises" (P := fun w => HandSHeadRun.RunEq R (PySem.W.view R.prog [44]) hk ob 60000 loose w) runF runT w
end KT

set_option Elab.async false
set_option linter.all false
set_option maxRecDepth 100000
set_option maxHeartbeats 0
/-! ## the end -/
namespace KT
open PySem PySem.Spec PyProof.Rows L2 VX
theorem facts {P : Program} {w : World} {K : PySem.W.Frag} {h : Heap} {mg : Str → Option Value} {f : Addr} (X : K.In h) (G : h.Ns mainGlobals mg) (hfa : mg ("law" : Str) = some (.ref f)) (c : He5.SaysA fa fn K) (e : ex K = true) (tb : (ts.map fun t => He.dicW K (He.ga K t.1)) = ts.map fun t => some (He.keysIn w.params (t.2.map (·.1)))) :
    ∃ fd : FuncData, (∀ (s : Shared) (v : Value), BindsTo s fd ⟨[v], []⟩ [("_law_script", v)]) ∧ ∀ base : Heap, K.In base → base.Ns mainGlobals mg → FnOk P w K mg base CX0 45 f fd ["_law_script"] (spLaw K) := by
  have T : Txt K mg := txt_mk X G c e
  have D : Dfs K := dfs_mk c e
  have B : Tabs K w := tabs_mk e tb
  have ee := hfa.symm.trans (T.dfs ("law", iLaw) (by decide +kernel))
  cases ee
  obtain ⟨fd, F⟩ := D.def "law" iLaw
  have b := FunD.bindsA (ps := ["_law_script"]) F fun _ _ _ _ _ _ us hl => match us, hl with | [_], _ => rfl
  exact ⟨fd, fun s v => b s [v] rfl, fun base _ _ => ok_law F T D B⟩
end KT
open PySem PySem.W PySem.Calls PyProof.Rows
set_option maxRecDepth 100000 in
set_option maxHeartbeats 0 in
theorem PySem.Challenge.cw_handspaces_k23_thirty_words_holds : PySem.Challenge.rw_handspaces_k23_thirty_words.Holds := by
  w_on; o_law
  refine HandSHeadRun.head_any (r := KT.R) (q := view KT.R.prog [44]) (H := KT.hk) (ob := KT.ob) (M := 60000) (loose := KT.loose) (d := HandSHeadRun.topDef KT.R.prog 44) (kwd := []) KT.ob_eq
    (by kernel_rfl) (fun s => by kernel_rfl) KT.run (by kernel_rfl) (by kernel_rfl) (by kernel_rfl) (by rfl) (by first | assumption | decide +kernel) (by decide +kernel) ⟨rfl, rfl, rfl, rfl, rfl, by decide +kernel⟩ ?hw ?hc
  case hw => w_witness2
  case hc =>
    refine L2.walk_ofE (l := PySem.Challenge.rw_handspaces_k23_thirty_words) (n := 63) (k := 45) (CX := L2.CX0) (x := "_law_script") rfl (by decide) (by kernel_rfl) ⟨rfl, by decide, by decide⟩ ?F (fun _ _ _ _ h => h)
    intro w mg fa h Y G hmg0
    obtain ⟨K, KX, c, e, tb⟩ := Y
    have hmg : mg ("law" : PySem.Str) = some (.ref fa) := by
      have q : (HandSHeadRun.topDef KT.R.prog 44).name = ("law" : PySem.Str) := by kernel_rfl
      rw [← q]
      exact hmg0
    obtain ⟨fd, hb, hF⟩ := KT.facts (P := (PySem.Challenge.rw_handspaces_k23_thirty_words).prog) (w := w) KX G hmg c e tb
    exact ⟨K, fd, KT.spLaw K, KX, hb, fun H a ns hl _ hS => ⟨a, ns, rfl, hS, fun _ => rfl⟩, hF⟩
