import PyProof.Rows.All
import Wide.All
import OpenK.AllK
import Wide.FinOn
import HandS.ForMost
import HandS.Exc
import HandS.TryOnly
import HandS.ExcOwn
import HandS.WordsExc
import HandS.TryMany
import HandS.ExcInit
import HandS.ExcField
import HandS.ExcIs
import HandS.ExcValue
import HandS.More
import HandS.IsInst
import HandS.DeepEq
import HandS.Style
import HandS.Conv
import HandS.NoneIn
import HandS.Flow
import KE.KIsAll
import KE.KTryMore
import HandS.Defaults
import HandS.Zip
import HandS.Walk
import HandS.Replace
import HandS.ReplaceDef
import HandS.ReplaceLit
import KE.GoesMore
import KE.GoesEnum
import KE.GoesEnumKw
import OpenK.KMeth
import PyProof.Rows.CallKwBuiltin
import HandS.ClsMeth
import HandS.HeadNt
import HandS.LawCells
import HandS.HeadEnd
import HandS.Wide
import HandS.Property
import HandS.DictComp
import HandS.Finally
import HandS.MakeKwOnly
import HandS.Star
import HandS.FStr
import HandS.DictEq
import PyProof.FactsAll.dict_1
import PyProof.FactsAll.subtypes
import KE.KStateDown
import Lean
import HandS.Head0
import HandS.Head1
import HandS.Head2
import HandS.HeadHook1
import HandS.HeadHook2
import PySem.Challenge.RW_handspaces_k37_verdicts
set_option linter.all false
/-! # the walk of a word's text, on lists of signs (no model) -/
namespace KW
def leafC (c : Nat) : Bool := c == 97 || c == 98 || c == 99 || c == 48 || c == 49
def jointC (c : Nat) : Bool := c == 43 || c == 38
/-- one sign: how many are open, whether a word is wanted -/
def stp (o : Nat) (w : Bool) (c : Nat) : Option (Nat × Bool) :=
  if c = 32 then some (o, w) else if w && leafC c then some (o, false) else if w && c == 40 && decide (o < 9) then some (o + 1, true)
  else if !w && jointC c then some (o, true) else if !w && c == 41 && decide (0 < o) then some (o - 1, false) else none
/-- the column of the error, 0 if there is none; k is the column of the next sign -/
def dueAt : List Nat → Nat → Bool → Nat → Nat
  | [], o, w, k => if w || decide (0 < o) then k else 0
  | c :: l, o, w, k => match stp o w c with
    | none => k
    | some p => dueAt l p.1 p.2 (k + 1)
def due (l : List Nat) : Nat := dueAt l 0 true 1
/-- the rest can be read to its end -/
def Acc : Bool → Nat → List Nat → Bool
  | w, d, [] => !w && d == 0
  | true, d, c :: l => (leafC c && Acc false d l) || (c == 40 && decide (d < 9) && Acc true (d + 1) l)
  | false, d, c :: l => (jointC c && Acc true d l) || (c == 41 && decide (0 < d) && Acc false (d - 1) l)
theorem leaf_no {c : Nat} (h : leafC c = true) : c ≠ 32 ∧ c ≠ 40 ∧ c ≠ 41 ∧ jointC c = false := by
  simp only [leafC, Bool.or_eq_true, beq_iff_eq] at h
  refine ⟨by omega, by omega, by omega, ?_⟩
  simp only [jointC, Bool.or_eq_false_iff, beq_eq_false_iff_ne]
  omega
theorem joint_no {c : Nat} (h : jointC c = true) : c ≠ 32 ∧ c ≠ 40 ∧ c ≠ 41 ∧ leafC c = false := by
  simp only [jointC, Bool.or_eq_true, beq_iff_eq] at h
  refine ⟨by omega, by omega, by omega, ?_⟩
  simp only [leafC, Bool.or_eq_false_iff, beq_eq_false_iff_ne]
  omega
theorem step_o {o o' : Nat} {w w' : Bool} {c : Nat} (ho : o ≤ 9) (h : stp o w c = some (o', w')) : o' ≤ 9 := by
  unfold stp at h
  split at h
  · cases h; exact ho
  split at h
  · cases h; exact ho
  split at h
  · rename_i hh
    cases h
    simp only [Bool.and_eq_true, decide_eq_true_eq] at hh
    omega
  split at h
  · cases h; exact ho
  split at h
  · cases h; omega
  · cases h
theorem acc_of {l : List Nat} : ∀ {o : Nat} {w : Bool} {k : Nat}, 0 < k → dueAt l o w k = 0 → Acc w o (l.filter (· != 32)) = true := by
  induction l with
  | nil =>
    intro o w k hk h
    simp only [dueAt] at h
    cases w with
    | true => rw [if_pos (by simp)] at h; omega
    | false =>
      by_cases c : 0 < o
      · rw [if_pos (by simp [c])] at h; omega
      · have : o = 0 := by omega
        subst this
        rfl
  | cons c l ih =>
    intro o w k hk h
    simp only [dueAt] at h
    cases hs : stp o w c with
    | none => rw [hs] at h; dsimp only at h; omega
    | some p =>
      obtain ⟨o', w'⟩ := p
      rw [hs] at h
      dsimp only at h
      have ih' := ih (Nat.succ_pos k) h
      unfold stp at hs
      by_cases c32 : c = 32
      · rw [if_pos c32] at hs
        cases hs
        rw [List.filter_cons_of_neg (by simp [c32])]
        exact ih'
      · rw [if_neg c32] at hs
        rw [List.filter_cons_of_pos (by simp [c32])]
        split at hs
        · rename_i hh
          cases hs
          simp only [Bool.and_eq_true] at hh
          rw [hh.1]
          simp only [Acc, hh.2, ih', Bool.true_and, Bool.true_or]
        split at hs
        · rename_i hh
          cases hs
          simp only [Bool.and_eq_true] at hh
          rw [hh.1.1]
          simp only [Acc, hh.1.2, hh.2, ih', Bool.and_self, Bool.or_true]
        split at hs
        · rename_i hh
          cases hs
          simp only [Bool.and_eq_true, Bool.not_eq_true'] at hh
          rw [hh.1]
          simp only [Acc, hh.2, ih', Bool.true_and, Bool.true_or]
        split at hs
        · rename_i hh
          cases hs
          simp only [Bool.and_eq_true, Bool.not_eq_true'] at hh
          rw [hh.1.1]
          simp only [Acc, hh.1.2, hh.2, ih', Bool.and_self, Bool.or_true]
        · cases hs
/-- the law's order of tests gives the same -/
theorem acc_wanted {d : Nat} {l : List Nat} (h : Acc true d l = true) : ∃ c r, l = c :: r ∧ ((leafC c = true ∧ Acc false d r = true) ∨ (c = 40 ∧ d < 9 ∧ Acc true (d + 1) r = true)) := by
  cases l with
  | nil => simp [Acc] at h
  | cons c r =>
    refine ⟨c, r, rfl, ?_⟩
    simp only [Acc, Bool.or_eq_true, Bool.and_eq_true, beq_iff_eq, decide_eq_true_eq] at h
    rcases h with h | h
    · exact .inl h
    · exact .inr ⟨h.1.1, h.1.2, h.2⟩
theorem acc_joint {d c : Nat} {r : List Nat} (hj : jointC c = true) (h : Acc false d (c :: r) = true) : Acc true d r = true := by
  have n := joint_no hj
  simp only [Acc, Bool.or_eq_true, Bool.and_eq_true, beq_iff_eq, decide_eq_true_eq] at h
  rcases h with h | h
  · exact h.2
  · exact absurd h.1.1 n.2.2.1
theorem acc_close {d : Nat} {l : List Nat} (hd : 0 < d) (hj : ∀ c r, l = c :: r → jointC c = false) (h : Acc false d l = true) : ∃ r, l = 41 :: r ∧ Acc false (d - 1) r = true := by
  cases l with
  | nil =>
    simp only [Acc, Bool.not_false, Bool.true_and, beq_iff_eq] at h
    omega
  | cons c r =>
    have n := hj c r rfl
    simp only [Acc, Bool.or_eq_true, Bool.and_eq_true, beq_iff_eq, decide_eq_true_eq, n] at h
    rcases h with h | h
    · exact absurd h.1 (by simp)
    · exact ⟨r, by rw [h.1.1], h.2⟩
/-- a word as a tree -/
inductive Tr where
  | lf (c : Nat)
  | nd (c : Nat) (l r : Tr)
/-! what is read: from the list before to the list behind, d parentheses open -/
mutual
inductive RP : Nat → List Nat → Tr → List Nat → Prop
  | leaf {d c : Nat} {r : List Nat} : leafC c = true → RP d (c :: r) (.lf c) r
  | paren {d : Nat} {l r : List Nat} {t : Tr} : d < 9 → RS (d + 1) l t (41 :: r) → RP d (40 :: l) t r
inductive RIs : Nat → Nat → Tr → List Nat → Tr → List Nat → Prop
  | stop {d : Nat} {t : Tr} {r : List Nat} : r.head? ≠ some 38 → RIs d 0 t r t r
  | more {d k : Nat} {t u t' : Tr} {r r1 r' : List Nat} : RP d r u r1 → RIs d k (.nd 38 t u) r1 t' r' → RIs d (k + 1) t (38 :: r) t' r'
inductive RI : Nat → List Nat → Tr → List Nat → Prop
  | mk {d k : Nat} {l r r' : List Nat} {t t' : Tr} : RP d l t r → RIs d k t r t' r' → RI d l t' r'
inductive RSs : Nat → Nat → Tr → List Nat → Tr → List Nat → Prop
  | stop {d : Nat} {t : Tr} {r : List Nat} : r.head? ≠ some 43 → RSs d 0 t r t r
  | more {d k : Nat} {t u t' : Tr} {r r1 r' : List Nat} : RI d r u r1 → RSs d k (.nd 43 t u) r1 t' r' → RSs d (k + 1) t (43 :: r) t' r'
inductive RS : Nat → List Nat → Tr → List Nat → Prop
  | mk {d k : Nat} {l r r' : List Nat} {t t' : Tr} : RI d l t r → RSs d k t r t' r' → RS d l t' r'
end
def PartOk (n : Nat) : Prop := ∀ (l : List Nat) (d : Nat), l.length ≤ n → Acc true d l = true → ∃ t r, RP d l t r ∧ Acc false d r = true ∧ r.length < l.length
def InterOk (n : Nat) : Prop := ∀ (l : List Nat) (d : Nat), l.length ≤ n → Acc true d l = true → ∃ t r, RI d l t r ∧ Acc false d r = true ∧ r.length < l.length ∧ r.head? ≠ some 38
def SumOk (n : Nat) : Prop := ∀ (l : List Nat) (d : Nat), l.length ≤ n → Acc true d l = true → ∃ t r, RS d l t r ∧ Acc false d r = true ∧ r.length < l.length ∧ ∀ c s, r = c :: s → jointC c = false
theorem inters {n : Nat} (hp : PartOk n) : ∀ (m : Nat) (r : List Nat) (d : Nat) (t : Tr), r.length ≤ m → r.length ≤ n → Acc false d r = true → ∃ k t' r', RIs d k t r t' r' ∧ Acc false d r' = true ∧ r'.length ≤ r.length ∧ r'.head? ≠ some 38 := by
  intro m
  induction m with
  | zero =>
    intro r d t h _ a
    have : r = [] := List.length_eq_zero_iff.mp (by omega)
    subst this
    exact ⟨0, t, [], .stop (by simp), a, Nat.le_refl _, by simp⟩
  | succ m ih =>
    intro r d t h hn a
    by_cases hh : r.head? = some 38
    · obtain ⟨s, rfl⟩ : ∃ s, r = 38 :: s := by
        cases r with
        | nil => simp at hh
        | cons c s => exact ⟨s, by rw [Option.some.inj hh]⟩
      have a2 := acc_joint (by decide) a
      simp only [List.length_cons] at h hn
      obtain ⟨u, r1, p1, p2, p3⟩ := hp s d (by omega) a2
      obtain ⟨k, t', r', q1, q2, q3, q4⟩ := ih r1 d (.nd 38 t u) (by omega) (by omega) p2
      exact ⟨k + 1, t', r', .more p1 q1, q2, by simp only [List.length_cons]; omega, q4⟩
    · exact ⟨0, t, r, .stop hh, a, Nat.le_refl _, hh⟩
theorem interOk {n : Nat} (hp : PartOk n) : InterOk n := fun l d h a => by
  obtain ⟨t, r, p1, p2, p3⟩ := hp l d h a
  obtain ⟨k, t', r', q1, q2, q3, q4⟩ := inters hp r.length r d t (Nat.le_refl _) (by omega) p2
  exact ⟨t', r', .mk p1 q1, q2, by omega, q4⟩
theorem sums {n : Nat} (hp : InterOk n) : ∀ (m : Nat) (r : List Nat) (d : Nat) (t : Tr), r.length ≤ m → r.length ≤ n → r.head? ≠ some 38 → Acc false d r = true → ∃ k t' r', RSs d k t r t' r' ∧ Acc false d r' = true ∧ r'.length ≤ r.length ∧ r'.head? ≠ some 43 ∧ r'.head? ≠ some 38 := by
  intro m
  induction m with
  | zero =>
    intro r d t h _ _ a
    have : r = [] := List.length_eq_zero_iff.mp (by omega)
    subst this
    exact ⟨0, t, [], .stop (by simp), a, Nat.le_refl _, by simp, by simp⟩
  | succ m ih =>
    intro r d t h hn h38 a
    by_cases hh : r.head? = some 43
    · obtain ⟨s, rfl⟩ : ∃ s, r = 43 :: s := by
        cases r with
        | nil => simp at hh
        | cons c s => exact ⟨s, by rw [Option.some.inj hh]⟩
      have a2 := acc_joint (by decide) a
      simp only [List.length_cons] at h hn
      obtain ⟨u, r1, p1, p2, p3, p4⟩ := hp s d (by omega) a2
      obtain ⟨k, t', r', q1, q2, q3, q4⟩ := ih r1 d (.nd 43 t u) (by omega) (by omega) p4 p2
      exact ⟨k + 1, t', r', .more p1 q1, q2, by simp only [List.length_cons]; omega, q4⟩
    · exact ⟨0, t, r, .stop hh, a, Nat.le_refl _, hh, h38⟩
theorem sumOk {n : Nat} (hp : InterOk n) : SumOk n := fun l d h a => by
  obtain ⟨t, r, p1, p2, p3, p4⟩ := hp l d h a
  obtain ⟨k, t', r', q1, q2, q3, q4, q5⟩ := sums hp r.length r d t (Nat.le_refl _) (by omega) p4 p2
  refine ⟨t', r', .mk p1 q1, q2, by omega, fun c s e => ?_⟩
  subst e
  simp only [jointC, Bool.or_eq_false_iff, beq_eq_false_iff_ne]
  exact ⟨fun e => q4 (by simp [e]), fun e => q5 (by simp [e])⟩
theorem partOk : ∀ n, PartOk n := by
  intro n
  induction n with
  | zero =>
    intro l d h a
    have : l = [] := List.length_eq_zero_iff.mp (by omega)
    subst this
    simp [Acc] at a
  | succ n ih =>
    intro l d h a
    obtain ⟨c, r, rfl, q⟩ := acc_wanted a
    simp only [List.length_cons] at h
    rcases q with ⟨hl, ha⟩ | ⟨rfl, hd, ha⟩
    · exact ⟨.lf c, r, .leaf hl, ha, by simp⟩
    · obtain ⟨t, r1, p1, p2, p3, p4⟩ := sumOk (interOk ih) r (d + 1) (by omega) ha
      obtain ⟨r2, rfl, a2⟩ := acc_close (Nat.succ_pos d) p4 p2
      simp only [List.length_cons] at p3
      exact ⟨t, r2, .paren hd p1, a2, by simp only [List.length_cons]; omega⟩
/-- a text without an error can be read to its end -/
theorem reads {l : List Nat} (h : due l = 0) : ∃ t, RS 0 (l.filter (· != 32)) t [] := by
  have a := acc_of (Nat.succ_pos 0) h
  obtain ⟨t, r, p1, p2, p3, p4⟩ := sumOk (interOk (partOk _)) _ 0 (Nat.le_refl _) a
  refine ⟨t, ?_⟩
  cases r with
  | nil => exact p1
  | cons c s =>
    have := p4 c s rfl
    simp [Acc, this] at p2
end KW

set_option linter.all false
/-! # marks on a kind (no model): a kind is the list of its signs -/
namespace KW
def isW (x y : Nat) : Bool := x == y || (x == 48 || y == 49)
def sumM (x y : Nat) : Nat := if isW x y then y else if isW y x then x else 49
def comM (x y : Nat) : Nat := if isW x y then x else if isW y x then y else 48
def hand (c : Nat) : Bool := c == 97 || c == 98 || c == 99
def PL : List Nat := [112, 108, 97, 110, 101]
def letM (c : Nat) (k : List Nat) : Nat := if k = PL then c else if c ∈ k then 49 else 48
/-- the program's mark -/
def mk (k : List Nat) : Tr → Nat
  | .lf c => if hand c then letM c k else c
  | .nd c l r => if c = 43 then sumM (mk k l) (mk k r) else comM (mk k l) (mk k r)
def WF : Tr → Bool
  | .lf c => leafC c
  | .nd c l r => jointC c && WF l && WF r
def dep : Tr → Nat
  | .lf _ => 0
  | .nd _ l r => max (dep l) (dep r) + 1
/-- the law's mark of a plane -/
def lp : Tr → Nat
  | .lf c => c
  | .nd c l r => if lp l = lp r then lp l else
      if lp l = (if c = 43 then 48 else 49) ∨ lp r = (if c = 43 then 48 else 49) then (if lp l = (if c = 43 then 48 else 49) then lp r else lp l) else (if c = 43 then 49 else 48)
/-- the law's mark of a line -/
def li (k : List Nat) : Tr → Int
  | .lf c => if c = 49 ∨ (hand c = true ∧ c ∈ k) then 1 else 0
  | .nd c l r => if c = 43 then (if li k l + li k r > 0 then 1 else 0) else li k l * li k r
def five (c : Nat) : Bool := c == 48 || c == 49 || c == 97 || c == 98 || c == 99
theorem leaf_five {c : Nat} (h : leafC c = true) : five c = true := by
  simp only [leafC, five, Bool.or_eq_true, beq_iff_eq] at *
  omega
theorem sum_five : ∀ {x y : Nat}, five x = true → five y = true → five (sumM x y) = true := by
  intro x y hx hy
  unfold sumM
  split
  · exact hy
  · split
    · exact hx
    · rfl
theorem com_five : ∀ {x y : Nat}, five x = true → five y = true → five (comM x y) = true := by
  intro x y hx hy
  unfold comM
  split
  · exact hx
  · split
    · exact hy
    · rfl
theorem mk_five {k : List Nat} : ∀ {t : Tr}, WF t = true → five (mk k t) = true
  | .lf c, h => by
    simp only [mk]
    split
    · unfold letM
      split
      · exact leaf_five h
      · split <;> rfl
    · exact leaf_five h
  | .nd c l r, h => by
    simp only [WF, Bool.and_eq_true] at h
    simp only [mk]
    split
    · exact sum_five (mk_five h.1.2) (mk_five h.2)
    · exact com_five (mk_five h.1.2) (mk_five h.2)
theorem joint_two {c : Nat} (h : jointC c = true) : c = 43 ∨ c = 38 := by simpa [jointC] using h
theorem five_cases {c : Nat} (h : five c = true) : c = 48 ∨ c = 49 ∨ c = 97 ∨ c = 98 ∨ c = 99 := by simpa [five, or_assoc] using h
theorem lp_sum {x y : Nat} (hx : five x = true) (hy : five y = true) : (if x = y then x else if x = 48 ∨ y = 48 then (if x = 48 then y else x) else 49) = sumM x y := by
  rcases five_cases hx with rfl | rfl | rfl | rfl | rfl <;> rcases five_cases hy with rfl | rfl | rfl | rfl | rfl <;> decide
theorem lp_com {x y : Nat} (hx : five x = true) (hy : five y = true) : (if x = y then x else if x = 49 ∨ y = 49 then (if x = 49 then y else x) else 48) = comM x y := by
  rcases five_cases hx with rfl | rfl | rfl | rfl | rfl <;> rcases five_cases hy with rfl | rfl | rfl | rfl | rfl <;> decide
theorem lp_mk : ∀ {t : Tr}, WF t = true → lp t = mk PL t
  | .lf c, h => by
    simp only [lp, mk, letM, if_true]
    split <;> rfl
  | .nd c l r, h => by
    simp only [WF, Bool.and_eq_true] at h
    have e1 := lp_mk h.1.2
    have e2 := lp_mk h.2
    have f1 := mk_five (k := PL) h.1.2
    have f2 := mk_five (k := PL) h.2
    simp only [lp, mk, e1, e2]
    rcases joint_two h.1.1 with rfl | rfl
    · simpa using lp_sum f1 f2
    · simpa using lp_com f1 f2
def bit (c : Nat) : Prop := c = 48 ∨ c = 49
theorem li_mk {k : List Nat} (hk : k ≠ PL) : ∀ {t : Tr}, WF t = true → bit (mk k t) ∧ li k t = (mk k t : Int) - 48
  | .lf c, h => by
    simp only [li, mk, letM, if_neg hk]
    by_cases hh : hand c = true
    · rw [if_pos hh]
      have c49 : c ≠ 49 := by
        intro e; subst e; cases hh
      by_cases hm : c ∈ k
      · rw [if_pos hm, if_pos (.inr ⟨hh, hm⟩)]
        exact ⟨.inr rfl, by decide⟩
      · rw [if_neg hm, if_neg (by simp [c49, hm])]
        exact ⟨.inl rfl, by decide⟩
    · rw [if_neg hh]
      have hc : c = 48 ∨ c = 49 := by
        simp only [WF, leafC, hand, Bool.or_eq_true, beq_iff_eq] at h hh
        omega
      rcases hc with rfl | rfl
      · exact ⟨.inl rfl, by simp [hh]⟩
      · exact ⟨.inr rfl, by simp⟩
  | .nd c l r, h => by
    simp only [WF, Bool.and_eq_true] at h
    obtain ⟨b1, e1⟩ := li_mk hk h.1.2
    obtain ⟨b2, e2⟩ := li_mk hk h.2
    simp only [li, mk, e1, e2]
    generalize mk k l = x at *
    generalize mk k r = y at *
    rcases joint_two h.1.1 with rfl | rfl <;> rcases b1 with rfl | rfl <;> rcases b2 with rfl | rfl <;> exact ⟨by unfold bit; decide, by decide⟩
/-- the law's within -/
def liW (k : List Nat) (s t : Tr) : Bool := if k = PL then isW (lp s) (lp t) else decide (li k s ≤ li k t)
theorem liW_eq {k : List Nat} {s t : Tr} (hs : WF s = true) (ht : WF t = true) : liW k s t = isW (mk k s) (mk k t) := by
  unfold liW
  by_cases hk : k = PL
  · subst hk
    rw [if_pos rfl, lp_mk hs, lp_mk ht]
  · rw [if_neg hk]
    obtain ⟨b1, e1⟩ := li_mk hk hs
    obtain ⟨b2, e2⟩ := li_mk hk ht
    rw [e1, e2]
    generalize mk k s = x at *
    generalize mk k t = y at *
    rcases b1 with rfl | rfl <;> rcases b2 with rfl | rfl <;> decide
/-- the nine kinds -/
def kinds : List (List Nat) := [[], [97], [98], [99], [97, 98], [97, 99], [98, 99], [97, 98, 99], PL]
/-- the first kind at which two words part, go beyond -/
def partK (s t : Tr) : Option (List Nat) := kinds.find? fun k => mk k s != mk k t
def gapK (s t : Tr) : Option (List Nat) := kinds.find? fun k => !isW (mk k s) (mk k t)
end KW

set_option Elab.async false
set_option linter.all false
set_option maxRecDepth 100000
set_option maxHeartbeats 2000000
namespace VX
open PySem PySem.Spec PyProof.Rows L2
/-! ### ints: a power of a greater base -/
def CPw (i j : Int) : Prop := 0 ≤ j ∧ (Builtin.Int.intBits i : Int) * j ≤ 2 ^ 27
theorem op_pw {X : Cx} : OpR X (binaryOp .Pow) (rI CPw fun i j => .int (i ^ j.toNat)) :=
  opI fun _ _ _ _ _ _ _ c q => pow_int c.1 c.2 q
/-! ### repr of data -/
inductive DX (K : PySem.W.Frag) (H : Hp) : V → PyData → Prop where
  | dp {v : V} {d : PyData} (h : Dp K H v d) : DX K H v d
  | dk {a : Addr} {x : Str} {i : Int} (h : H a = some (.dK [(Sum.inr x, .int i)])) : DX K H (.ref a) (.dict [(.str x, .int i)])
structure Shown (K : PySem.W.Frag) (H : Hp) (v : V) (d : PyData) : Prop where
  dx : DX K H v d
  sh : d.showable = true
  dep : d.depth ≤ 8
  sz : d.shown.length ≤ sizeLine
theorem kv_one {kvs : List (Key × V)} {vs : List (Key × Value)} {x : Str} {i : Int} (r : KV kvs vs) (e : kvs = [(Sum.inr x, V.int i)]) : ∃ t, vs = [(Sum.inr x, Value.int i t)] := by
  subst e
  cases r with
  | cons h t =>
    cases t
    rename_i b
    obtain ⟨k, u⟩ := b
    obtain ⟨h1, h2⟩ := h
    obtain ⟨t, h2⟩ := h2
    dsimp only at h1 h2
    subst h1 h2
    exact ⟨t, rfl⟩
theorem DX.reads {X : Cx} {pins : List (Addr × Obj)} {σ : L2.St} {H : Hp} {s : Shared} (I : Inv X pins σ H s) {d : PyData} {v : V} {u : Value} (h : DX X.K H v d) (r : RelV v u) :
    ∃ as, Reads s.heap u d as ∧ (d.hasDict = true → sysModules ∉ as) := by
  cases h with
  | dp h =>
    obtain ⟨as, q⟩ := Dp.reads I d v u h r
    refine ⟨as, q, fun hd => ?_⟩
    exfalso
    have no : ∀ (d : PyData) (v : V), Dp X.K H v d → d.hasDict = false := by
      intro d
      refine PyData.rec (motive_1 := fun d => ∀ v, Dp X.K H v d → d.hasDict = false) (motive_2 := fun ds => ∀ vs, DpAll X.K H vs ds → PyData.hasDictAll ds = false)
        (motive_3 := fun _ => True) (motive_4 := fun _ => True) ?_ ?_ ?_ ?_ ?_ ?_ ?_ ?_ ?_ ?_ ?_ ?_ d
      all_goals first
        | (intros; simp only [PyData.hasDict]; done)
        | (intro xs ih v h; simp only [PyData.hasDict]; cases h with | lst _ ha => exact ih _ ha)
        | (intro xs ih v h; simp only [PyData.hasDict]; cases h with | tup _ ha => exact ih _ ha)
        | (intro xs ih v h; cases h; done)
        | (intro vs h; simp only [PyData.hasDictAll]; done)
        | (intro x xs ih1 ih2 vs h; cases h with | cons h1 h2 => simp only [PyData.hasDictAll, ih1 _ h1, ih2 _ h2, Bool.or_self])
        | (intros; trivial)
    rw [no d v h] at hd
    cases hd
  | @dk a x i h =>
    cases (show u = Value.ref a from r)
    obtain ⟨_, ns, vs, rv, o, es, ep, e, ex, hd, hk, hp, _⟩ := (show ObjOk X.prog X.w H s.heap a (.dK [(Sum.inr x, .int i)]) from I.hok a _ h)
    obtain ⟨t, rfl⟩ := kv_one rv rfl
    obtain ⟨l⟩ := es
    cases hp with
    | @cons en kv tl tk h1 h2 h3 =>
      cases h3
      obtain ⟨t', ek⟩ := Value.isStrOf_shape (x := x) (v := en.key) (show Value.isStrOf x en.key = true from h1)
      have ev : en.val = Value.int i t := h2
      refine ⟨[a] ++ ([] ++ []) ++ ([] ++ []), Reads.dict (as := [] ++ []) (bs := [] ++ []) e ex.1 hd (ReadsAll.cons ?_ .nil) (ReadsAll.cons ?_ .nil), fun _ => ?_⟩
      · show Reads s.heap en.key (.str x) []
        rw [ek]; exact Reads.str x t'
      · show Reads s.heap en.val (.int i) []
        rw [ev]; exact Reads.int i t
      · intro m
        have e' : sysModules = a := by simpa using m
        rw [← e'] at ns
        exact absurd ns (by simp)
theorem call_repr {X : Cx} (hg : X.A.guards = some []) (hu : X.A.units + 64 < cLine) : CallR X (.builtin "repr") (fun xs H Q => ∃ v d, xs = [v] ∧ Shown X.K H v d ∧ Q (.str d.shown) H) := by
  intro pins s σ H xs us Q I r h
  obtain ⟨v, d, rfl, S, q⟩ := h
  obtain ⟨u, rfl, ru⟩ := vals1 r
  obtain ⟨as, R, hs⟩ := S.dx.reads I ru
  have leaf : ∀ {z : Str} {s' : Shared}, s' = { s with toks := s.toks + 1 } → Q (.str z) H → EP X pins σ Q (.str z s.toks) s' := fun {z s'} e q => by
    subst e
    exact ⟨.str z, H, I.tok _, ⟨_, rfl⟩, q⟩
  have sh := S.sh
  have sz := S.sz
  have dp := S.dep
  clear S ru r
  cases R with
  | none => exact P.repr_of_none (leaf rfl (by simpa only [PyData.shown] using q))
  | bool b => exact P.repr_of_bool (leaf rfl (by simpa only [PyData.shown] using q))
  | int i t => exact P.repr_of_int (by simpa [PyData.showable] using sh) (leaf rfl (by simpa only [PyData.shown] using q))
  | str x t => exact P.repr_of_str (leaf rfl (by simpa only [PyData.shown] using q)) (by simpa only [PyData.shown] using sz)
  | list a b c e => exact repr_of_reads' (Reads.list a b c e) sh hs hg (by omega) (fun _ _ z => z) (fun h' u tk k => ⟨.str _, H, I.kept k, ⟨_, rfl⟩, q⟩) sz
  | tuple a b c e => exact repr_of_reads' (Reads.tuple a b c e) sh hs hg (by omega) (fun _ _ z => z) (fun h' u tk k => ⟨.str _, H, I.kept k, ⟨_, rfl⟩, q⟩) sz
  | dict a b c e f => exact repr_of_reads' (Reads.dict a b c e f) sh hs hg (by omega) (fun _ _ z => z) (fun h' u tk k => ⟨.str _, H, I.kept k, ⟨_, rfl⟩, q⟩) sz
/-! ### lists of the very same things -/
def OneV (v : V) : Prop := flatB v = true ∨ ∃ c, v = .ref c
theorem one_eq {A : Around} {s : Shared} {v : V} {u u' : Value} (o : OneV v) (r : RelV v u) (r' : RelV v u') : SeqAt.EqAt A s u u' true := by
  rcases o with o | ⟨c, rfl⟩
  · exact eqAt_same r r' o
  · cases (show u = Value.ref c from r)
    cases (show u' = Value.ref c from r')
    exact SeqAt.EqAt.same _
theorem all_one {A : Around} {s : Shared} : ∀ {xs : List V} {us ws : List Value}, (∀ v ∈ xs, OneV v) → Vals xs us → Vals xs ws → ∀ j (h1 : j < us.length) (h2 : j < ws.length), SeqAt.EqAt A s us[j] ws[j] true
  | [], _, _, _, .nil, .nil, j, h1, _ => absurd h1 (Nat.not_lt_zero j)
  | x :: xs, _, _, o, .cons a b, .cons a' b', 0, _, _ => one_eq (o x List.mem_cons_self) a a'
  | x :: xs, _, _, o, .cons a b, .cons a' b', j + 1, h1, h2 => all_one (fun v hv => o v (List.mem_cons_of_mem _ hv)) b b' j (Nat.lt_of_succ_lt_succ h1) (Nat.lt_of_succ_lt_succ h2)
def rSame (K : PySem.W.Frag) (b : Bool) : R2 := fun x y H Q => ∃ p q xs, x = .ref p ∧ y = .ref q ∧ SqL K H p xs ∧ SqL K H q xs ∧ (∀ v ∈ xs, OneV v) ∧ Q (.bl b) H
theorem op_neSame {X : Cx} (hu : X.A.units < cLine) : OpR X (compareOp .NotEq) (rSame X.K false) := by
  intro pins s σ H x y v u Q I rx ry h
  obtain ⟨p, q, xs, rfl, rfl, hp, hq, ho, hQ⟩ := h
  cases (show v = Value.ref p from rx)
  cases (show u = Value.ref q from ry)
  obtain ⟨us, r1, p1, _⟩ := I.list hp
  obtain ⟨ws, r2, p2, _⟩ := I.list hq
  have hsz : us.toArray.size = ws.toArray.size := by
    rw [List.size_toArray, List.size_toArray, ← r1.length, ← r2.length]
  refine SeqAt.RcNeAt.lists (e := fun _ => true) p1.isList p2.isList hsz hu (fun j h1 h2 => ?_) _ _ _ _ ?_
  · have k := all_one (A := X.A.in1) (s := s) ho r1 r2 j (by simpa using h1) (by simpa using h2)
    simpa using k
  · rw [show ((List.range us.toArray.size).all fun _ => true) = true from List.all_eq_true.mpr fun _ _ => rfl]
    exact ⟨.bl false, H, I, rfl, hQ⟩
theorem op_eqSame {X : Cx} (hu : X.A.units < cLine) : OpR X (compareOp .Eq) (rSame X.K true) := by
  intro pins s σ H x y v u Q I rx ry h
  obtain ⟨p, q, xs, rfl, rfl, hp, hq, ho, hQ⟩ := h
  cases (show v = Value.ref p from rx)
  cases (show u = Value.ref q from ry)
  obtain ⟨us, r1, p1, _⟩ := I.list hp
  obtain ⟨ws, r2, p2, _⟩ := I.list hq
  have hsz : us.toArray.size = ws.toArray.size := by
    rw [List.size_toArray, List.size_toArray, ← r1.length, ← r2.length]
  refine SeqAt.RcAt.lists (e := fun _ => true) p1.isList p2.isList hsz hu (fun j h1 h2 => ?_) _ _ _ _ ?_
  · have k := all_one (A := X.A.in1) (s := s) ho r1 r2 j (by simpa using h1) (by simpa using h2)
    simpa using k
  · rw [show ((List.range us.toArray.size).all fun _ => true) = true from List.all_eq_true.mpr fun _ _ => rfl]
    exact ⟨.bl true, H, I, rfl, hQ⟩
end VX

set_option Elab.async false
set_option linter.all false
set_option maxRecDepth 100000
set_option maxHeartbeats 4000000
/-! exceptions as values -/
namespace VX
open PySem PySem.Spec PyProof.Rows L2
section
variable {X : Cx} {pins : List (Addr × Obj)} {σ : L2.St} {H : Hp} {s s' : Shared}
/-- the same state, the heap grown -/
theorem Inv.up (I : L2.Inv X pins σ H s) (k : ∀ b o, s.heap.get? b = some o → s'.heap.get? b = some o) (ho : s'.os = s.os) (hb : AllBare s'.gens) : L2.Inv X pins σ H s' :=
  I.call' (ch := []) ho (Un.kept k) (I.hok.kept k) hb fun b z => absurd z (by simp)
/-- the same state, the heap grown by one thing that is tracked from now on -/
theorem Inv.upA {a : Addr} {o : HO} (I : L2.Inv X pins σ H s) (k : ∀ b o, s.heap.get? b = some o → s'.heap.get? b = some o) (n : s.heap.get? a = none) (na : H a = none) (new : ObjOk X.prog X.w (upd H a o) s'.heap a o) (ho : s'.os = s.os) (hb : AllBare s'.gens) :
    L2.Inv X pins σ (upd H a o) s' :=
  I.call' (ch := []) ho (Un.laidN k n na) (I.hok.laidN k na new) hb fun b z => absurd z (by simp)
end
/-- an exception that stands at a, of the class cls, its own dict d -/
def ExD (cls : Value) (d : Option Addr) (a : Addr) : HO := .ext fun h => ∃ (oe : Obj) (vs : Array Value), h.get? a = some oe ∧ Zc cls d oe ∧ oe.data = .fields vs
theorem exD_ok {P : Program} {w : World} {H : Hp} {h : Heap} {a : Addr} {cls : Value} {d : Option Addr} {oe : Obj} {vs : Array Value} (e : h.get? a = some oe) (z : Zc cls d oe) (q : oe.data = .fields vs) : ObjOk P w H h a (ExD cls d a) :=
  ⟨⟨oe, vs, e, z, q⟩, ⟨oe, e⟩, fun _ _ ⟨o, v, p, r⟩ k => ⟨o, v, k o p, r⟩⟩
/-- C(..), the exception itself -/
theorem pe_exV {X : Cx} {e : Expr} {t : L2.St → Hp → XK → Prop} (he : PMk X e t) : PE X e (fun σ H Q => t σ H fun cls d H1 => ∀ a, H1 a = none → Q (.ref a) (upd H1 a (ExD cls d a))) := by
  refine ⟨fun pins s σ H Q I h => ?_⟩
  refine thn (he pins s σ H _ I h) fun u s1 hu => ?_
  obtain ⟨a, oe, vs, sI, H', cls, d, rfl, J, k, n, ha, hz, hd, _, na, os, ag, _, q⟩ := hu
  exact ⟨.ref a, _, Inv.upA J k n na (exD_ok ha hz hd) os ag, rfl, q a na⟩
/-- C(..).n -/
theorem pe_exGet {X : Cx} {e : Expr} {n : Str} {pos : Pos} {t : L2.St → Hp → XK → Prop} (he : PMk X e t) (hb : attributeBase e n X.env (eval e X.env) = eval e X.env := by rfl) :
    PE X (.Attribute e n pos) (fun σ H Q => t σ H fun cls d H1 => ∃ (C dd : Addr) (fs : List (Str × V)) (v : V), cls = .ref C ∧ d = some dd ∧ XfC X.K C ∧ PySem.W.findIn X.K (.ref C) n = some none ∧ H1 dd = some (.xd fs) ∧ fs.lookup n = some v ∧ Q v H1) := by
  refine ⟨fun pins s σ H Q I h => ?_⟩
  refine attr_of hb (thn (he pins s σ H _ I h) fun u s1 hu => ?_)
  obtain ⟨a, oe, vs, sI, H', cls, d, rfl, J, k, n0, ha, hz, hd, _, na, os, ag, _, C, dd, fs, v, rfl, rfl, T, hno, hx, hl, q⟩ := hu
  have J1 := Inv.up (s' := s1) J k os ag
  obtain ⟨mA, hns, hr⟩ := (show ObjOk X.prog X.w H' s1.heap dd (.xd fs) from J1.hok dd _ hx)
  obtain ⟨od, ho, hlk⟩ := lookIn_ns hns
  obtain ⟨u, hu, ru⟩ := RelO.some_of (v := v) (o := mA n) (by rw [← hl]; exact hr n)
  have it : PySem.W.InstAt s1.heap a oe C (some od) := ⟨ha, hz.1, by unfold PySem.W.notCls; rw [hd] <;> rfl, by rw [hz.2]; exact ho⟩
  exact HandSPX.exc_get J1.kIn it T.ga T.gg T.exC (PySem.W.findObj_own T.hdC hno rfl (by rw [hlk, hu])) (handed_of ru) ⟨v, H', J1.tok _, ru, q⟩
end VX

set_option Elab.async false
set_option linter.all false
set_option maxRecDepth 100000
set_option maxHeartbeats 4000000
/-! isinstance of an exception that may have its own dict -/
namespace VX
open PySem PySem.Spec PySem.Calls PyProof.Rows PySem.W
section
variable {pg : Program} {wd : World} {B : Around} {Er : Value → Shared → Prop} {st : Shared} {F : Frag} {y D : Addr} {oy : Obj} {od : Option Obj}
theorem bindsAt {C : Addr} {nm : Str} {a g : Value} (hc : (clsIn F C).isSome = true) (h1 : findIn F (.ref C) nm = some (some a)) (h2 : specialIn F a "__get__" = some (some g)) (h3 : takesIn F a = some true) : findObj F C od nm = some (.bind g a) := by
  cases e : clsIn F C with
  | none => rw [e] at hc; cases hc
  | some cd => simp [findObj, e, h1, h2, h3]
structure ExIs (F : Frag) (D : Addr) : Prop where
  xc : L2.ExcC F D
theorem clsSome (h : hasDictIn F D = true) : (clsIn F D).isSome = true := by
  obtain ⟨cd, hc, _⟩ := any_some h
  rw [hc]; rfl
theorem class_of_exc {Q : Option Value → Shared → Prop} (T : L2.ExcC F D) (X : F.In st.heap) (I : InstAt st.heap y oy D od) (h : Q (some (.ref D)) { st with toks := st.toks + 1 }) : wpAny (model pg wd) B (getAttr? (.ref y) "__class__") Q Er st := by
  have fb : findObj F D od "__class__" = some (.bind (.builtin "getset_descriptor.__get__") (.builtin "object.__class__")) := bindsAt (clsSome T.hd) T.ha T.hn T.ht
  obtain ⟨hp, gs, dr, tk, os⟩ := st
  have a0 := I.type (M := model pg wd)
  have a1 := looks_findIn (M := model pg wd) X T.hg
  have a2 := looks_findIn (M := model pg wd) X T.hk
  have a3 := looks_find (M := model pg wd) X I fb
  have sb : Looks (model pg wd) hp (isInstance (.ref y) (.type "BaseException")) true := a0.andThen (looks_subIn X T.hs)
  have ne : (Value.builtin "BaseException.__getattribute__" == Value.builtin "object.__getattribute__") = false := by decide +kernel
  have nf : (onTheHeap (Value.ref D) && Value.builtin "BaseException.__getattribute__" == Value.builtin "object.__getattribute__") = false := by rw [ne]; rfl
  unfold getAttr? getAttrBy? getAttrBy
  refine wpAny_bind (wpAny_mkText (wpAny_bind (wpAny_attempt (wpAny_holding (wpAny_bind (a0.at (wpAny_bind (a1.at ?z1))))))))
  case z1 =>
    show wpAny _ _ (if (onTheHeap (Value.ref D) && Value.builtin "BaseException.__getattribute__" == Value.builtin "object.__getattribute__") = true then _ else _) _ _ _
    rw [nf, if_neg Bool.false_ne_true]; unfold getAttrByItsOwn hookBefore
    refine wpAny_bind ?z2
    case z2 =>
      rw [if_pos (show onTheHeap (Value.ref D) = true from rfl)]; refine a2.at (wpAny_bind (wpAny_attempt (wpAny_holding ?z3)))
      case z3 =>
        unfold callGetattribute; rw [show (false && onTheHeap (Value.builtin "BaseException.__getattribute__")) = false from rfl, if_neg Bool.false_ne_true]
        unfold boundAndCalled; rw [PySem.F.excAttr_ValueError.ga.bind (.ref y)]
        refine wpAny_bind (wpAny_pure ?z4)
        case z4 =>
          show wpAny _ _ (call (.builtin "BaseException.__getattribute__") [.ref y, .str "__class__" tk]) _ _ _
          refine wpAny_call (codeAny_call_builtin PySem.F.excAttr_ValueError.ga.plain PySem.F.entry_bexc_ga ?z5)
          case z5 =>
            refine @check_slot (model pg wd) _ _ ⟨hp, gs, dr, tk + 1, os⟩ "BaseException.__getattribute__" "BaseException" "__getattribute__" (.ref y) [.str "__class__" tk] [] _ (by decide +kernel) (by decide +kernel) sb (PySem.F.args_bexc_ga (.ref y) (.str "__class__" tk)) ?z6
            case z6 =>
              unfold Builtin.«object.__getattribute__»
              refine wpAny_bind (wpAny_of_eq (a := ((Value.ref y : Value), [Value.str "__class__" tk])) (by first | rfl | (simp only [slotArgs]; rfl)) (wpAny_bind (wpAny_pure (wpAny_bind (a0.at (wpAny_bind (a3.at ?z7)))))))
              case z7 =>
                show wpAny _ _ (holding [Value.builtin "object.__class__"] (call (.builtin "getset_descriptor.__get__") [.builtin "object.__class__", .ref y, .ref D]) >>= ret) _ _ _
                refine wpAny_bind (wpAny_holding (wpAny_call (class_get (s := ⟨hp, gs, dr, tk + 1, os⟩) (ox := oy) (od := od) X I T.hm (wpAny_pure ?z8))))
                case z8 =>
                  show wpAny _ _ (handedOut (.ref D)) _ _ _
                  rw [handedOut_of (v := .ref D) rfl]
                  first | exact wpAny_pure (wpAny_pure h) | exact wpAny_pure h | exact wpAny_pure (wpAny_bind (wpAny_pure (wpAny_pure h)))
theorem kitx_exd (T : L2.ExcC F D) : KitX F (.ref y) (.ref D) (fun h => ∃ oy od, InstAt h y oy D od) where
  ty := fun _ _ _ ⟨_, _, I⟩ => I.type
  it := fun M h X _ A Q E s k q => by
    have z := clsSome T.hd
    unfold clsIn at z
    split at z
    · rename_i hk
      unfold isType loadHead
      exact wpAny_bind (wpAny_loadPart (k _ _ (X _ _ hk)) (wpAny_pure q))
    · cases z
  ne := fun h tp dd its n sl X htp => by
    cases e : (Value.ref D == Value.ref tp) with
    | false => rfl
    | true =>
      have e2 : D = tp := Value.ref.inj (beq_iff_eq.mp e)
      subst e2
      have z := clsSome T.hd
      unfold clsIn at z
      split at z
      · rename_i hk
        exact nomatch (X _ _ hk).symm.trans htp
      · cases z
  ca := fun X ⟨_, _, I⟩ q => class_of_exc T X I q
end
end VX
namespace VX
open PySem PySem.Spec PyProof.Rows L2
/-- isinstance(e, c) of such an exception -/
def rIsX (K : PySem.W.Frag) : List V → Hp → VK → Prop := fun xs H Q => ∃ (a D : Addr) (d : Option Addr) (c : V) (cv : Value) (b : Bool), xs = [.ref a, c] ∧ ExcC K D ∧ H a = some (ExD (.ref D) d a) ∧ (∀ dd, d = some dd → ∃ o, H dd = some o) ∧ ClsV c cv ∧ PySem.W.kitOne K (.ref D) cv = some b ∧ Q (.bl b) H
theorem call_isX {X : Cx} : CallR X (.builtin "isinstance") (rIsX X.K) := by
  intro pins s σ H xs us Q I r h
  obtain ⟨a, D, d, c, cv, b, rfl, T, ha, hd, hc, e, q⟩ := h
  obtain ⟨u1, u2, rfl, r1, r2⟩ := vals2 r
  have e2 := hc.eq r2
  subst e2
  cases (show u1 = Value.ref a from r1)
  have ok : ObjOk X.prog X.w H s.heap a (.ext fun h => ∃ (oe : Obj) (vs : Array Value), h.get? a = some oe ∧ Zc (.ref D) d oe ∧ oe.data = .fields vs) := I.hok a _ ha
  obtain ⟨⟨oe, vs, ho, hz, hf⟩, _, _⟩ := ok
  have J : ∃ od, PySem.W.InstAt s.heap a oe D od := by
    have nc : PySem.W.notCls oe = true := by unfold PySem.W.notCls; rw [hf] <;> rfl
    cases d with
    | none => exact ⟨none, ho, hz.1, nc, by rw [hz.2]; trivial⟩
    | some dd =>
      obtain ⟨o, hdd⟩ := hd dd rfl
      obtain ⟨ob, hob⟩ := objOk_get (I.hok dd o hdd)
      exact ⟨some ob, ho, hz.1, nc, by rw [hz.2]; exact hob⟩
  obtain ⟨od, J⟩ := J
  exact PySem.W.kia_one (kitx_exd T) I.kIn ⟨oe, od, J⟩ e (fun z => nomatch z) fun tk => ⟨.bl b, H, I.tok tk, rfl, q⟩
end VX

set_option Elab.async false
set_option linter.all false
set_option maxRecDepth 100000
set_option maxHeartbeats 4000000
/-! C(f = v), C an exception's class with its own __init__ -/
namespace VX
open PySem PySem.Calls PySem.HandSPX
section
variable {M : Model} {pg : Program} {wd : World} {B : Around} {Er : Value → Shared → Prop} {R : Result → Shared → Prop} {hh : Heap} {gs : Array GenState} {dr : Drawn} {tk : Nat} {os : OsState}
variable {nm q : Str} {C N : Addr} {bs bm bB : List Value} {hd : Bool} {sn : List Str} {sub : List Value} {ab : Bool} {col : Option Bool} {dd : Option Addr} {m0 m1 m2 m3 m5 : Option Value} {T nid iid : String} {kw : List (Str × Value)}
theorem chkNewK (F : ExcBaseFacts T nid iid bB) (hT : ∀ Y : String, bm.contains (.type Y) = bB.contains (.type Y)) {Q : Unit → Shared → Prop} (hC : hh.get? C = some (excClassObj nm q C N bs bm hd sn sub ab col dd m0 m1 m2 m3 m5 nid)) (hq : Q () ⟨hh, gs, dr, tk, os⟩) :
    wpAny M B (checkBuiltinCall nid ⟨[.ref C], kw⟩) Q Er ⟨hh, gs, dr, tk, os⟩ := by
  have hc : (Value.ref C :: bm).contains (.type T) = true := by rw [List.contains_cons, hT, F.hasB, Bool.or_true]
  have hs := F.noStar
  simp only [checkBuiltinCall, F.newKind, F.newSplit, F.newRow]
  repeat (first | refine wpAny_loadPart_at hC ?_ | (refine wpAny_isSubtype_exc hC ?_; rw [hc]) | refine wpAny_staticBase_exc hC ?_ | refine wpAny_madeBy_exc hC ?_ | simp only [bne_self_eq_false, Bool.false_eq_true, if_false] | wp_step)
  exact hq
end
section
variable {pg : Program} {wd : World} {B : Around} {Er : Value → Shared → Prop} {R : Result → Shared → Prop} {hh : Heap} {gs : Array GenState} {dr : Drawn} {tk : Nat} {os : OsState}
variable {nm q : Str} {C N : Addr} {bs bm bB : List Value} {hd : Bool} {sn : List Str} {sub : List Value} {ab : Bool} {col : Option Bool} {dd : Option Addr} {m0 m1 m2 m3 m5 : Option Value} {T nid iid : String} {kw : List (Str × Value)}
/-- the heap behind C.__new__(C, f = v) -/
abbrev born (hh : Heap) (C : Addr) : Heap := (hh.push (W.kdv_tup [])).push (excO C hh.objs.size)
theorem newK (F : ExcBaseFacts T nid iid bB) (hT : ∀ Y : String, bm.contains (.type Y) = bB.contains (.type Y)) (hC : hh.get? C = some (excClassObj nm q C N bs bm hd sn sub ab col dd m0 m1 m2 m3 m5 nid))
    (hq : R (.ok (.ret (.ref (hh.objs.size + 1)))) ⟨born hh C, gs, dr, tk, os⟩) : codeAny (model pg wd) B (.builtin nid ⟨[.ref C], kw⟩) R ⟨hh, gs, dr, tk, os⟩ := by
  have he := F.ends
  have cB : (Value.ref C :: bm).contains (.type T) = true := by rw [List.contains_cons, hT, F.hasB, Bool.or_true]
  have cA : (Value.ref C :: bm).contains (.type "AttributeError") = false := by rw [List.contains_cons, hT, F.noAttr]; rfl
  have cN : (Value.ref C :: bm).contains (.type "NameError") = false := by rw [List.contains_cons, hT, F.noName]; rfl
  refine codeAny_builtinAt F.entry ?_
  unfold Builtin.«BaseException.__new__»
  refine wpAt_bind ?_
  show wpAt _ _ _ (stack >>= _) _ _ _
  refine wpAt_bind (wpAt_stack fun p below => wpAt_of_wpAny ?_)
  wp_walk
  refine wpAt_of_wpAny ?_
  rw [F.owner]
  repeat (first | with_reducible refine wpAny_madeHere_exc F.canon hC ?_ | with_reducible refine wpAny_loadPart_at hC ?_ | (with_reducible refine wpAny_isSubtype_exc hC ?_; first | rw [cB] | rw [cA] | rw [cN]) | wp_step)
  show R _ _
  rw [Heap.size_push]
  exact hq
theorem typeCallK (F : ExcBaseFacts T nid iid bB) (hT : ∀ Y : String, bm.contains (.type Y) = bB.contains (.type Y)) {fI : Addr} {Q : Fin → Shared → Prop} (hC : hh.get? C = some (excClassObj nm q C N bs bm hd sn sub ab col dd m0 m1 m2 m3 m5 nid))
    (hi : W.Looks (model pg wd) hh (typeLookup (.ref C) "__init__") (some (.ref fI))) (hb : ∀ o, W.Looks (model pg wd) hh (bindSpecial (.ref fI) o) (.ref fI, [o]))
    (hq : codeAny (model pg wd) B (.call (.ref fI) ⟨[.ref (hh.objs.size + 1)], kw⟩) (fun r s' => match r with | .ok (.ret v) => v = .none ∧ Q (.done (.ret (.ref (hh.objs.size + 1)))) s' | .ok _ => False | .error e => Er e s') ⟨born hh C, gs, dr, tk, os⟩) :
    wpAny (model pg wd) B (Builtin.«type.__call__» ⟨[.ref C], kw⟩) Q Er ⟨hh, gs, dr, tk, os⟩ := by
  repeat (first | with_reducible refine wpAny_loadPart_at hC ?_ | with_reducible refine wpAny_madeBy_exc hC ?_ | wp_step)
  refine codeAny_call_builtin_code (Code.quiet_builtin _ F.quiet) (chkNewK F hT hC (newK F hT hC ?_))
  show wpAny _ _ _ _ _ _
  have k : ∀ b o, hh.get? b = some o → (born hh C).get? b = some o := fun b o e => Heap.get?_push_of_some _ (Heap.get?_push_of_some _ e)
  have hC1 := k _ _ hC
  have hg : (born hh C).get? (hh.objs.size + 1) = some (excO C hh.objs.size) := by heap_get
  have cC : (Value.ref C :: bm).contains (.ref C) = true := by simp
  have i1 := hi.keeps k
  have b1 := (hb (.ref (hh.objs.size + 1))).keeps k
  unfold isInstance
  repeat (first | with_reducible refine wpAny_loadPart_at hg ?_ | (with_reducible refine wpAny_isSubtype_exc hC1 ?_; rw [cC]) | wp_step)
  show wpAny _ _ (typeLookup (.ref C) _) _ _ _
  refine i1.at ?_
  refine wpAny_holding (wpAny_bind (b1.at (wpAny_bind (wpAny_call (codeAny_mono hq fun r s' z => ?_)))))
  rcases r with e | (v | _ | _ | _) <;> first | exact z | exact z.elim | skip
  obtain ⟨rfl, z⟩ := z
  first
    | exact wpAny_pure (wpAny_pure z)
    | (wp_walk; exact z)
theorem callK (F : ExcBaseFacts T nid iid bB) (hT : ∀ Y : String, bm.contains (.type Y) = bB.contains (.type Y)) {fI : Addr} (hC : hh.get? C = some (excClassObj nm q C N bs bm hd sn sub ab col dd m0 m1 m2 m3 m5 nid))
    (hi : W.Looks (model pg wd) hh (typeLookup (.ref C) "__init__") (some (.ref fI))) (hb : ∀ o, W.Looks (model pg wd) hh (bindSpecial (.ref fI) o) (.ref fI, [o]))
    (hq : codeAny (model pg wd) (B.under (.builtin "type.__call__" ⟨[.ref C], kw⟩)) (.call (.ref fI) ⟨[.ref (hh.objs.size + 1)], kw⟩) (W.InitBack (hh.objs.size + 1) R) ⟨born hh C, gs, dr, tk, os⟩) :
    codeAny (model pg wd) B (.call (.ref C) ⟨[], kw⟩) R ⟨hh, gs, dr, tk, os⟩ := by
  have f1 := tc_lookup
  have f2 := tc_bind (.ref C)
  have tT : (⟨hh, gs, dr, tk, os⟩ : Shared).TypeIs (.ref C) "type" := ⟨_, hC, rfl⟩
  have ck : wpAny (model pg wd) B.in1 (checkBuiltinCall "type.__call__" ⟨[.ref C], kw⟩) (fun _ s => s = ⟨hh, gs, dr, tk, os⟩) (fun _ _ => False) ⟨hh, gs, dr, tk, os⟩ := by
    have f3 := tc_sub
    simp only [checkBuiltinCall, tc_kind, tc_split]
    repeat (any_goals (first | assumption | rfl | with_reducible refine wpAny_loadPart_at hC ?_ | with_reducible refine wpAny_onRaise ?_ | with_reducible refine wpAny_map ?_ | wp_step))
  refine codeAny_of_tree ?_
  show wpAny _ _ (callAny (.ref C) _) _ _ _
  repeat (any_goals (first | assumption | with_reducible refine wpAny_loadPart_at hC ?_ | wp_step))
  refine ⟨rfl, codeAny_call_builtin_at (Code.quiet_builtin _ (by decide +kernel)) entry_typeCall (wpAny_mono ck (fun _ s' e => ?_) fun _ _ z => False.elim z)⟩
  subst e
  refine typeCallK F hT hC hi hb (codeAny_mono hq fun r s' z => ?_)
  rcases r with e | (v | _ | _ | _) <;> exact z
end
end VX
namespace VX
open PySem PySem.Spec PyProof.Rows L2
/-- C(f = v), C's own __init__ keeping sp -/
def tMkK (C : Addr) (sp : Sp) (ta : TA) : L2.St → Hp → XK → Prop := fun σ H Q => ta σ H fun zs H1 => zs.length = 1 ∧ ∀ a, H1 a = none → sp (.ref a :: zs) (upd H1 a (exo a C none))
  (fun v H2 => v = .non ∧ ∃ (d : Addr) (fs : List (Str × V)), H2 a = some (exo a C (some d)) ∧ H2 d = some (exd d fs) ∧ H1 d = none ∧ Q (.ref C) (some d) (upd (del H2 a) d (.xd fs))) (fun _ _ _ => False)
theorem pmk_oexK {X : Cx} {CX : CXT} {x f : Str} {C fI : Addr} {k : Nat} {fd : FuncData} {sp : Sp} {p kpos pos : Pos} {e : Expr} {ta : TA} (T : OexC X.K C) (iC : PySem.W.findIn X.K (.ref C) "__init__" = some (some (.ref fI))) (tI : PySem.W.typeIn X.K (.ref fI) = some (.type "function"))
    (F1 : FnOk X.prog X.w X.K X.mg X.base CX k fI fd ["self", f] sp) (hr : Room (k + 1) X.A) (hb : ∀ (s : Shared) (u v : Value), X.K.In s.heap → BindsTo s fd ⟨[u], [(f, v)]⟩ [("self", u), (f, v)]) (hx : Passes CX X (fun _ _ _ => False)) (hg : Gl X x) (hm : X.mg x = some (.ref C))
    (ha : PK X [⟨some f, e, kpos⟩] ta) (hdb : (x == ("__debug__" : Str)) = false := by decide) (hpl : ((backTo pos (starEach [] X.env)).any (·.1) || (backToKw pos (keywordEach [⟨some f, e, kpos⟩] X.env)).any (·.1.isNone)) = false := by rfl)
    (hall : (backToKw pos (keywordEach [⟨some f, e, kpos⟩] X.env)).all (·.1.isSome) = true := by rfl) (hks : (backToKw pos (keywordEach [⟨some f, e, kpos⟩] X.env)).filterMap (·.1) = [f] := by rfl) :
    PMk X (.Call (.Name x p) [] [⟨some f, e, kpos⟩] pos) (tMkK C sp ta) := by
  intro pins s σ H Q I h
  obtain ⟨nm, q, N, bs, bm, sn, sub, ab, col, dd, k0, k1, k2, k3, k5, hC, hbm⟩ := T.cls
  refine wpAny_Call_Name_kw (ld_glob I hg hm ?_ hdb)
  refine PySem.W.callWith_KW0 (h₀ := X.base) I.ok.mod.kin T.kC hall ?_ hpl
  refine thn (ha.run pos pins s σ H _ I h) fun ws s1 ⟨zs, H1, I1, rz, l1, q1⟩ => ⟨I1.kIn, ?_⟩
  rw [hks]
  obtain ⟨z, rfl⟩ : ∃ z, zs = [z] := by
    cases zs with
    | nil => cases l1
    | cons z r =>
      cases r with
      | nil => exact ⟨z, rfl⟩
      | cons _ _ => cases l1
  obtain ⟨u, rfl, ru⟩ := vals1 rz
  show wpAny _ _ (call (.ref C) [] [(f, u)]) _ _ _
  obtain ⟨hp, g, dr, tk, os⟩ := s1
  have hsz : hp.objs.size ≤ hp.objs.size + 1 := Nat.le_succ _
  have hn : H1 (hp.objs.size + 1) = none := I1.hok.fresh hsz
  have hq := q1 (hp.objs.size + 1) hn
  have kk : ∀ b o, hp.get? b = some o → (born hp C).get? b = some o := fun b o e => Heap.get?_push_of_some _ (Heap.get?_push_of_some _ e)
  have hget : (born hp C).get? (hp.objs.size + 1) = some (PySem.HandSPX.excO C hp.objs.size) := by heap_get
  have I2 : L2.Inv X pins σ (upd H1 (hp.objs.size + 1) (exo (hp.objs.size + 1) C none)) ⟨born hp C, g, dr, tk, os⟩ :=
    I1.laid (t' := tk) (a := hp.objs.size + 1) (o := exo (hp.objs.size + 1) C none) (h' := born hp C) kk hsz (exo_ok hget)
  have r2 : Vals [V.ref (hp.objs.size + 1), z] [Value.ref (hp.objs.size + 1), u] := .cons rfl (.cons ru .nil)
  have e1 : Env0 X.prog X.w X.K X.mg X.base (X.A.under (.builtin "type.__call__" ⟨[.ref C], [(f, u)]⟩)) X.stack ⟨born hp C, g, dr, tk, os⟩ (upd H1 (hp.objs.size + 1) (exo (hp.objs.size + 1) C none)) := I2.env0.make C [] [(f, u)]
  refine wpAny_call (callK PySem.F.excBase_ValueError (fun Y => PySem.HandSPX.refsVE_contains Y bm hbm) (I1.kIn _ _ hC) (PySem.W.looks_findIn I1.kIn iC) (fun o => PySem.W.bind_fn I1.kIn o tI)
    (codeAny_mono (F1.run _ X.stack _ _ ⟨[Value.ref (hp.objs.size + 1)], [(f, u)]⟩ [Value.ref (hp.objs.size + 1), u] _ _ (fun _ _ _ => False) (hr.make C [] [(f, u)]) e1 (hb _ _ _ I2.kIn) r2 hq) fun r s' hq' => ?_))
  cases r with
  | error er => exact hx pins σ _ _ er s' I2 hq'
  | ok fl =>
    cases fl with
    | ret u =>
      obtain ⟨v, H2, os2, bare2, un2, hok2, rv, ev, d, fs, ea, ed, hd1, q2⟩ := hq'
      subst ev
      obtain ⟨h2, g2, d2, t2, os'⟩ := s'
      exact ⟨rv, mk_end (raises_own T.exC T.tyC) I1 hsz kk un2 hok2 os2 bare2 ea ed hd1 q2⟩
    | next => exact False.elim hq'
    | brk => exact False.elim hq'
    | cont => exact False.elim hq'
/-- C(), C an exception's class without an __init__ of its own -/
theorem pmk_own0 {X : Cx} {C : Addr} {bmB : List Value} {B newId initId : String} {x : Str} {p pos : Pos} (F : ExcBaseFacts B newId initId bmB) (q : PySem.W.excIn X.K C bmB newId = true) (gC : X.mg x = some (.ref C)) (kC : PySem.W.keepIn X.K (.ref C) = true) (r : Raises X (.ref C)) (hg : Gl X x)
    (hdb : (x == ("__debug__" : Str)) = false := by decide) : PMk X (.Call (.Name x p) [] [] pos) (fun _ H Q => Q (.ref C) none H) := by
  intro pins s σ H Q I h
  refine wpAny_Call_Name_kw (ld_glob I hg gC ?_ hdb)
  refine PySem.W.callWith_K0 I.kIn kC ?_
  show wpAny _ _ (call (.ref C) []) _ _ _
  obtain ⟨bm, N, nm, qn, bs, hdct, sn, sub, ab, col, dd, k0, k1, k2, k3, k5, mN, hC, hN, hni, T⟩ := exc_obj I.kIn q
  refine wpAny_call_exc_subT F T hC hN hni (fun h' e hm => ?_) (by show 0 ≤ sizeLine; omega)
  exact mk_of I hm r h (I.hok.gone hm.new)
end VX

set_option Elab.async false
set_option linter.all false
set_option maxRecDepth 100000
set_option maxHeartbeats 4000000
/-! defs that are called where no repr runs -/
namespace VX
open PySem PySem.Spec PyProof.Rows L2
/-- a def's promise, kept wherever no repr runs around the call -/
structure GFn (P : Program) (w : World) (K : PySem.W.Frag) (mg : Str → Option Value) (base : Heap) (k : Nat) (f : Addr) (fd : FuncData) (ps : List Str) (sp : Sp) : Prop where
  len : ∀ {vs H Q E}, sp vs H Q E → vs.length = ps.length
  go : ∀ {A : Around}, A.guards = some [] → Room k A → ∀ {outer : List Env} {s : Shared} {H : Hp}, Env0 P w K mg base A outer s H → ∀ {args : Args} {us : List Value} {vs : List V} {Q : VK} {E : XK}, BindsTo s fd args (ps.zip us) → Vals vs us → sp vs H Q E →
    codeAny (model P w) A (.call (.ref f) args) (CR CX0 outer P w H s Q E) s
section
variable {P : Program} {w : World} {K : PySem.W.Frag} {mg : Str → Option Value} {base : Heap} {x qual : Str} {pa : Arguments} {bd : List Stmt} {sc : Scope} {f : Addr} {fd : FuncData} {N ps : List Str} {k : Nat} {sp : Sp}
/-- the rule for such a def: the guards told -/
theorem GFn.of (F : FunD K x qual pa bd sc [] [] f fd) (S : FnScope N ps sc) (len : ∀ {vs H Q E}, sp vs H Q E → vs.length = ps.length)
    (body : ∀ (cdv : Value) (A : Around) (outer : List Env) (s : Shared) (H : Hp) (vs : List V) (Q : VK) (E : XK), A.guards = some [] → Room k (A.deeper (envOfC qual sc s.heap.objs.size f cdv)) → sp vs H Q E →
      ∃ t, PSs (cxOf CX0 P w K mg base N qual sc f cdv A outer s H E).nox bd t ∧ t { nx := fun _ H' => Q .non H', rt := Q } (start N vs) H) : GFn P w K mg base (k + 1) f fd ps sp := by
  obtain ⟨oc, od, dV, kV, doc, pm, an, cdv, ct, osl, rfl, lk, hcd, _, _⟩ := F.ex
  refine ⟨len, fun {A} hg hr {outer s H} e0 {args us vs Q E} hb r q => ?_⟩
  have KX : K.In s.heap := e0.mod.kin.keeps fun b o e => (e0.bs b o e).1
  have nl : s.heap.NoLimit := e0.mod.nolimit.keeps fun b o e => (e0.bs b o e).1
  have kinds : ∀ y ∈ ps.zip us, sc.names.lookup y.1 = some .local ∨ (sc.names.lookup y.1 = some .cell ∧ ((cellsFrom (s.heap.objs.size + 1) sc.names []).lookup y.1).isSome = true) := by
    rintro ⟨n, v⟩ hy
    have hn := S.par n (List.of_mem_zip hy).1
    exact hn.elim .inl fun z => .inr ⟨z, PySem.W.cellsFrom_some _ _ _ (.inl z)⟩
  refine codeAny_call_function hr.depth (KX _ _ lk) rfl S.co S.gen rfl (PySem.W.codeRec_of KX hcd) (hb _ _ _ _ (wpAny_newFunctionEnv_cells S.kind kinds ?_))
  rintro env rfl s1 ic
  refine ⟨nl.keeps ic.toInCall.keep, codeAny_func ?_⟩
  obtain ⟨t, ht, tq⟩ := body cdv A outer s H vs Q E hg (hr.deeper _) q
  have I : L2.Inv (cxOf CX0 P w K mg base N qual sc f cdv A outer s H E) [] (start N vs) H s1 := inv_start S hr.hd e0 (len q) r ic
  have back : ∀ {σ' : L2.St} {H' : Hp} {s' : Shared} {v : V} {u : Value}, L2.Inv (cxOf CX0 P w K mg base N qual sc f cdv A outer s H E) [] σ' H' s' → RelV v u → Q v H' → CE outer P w H s Q u s' :=
    fun J rv z => ⟨_, _, J.os, J.bare, J.base, J.hok, rv, z⟩
  refine wpAny_mono (ht.nox.run [] s1 (start N vs) H _ I tq) (fun fl s' h => ?_) fun _ _ h => h
  cases fl with
  | next => obtain ⟨_, _, J, z⟩ := h; exact back (v := V.non) (u := Value.none) J rfl z
  | ret u => obtain ⟨_, _, _, J, rv, z⟩ := h; exact back J rv z
  | brk => obtain ⟨_, _, _, z⟩ := h; exact z.elim
  | cont => obtain ⟨_, _, _, z⟩ := h; exact z.elim
end
section
variable {X : Cx} {k : Nat} {f : Addr} {fd : FuncData} {ps : List Str} {sp : Sp} {x : Str} {p pos : Pos} {e : Expr} {es : List Expr} {t : TA}
/-- f(e, ..) of such a def, where no repr runs -/
theorem pe_gcall (F : GFn X.prog X.w X.K X.mg X.base k f fd ps sp) (hg0 : X.A.guards = some []) (hr : Room k X.A) (hg : Gl X x) (hm : X.mg x = some (.ref f)) (hk : PySem.W.keepIn X.K (.ref f) = true) (hb : Binds X.K fd ps []) (ha : PA X (e :: es) t)
    (hdb : (x == ("__debug__" : Str)) = false := by decide) (he : starEach (e :: es) X.env = (false, eval e X.env) :: starEach es X.env := by rfl) (hpl : (backTo pos (starEach es X.env)).any (·.1) = false := by rfl) :
    PE X (.Call (.Name x p) (e :: es) [] pos) (tCall sp [] E0 t) := by
  refine ⟨fun pins s σ H Q I h => wpAny_Call_Name_kw (ld_glob I hg hm ?_ hdb)⟩
  refine PySem.W.callWith_K (h₀ := X.base) I.ok.mod.kin hk (thn (ha.run pos pins s σ H _ I h) fun us s1 ⟨vs, H1, I1, r, q⟩ => ⟨I1.kIn, ?_⟩) he hpl
  have q : sp vs H1 Q E0 := by have z : sp (vs ++ []) H1 Q E0 := q; rw [List.append_nil] at z; exact z
  have hl : us.length = ps.length := by rw [← r.length]; exact F.len q
  have b := hb s1 us I1.kIn (by rw [List.append_nil]; exact hl)
  rw [List.append_nil] at b
  refine wpAny_call (codeAny_mono (F.go hg0 hr I1.env0 b r q) fun r s' hq => ?_)
  match r, hq with
  | .ok (.ret u), hq => exact I1.after hq
  | .error _, hq => exact hq.elim
end
/-- the call's base: the heap without the script -/
theorem base_of {P : Program} {w : World} {K : PySem.W.Frag} {mg mb : Str → Option Value} {s : Shared} {H : Hp} {a : Addr} {vs : Array Value} (KX : K.In s.heap) (g1 : s.heap.Ns mainGlobals mg) (g2 : s.heap.Ns builtinsNs mb) (g3 : ∀ x : Str, x ≠ "__name__" → mb x = bootBuiltins x)
    (g4 : s.heap.NoLimit) (g5 : s.gens = #[]) (ha : s.heap.get? a = some { cls := .type "list", data := .seq vs }) (ok : HOk P w H s.heap) (only : ∀ b, b ≠ a → H b = none) (hK : H a ≠ none → K.lookup a = none) : Env0 P w K mg (hidT s.heap H) callerA [] s H := by
  have dk : ∀ {b : Addr} {o : Obj} {es : Array DictEntry} {ep : Nat}, s.heap.get? b = some o → o.data = .dict es ep → H b = none := by
    intro b o es ep e d
    by_cases hb : b = a
    · rw [hb, ha] at e
      rw [← Option.some.inj e] at d
      cases d
    · exact only b hb
  have ns : ∀ {b : Addr} {m : Str → Option Value}, s.heap.Ns b m → (hidT s.heap H).Ns b m := by
    rintro b m ⟨o, es, ep, e, d, r⟩
    exact ⟨o, es, ep, hidT_get e (dk e d), d, r⟩
  have kin : K.In (hidT s.heap H) := by
    intro b o e
    refine hidT_get (KX b o e) ?_
    by_cases hb : b = a
    · subst hb
      cases z : H b with
      | none => rfl
      | some u => rw [hK (by rw [z]; exact fun n => nomatch n)] at e; cases e
    · exact only b hb
  obtain ⟨mc, l1, l2⟩ := g4
  exact { frames := rfl, mod := { kin := kin, glob := ns g1, blt := ⟨mb, ns g2, g3⟩, nolimit := ⟨mc, ns l1, l2⟩ }, bs := fun b o e => of_hidT e, bsz := Nat.le_of_eq (hidT_size _ _), funs := trivial, frf := fun b hb => (nomatch hb), hok := ok, bare := .of_eq g5 }
/-- the law's own end, its def's promise kept where no repr runs -/
theorem walk_g {l : PySem.W.OpenLaw} {n k : Nat} {q : Program} {loose : List Str} {XP : (Str → Option Value) → Heap → Prop} {YP : World → Heap → Prop} {d : DefRec} {x : Str}
    (hn : l.most = some n) (hn2 : n ≤ sizeLine) (hdf : d.params.defaults = []) (hr : Room k callerA)
    (F : ∀ (w : World) (mg : Str → Option Value) (fa : Addr) (h : Heap), YP w h → h.Ns mainGlobals mg → mg d.name = some (.ref fa) →
      ∃ (K : PySem.W.Frag) (fd : FuncData) (sp : Sp), K.In h ∧ (∀ (s : Shared) (u : Value), BindsTo s fd ⟨[u], []⟩ [(x, u)]) ∧
        (∀ (H : Hp) (a : Addr) (ns : List Int), ns.length ≤ n → Only H → SqL K H a (ns.map V.int) → sp [.ref a] H (fun v _ => v = .bl true) fun _ _ _ => False) ∧
        ∀ base : Heap, K.In base → base.Ns mainGlobals mg → GFn l.prog w K mg base k fa fd [x] sp) :
    PySem.W.WalkO q loose XP YP l.row.toRowW d [] (fun f vs => PySem.call f vs) := by
  refine Att.attach_call hn hdf fun w s₀ s₁ mg mb fa o pm cd doc a vs ns G Y ho hd hcd hmg hobj hints hlen hg => ?_
  obtain ⟨K, fd, sp, KX, hb, hsp, hF⟩ := F w mg fa _ Y G.T.g hmg
  have rv := vals_ints hints
  have lv := hints.length
  have core : ∀ H : Hp, Only H → SqL K H a (ns.map V.int) → HOk l.prog w H s₁.heap → (∀ b, b ≠ a → H b = none) → (H a ≠ none → K.lookup a = none) →
      codeAny (model l.prog w) callerA (.call (.ref fa) ⟨[.ref a], []⟩) (fun r s' => r = .ok (.ret (.bool true)) ∧ OldK s₁.heap s'.heap ∧ s'.os = s₁.os ∧ AllBare s'.gens) s₁ := by
    intro H oH sH ok on hK
    have e0 := base_of (P := l.prog) (w := w) (mg := mg) KX G.T.g G.T.b G.T.builtins G.T.nolimit hg hobj ok on hK
    refine codeAny_mono ((hF _ e0.mod.kin e0.mod.glob).go (A := callerA) rfl hr e0 (us := [.ref a]) (vs := [V.ref a]) (hb s₁ (.ref a)) (.cons rfl .nil) (hsp H a ns hlen oH sH)) fun r s' h => ?_
    match r, h with
    | .error _, h => exact h.elim
    | .ok (.ret u), h =>
      obtain ⟨v, H', os, bare, un, ok', rr, rfl⟩ := h
      refine ⟨congrArg (fun u => Except.ok (Flow.ret u)) rr, OldK.of_keep fun b o e => ?_, os, bare⟩
      rcases oH b with z | ⟨ob, xs, z⟩
      · exact un.keep b o e z (fun m => nomatch m) (by simp)
      · have f1 := (ok b _ z).1
        have f2 := (ok' b _ (un.frzs b ob _ z)).1
        rw [e] at f1
        rw [f2, ← Option.some.inj f1]
  cases hk : K.lookup a with
  | some o1 =>
    have e := KX a o1 hk
    rw [hobj] at e
    cases e
    refine core (fun _ => none) (fun _ => .inl rfl) (.inr ⟨_, vs.toArray, _, hk, rfl, rfl, rfl, ?_, by simpa using rv⟩) (fun b u z => nomatch z) (fun b _ => rfl) fun z => absurd rfl z
    rw [List.size_toArray, lv]
    exact Nat.le_trans hlen hn2
  | none =>
    let fz : HO := .frz { cls := .type "list", data := .seq vs.toArray } (.lst (ns.map V.int))
    refine core (upd (fun _ => none) a fz) (fun b => ?_) (.inl (.inr ⟨_, upd_same⟩)) (fun b u z => ?_) (fun b hb => upd_ne hb) fun _ => hk
    · by_cases hb : b = a
      · exact .inr ⟨_, _, by rw [hb]; exact upd_same⟩
      · exact .inl (upd_ne hb)
    · by_cases hb : b = a
      · subst hb
        rw [upd_same] at z
        cases z
        exact ⟨hobj, by rw [List.length_map]; exact Nat.le_trans hlen hn2, vs, _, rv, hobj⟩
      · rw [upd_ne hb] at z
        cases z
end VX

set_option Elab.async false
set_option linter.all false
set_option maxRecDepth 100000
set_option maxHeartbeats 4000000
/-! # for i, c in enumerate(a text, start=k); x + y by an own __add__; replace in a def -/
namespace VX
open PySem PySem.Spec PyProof.Rows L2
/-! ### enumerate(text, start=k) -/
def IteS (x : Str) (k0 : Int) : It :=
  ⟨fun i _ => i < x.cps.size, fun i H v H' => ∃ T c, v = .ref T ∧ H T = none ∧ x.cps[i]? = some c ∧ H' = upd H T (.tup [.int (k0 + (i : Nat)), .str ⟨#[c]⟩]), fun i _ => x.cps.size = i⟩
structure EnS (x : Str) (t : Tok) (k0 : Int) (h : Heap) (e j : Addr) (i : Nat) : Prop where
  en : ∃ old, IsEnum h e j (k0 + (i : Int)) old
  hj : h.IsStrIter j (strIterType x) x t i
  ei : e ≠ j
theorem turn_enumS {P : Program} {w : World} {K : PySem.W.Frag} {elts : List Expr} {kk : Nat} {tpos : Pos} (x : Str) (t : Tok) (k0 : Int) (e it : Addr) :
    Turn P w K (.Tuple elts kk tpos) (IteS x k0) [e, it] e (fun i h => EnS x t k0 h e it i) where
  mem := by simp
  obj := fun i h st b hb => by
    obtain ⟨⟨old, he⟩, ⟨o, ho, _, hd⟩, _⟩ := st
    rcases (by simpa using hb : b = e ∨ b = it) with rfl | rfl
    · exact ⟨_, he, fun v q => nomatch q⟩
    · exact ⟨o, ho, fun v q => by rw [hd] at q; cases q⟩
  keep := fun i h h' st k => by
    obtain ⟨⟨old, he⟩, ⟨o, ho, r⟩, n1⟩ := st
    exact ⟨⟨old, k e (by simp) _ he⟩, ⟨o, k it (by simp) _ ho, r⟩, n1⟩
  item := by
    intro X hP hw hK hc i pins s σ H E I hf st hg
    subst hP hw hK
    obtain ⟨⟨old, he⟩, hit, n1⟩ := st
    have el : e < s.heap.objs.size := Heap.lt_size he
    have il : it < s.heap.objs.size := by obtain ⟨_, q, _⟩ := id hit; exact Heap.lt_size q
    refine wpAny_pyNext_enum_itemC (Draws.text (prog := X.prog) (w := X.w) (A := X.A.in1) (I.ok.hd hc) it x t) he hit hg n1 (by simp [n1]) fun y h' tk hy ho hst hT _ hk => ?_
    obtain ⟨c, u, hcx, rfl⟩ := hy
    refine ⟨_, rfl, wpAny_letOwnedTupleGo_enum (s := { s with heap := h', toks := tk + 1 }) ho fun h2 he2 sb => ?_⟩
    have hT2 : h2.get? s.heap.objs.size = some { cls := .type "tuple", data := .seq #[.int (k0 + (i : Int)) tk, .str ⟨#[c]⟩ u] } := (sb.2 _ (Nat.ne_of_gt el)).trans hT
    have new : ObjOk X.prog X.w (upd H s.heap.objs.size (.tup [.int (k0 + (i : Nat)), .str ⟨#[c]⟩])) h2 s.heap.objs.size (.tup [.int (k0 + (i : Nat)), .str ⟨#[c]⟩]) :=
      ⟨by show 2 ≤ sizeLine; decide, [.int (k0 + (i : Int)) tk, .str ⟨#[c]⟩ u], .cons ⟨_, rfl⟩ (.cons ⟨_, rfl⟩ .nil), ⟨_, hT2, rfl, _, rfl⟩⟩
    have I1 : Inv X pins σ (upd H s.heap.objs.size (.tup [.int (k0 + (i : Nat)), .str ⟨#[c]⟩])) { s with heap := h2, toks := tk + 1 } :=
      I.turnedNew (ch := [e, it]) (fun b ob hb q => (sb.2 b fun z => hb (by simp [z])).trans (hk b ob (fun z => hb (by simp [z])) (fun z => hb (by simp [z])) q)) hf (Nat.le_refl _) new
    refine ⟨.ref s.heap.objs.size, _, I1, rfl, ⟨_, c, rfl, I.hok.fresh (Nat.le_refl _), hcx, rfl⟩, ⟨⟨.str ⟨#[c]⟩ u, ?_⟩, ?_, n1⟩, fun b hb => ?_⟩
    · rw [show k0 + ((i + 1 : Nat) : Int) = k0 + (i : Int) + 1 by omega]
      exact he2
    · obtain ⟨o, ho', r⟩ := hst
      exact ⟨o, (sb.2 it (Ne.symm n1)).trans ho', r⟩
    · have lt : b < s.heap.objs.size := by
        rcases (by simpa using hb : b = e ∨ b = it) with rfl | rfl
        · exact el
        · exact il
      rw [upd_ne (Nat.ne_of_lt lt)]
      exact (hf b hb).1
  done := by
    intro X hP hw hK hc i pins s σ H E I hf st hg
    subst hP hw hK
    obtain ⟨⟨old, he⟩, hit, n1⟩ := st
    obtain ⟨f0, f1, f2, f3, f4, f5⟩ := hf it (by simp)
    have hg : x.cps.size = i := hg
    subst hg
    exact wpAny_pyNext_enum_endD (Draws.text (prog := X.prog) (w := X.w) (A := X.A.in1) (I.ok.hd hc) it x t) he hit fun h' eb => ⟨rfl, I.turned (t' := s.toks) (fun b o hb q => eb b o hb q) f0 f1 f3 f4 f5⟩
  self := fun A i s Q E st h => let ⟨_, he⟩ := st.en; wpAny_pyIter_enum he h
def iEnumS (ta : TA) (k0 : Int) : TI := fun σ H R => ta σ H fun vs H1 => ∃ x, vs = [.str x] ∧ R (IteS x k0) H1
theorem walk_enumS {x : Str} {k0 : Int} : Walk (IteS x k0) x.cps.size (fun _ => True) (YPair (fun i => some (.int (k0 + (i : Nat)))) (fun i => x.cps[i]?.map fun c => .str ⟨#[c]⟩)) := by
  refine ⟨fun i _ hi _ => hi, fun _ _ => rfl, fun i H v H' _ _ y => ?_⟩
  obtain ⟨T, c, k1, k2, k3, k4⟩ := y
  exact ⟨T, .int (k0 + (i : Nat)), .str ⟨#[c]⟩, k1, k2, k4, rfl, by show x.cps[i]?.map _ = _; rw [k3]; rfl⟩
theorem callWith_type_kw {M : Model} {A : Around} {E : Value → Shared → Prop} {s : Shared} {pos : Pos} {T : String} {args : List (Bool × Sem Value)} {kws : List (Option Str × Sem Value)} {Q : Value → Shared → Prop} (hplain : args.any (·.1) = false) (hkw : kws.any (·.1.isNone) = false)
    (h : wpAny M A (evalArgs (.type T) true args kws) (fun a s₁ => wpAny M A (call (.type T) a.pos a.kw) Q E s₁) E s) :
    wpAny M A (callWith pos (.type T) [] args kws) Q E s := by
  unfold callWith
  refine wpAny_bind (wpAny_holding (wpAny_mono h (fun a s₁ h₁ => wpAny_bind (wpAny_standAt ?_)) fun _ _ x => x))
  simp only [hplain, hkw, Bool.or_false]
  refine wpAny_bind (wpAny_pure ?_)
  exact wpAny_bind (wpAny_mono h₁ (fun r s₂ hr => wpAny_bind (wpAny_holding (wpAny_point (wpAny_pure hr)))) fun _ _ x => x)
theorem pi_enumS {X : Cx} {e : Expr} {ta : TA} {p pos tpos kp kp2 : Pos} {elts : List Expr} {kk jz : Nat} {k0 : Int} (hg : Gl X "enumerate") (hm : X.mg "enumerate" = none) (ha : PA X [e] ta) (h0 : -(2 ^ 63) ≤ k0 := by decide) (h1 : k0 < 2 ^ 63 := by decide)
    (st : starEach [e] X.env = (false, eval e X.env) :: starEach [] X.env := by rfl)
    (hall : (backToKw pos (keywordEach [⟨some "start", .Constant (.int k0) jz kp, kp2⟩] X.env)).all (·.1.isSome) = true := by rfl)
    (hkw : (backToKw pos (keywordEach [⟨some "start", .Constant (.int k0) jz kp, kp2⟩] X.env)).any (·.1.isNone) = false := by rfl)
    (hks : (backToKw pos (keywordEach [⟨some "start", .Constant (.int k0) jz kp, kp2⟩] X.env)).filterMap (·.1) = [("start" : Str)] := by rfl)
    (hpl : (backTo pos (starEach [e] X.env)).any (·.1) = false := by rfl)
    (hbt : backTo pos (starEach [e] X.env) = (false, eval e X.env) :: backTo pos (starEach [] X.env) := by rfl) :
    PI X (.Tuple elts kk tpos) (.Call (.Name "enumerate" p) [e] [⟨some "start", .Constant (.int k0) jz kp, kp2⟩] pos) (iEnumS ta k0) := by
  have hk : PK X [⟨some "start", .Constant (.int k0) jz kp, kp2⟩] (tCons (tC (.int k0)) tNil) := pk_cons pe_int pk_nil
  refine ⟨fun pins s σ H R I h => ?_⟩
  refine wpAny_Call_Name_kw (ld_blt I hg hm boot_enumerate ?_)
  refine callWith_type_kw hpl hkw ?_
  have run := ha.run pos pins s σ H _ I h
  rw [hbt] at run ⊢
  refine evalArgs_kwB hall (thn run fun us s1 ⟨vs, H1, I1, r1, x, ex, q1⟩ => ?_)
  subst ex
  obtain ⟨u, rfl, ru⟩ := vals1 r1
  obtain ⟨t, rfl⟩ := ru
  refine thn (hk.run pos pins s1 σ H1 (fun zs H2 => H2 = H1 ∧ zs = [.int k0]) I1 ⟨rfl, rfl⟩) fun ws s2 ⟨zs, H2, I2, rz, e1, e2⟩ => ?_
  subst e1 e2
  obtain ⟨u2, rfl, ru2⟩ := vals1 rz
  obtain ⟨t2, rfl⟩ := ru2
  rw [hks]
  show wpAny _ _ (call (.type "enumerate") [.str x t] [(Str.ofString "start", .int k0 t2)]) _ _ _
  refine enum_begins_start (begins_text x t) trivial h0 h1 fun h' he' ht _ hkk => wpAny_pyIter_enum he' ?_
  have I3 : Inv X pins σ H2 { s2 with heap := h' } := I2.kept (t' := s2.toks) hkk
  refine ⟨s2.heap.objs.size + 1, [s2.heap.objs.size + 1, s2.heap.objs.size], _, _, H2, rfl, I3, turn_enumS x t k0 (s2.heap.objs.size + 1) s2.heap.objs.size, ⟨⟨.none, ?_⟩, ⟨_, ht, rfl, rfl⟩, Nat.succ_ne_self _⟩, fun b hb => ?_, q1⟩
  · simpa using he'
  · have le : s2.heap.objs.size ≤ b := by
      rcases (by simpa using hb : b = s2.heap.objs.size + 1 ∨ b = s2.heap.objs.size) with z | z
      · rw [z]; exact Nat.le_add_right _ _
      · rw [z]; exact Nat.le_refl _
    exact I2.fpOk le (I2.hok.fresh le)
/-! ### x + y by an own __add__ -/
def rOwnB (C : Addr) (sp : Sp) (E : XK) : R2 := fun x y H Q => ∃ a b dx dy fs gs, x = .ref a ∧ y = .ref b ∧ H a = some (.ins C dx fs) ∧ H b = some (.ins C dy gs) ∧ sp [.ref a, .ref b] H Q E
theorem op_ownB {X : Cx} {CX : CXT} {C f : Addr} {n : Nat} {sp : Sp} {E : XK} {op : Operator} (F : FnR X.prog X.w X.K X.mg X.base CX n f sp) (hc : PySem.W.selfFirst X.K C = true)
    (hs : PySem.W.findIn X.K (.ref C) (PySem.dunder op.info.2) = some (some (.ref f))) (hf : PySem.W.isFn X.K (.ref f) = true) (hx : Passes CX X E) (hr : Room n X.A) : OpR X (binaryOp op) (rOwnB C sp E) := by
  intro pins s σ H x y v u Q I rx ry hq
  obtain ⟨a, b, dx, dy, fs, gs, rfl, rfl, ha, hb, h⟩ := hq
  cases rx
  cases ry
  obtain ⟨mA, J, _⟩ := ins_get I.hok ha
  obtain ⟨mB, J', _⟩ := ins_get I.hok hb
  obtain ⟨od, J, _⟩ := J.look
  obtain ⟨od', J', _⟩ := J'.look
  obtain ⟨m, hF⟩ := I.fr
  refine PySem.W.binop_K (op := op) hF I.ok.mod.kin J J'.type hc hs hf ?_
  have r2 : Vals [V.ref a, V.ref b] [Value.ref a, Value.ref b] := .cons rfl (.cons rfl .nil)
  refine wpAny_call (codeAny_mono (run_fnR F hr hx I r2 h) fun r s' z => ?_)
  cases r with
  | error e => exact z
  | ok fl =>
    cases fl with
    | ret w =>
      obtain ⟨v, H1, I1, rv, q⟩ := z
      show PySem.W.CmpBack _ w s'
      cases w with
      | notImplemented => cases v <;> first | (cases rv; done) | (obtain ⟨_, z⟩ := rv; cases z)
      | _ => exact ⟨v, H1, I1, rv, q⟩
    | next => exact z.elim
    | brk => exact z.elim
    | cont => exact z.elim
end VX

set_option Elab.async false
set_option linter.all false
set_option maxRecDepth 100000
set_option maxHeartbeats 4000000
/-! # a def whose body gives out a token; a Hook with one more Bool, classmethods -/
namespace VX
open PySem PySem.Spec PyProof.Rows L2 CwR
section
variable {P : Program} {w : World} {K : PySem.W.Frag} {mg : Str → Option Value} {base : Heap} {x qual : Str} {params : Arguments} {body : List Stmt} {scope : Scope} {dvs : List V} {kws : List (Str × V)} {f : Addr} {fd : FuncData}
theorem okT {CX : CXT} {N ps : List Str} {k : Nat} {sp : Sp} (F : FunD K x qual params body scope dvs kws f fd) (S : FnScope N ps scope) (hnc : ∀ y ∈ scope.names, y.2 ≠ .cell) (hps : 1 ≤ ps.length) (len : ∀ vs H Q E, sp vs H Q E → vs.length = ps.length)
    (hbody : ∀ (cdv : Value) (A : Around) (outer : List Env) (s : Shared) (H : Hp) (vs : List V) (Q : VK) (E : XK), Room k (A.deeper (envOfC qual scope s.heap.objs.size f cdv)) → sp vs H Q E →
      ∃ t, PSsT (cxOf CX P w K mg base N qual scope f cdv A outer s H E) body t ∧ t { nx := fun _ H' => Q .non H', rt := Q } (start N vs) H) : FnOk P w K mg base CX (k + 1) f fd ps sp := by
  obtain ⟨oc, od, dV, kV, doc, pm, an, cdv, ct, osl, rfl, lk, hcd, _, _⟩ := F.ex
  exact fn_ofT lk hcd S hnc hps len fun A outer s H vs Q E hr hsp => hbody cdv A outer s H vs Q E hr hsp
end
section
variable {X : Cx} {CX : CXT} {k : Nat} {f C : Addr} {fd : FuncData} {ps : List Str} {sp : Sp} {dvs : List V} {ds : List Value} {E : XK} {x m : Str} {p pos apos : Pos} {e o : Expr} {es : List Expr} {ta : TE} {t : TA} {te : TE}
theorem pet_call (F : FnOk X.prog X.w X.K X.mg X.base CX k f fd ps sp) (hr : Room k X.A) (hg : Gl X x) (hm : X.mg x = some (.ref f)) (hk : PySem.W.keepIn X.K (.ref f) = true) (hb : Binds X.K fd ps ds) (hd : Vals dvs ds) (hx : Passes CX X E)
    (ha : PAT X (e :: es) t) (hdb : (x == ("__debug__" : Str)) = false := by decide) (he : starEach (e :: es) X.env = (false, eval e X.env) :: starEach es X.env := by rfl) (hpl : (backTo pos (starEach es X.env)).any (·.1) = false := by rfl) :
    PET X (.Call (.Name x p) (e :: es) [] pos) (tCall sp dvs E t) := by
  intro pins s σ H Q h0 I h
  refine wpAny_Call_Name_kw (ld_glob I hg hm ?_ hdb)
  refine PySem.W.callWith_K (h₀ := X.base) I.ok.mod.kin hk (thn (ha pos pins s σ H _ h0 I h) fun us s1 ⟨vs, H1, I1, r, q⟩ => ⟨I1.kIn, ?_⟩) he hpl
  exact run_fn F hr hb hd hx I1 r q
theorem pst_asg {tg : Expr} {g : TG} (he : PET X e te) (hg : PG X tg g) (hs : swapsWithSole [tg] e pos.line X.env = pure false := by rfl) (hw : swappedStores [tg] e X.env = pure none := by rfl)
    (h1 : (assignEach [tg] X.env).map (·.2) = [assign tg X.env] := by rfl) : PST X (.Assign [tg] e pos) (tAsg te g) := by
  intro pins s σ H D h0 I h
  refine wpAny_Assign_stores (thn (he pins s σ H _ h0 I h) fun v s1 ⟨x, H1, I1, r1, q1⟩ => ?_) hs hw
  rw [h1]
  exact thn (hg.run pins s1 σ H1 x v _ I1 r1 q1) fun _ s2 q => q
end
/-! ### a Hook -/
open He5 in
def hookMA (n : Nat) (fa : List He.Fa) (fn : List DefA) (ex : PySem.W.Frag → Bool) : PySem.W.Hook where
  α := He.AlD × Bool
  obs := fun s => (obsA fa fn (He.frG s.heap.get? (asA s.heap.get? n)), ex (He.frG s.heap.get? (asA s.heap.get? n)))
  val := fun _ => (valA fn, true)
  says := fun _ h => ∃ K : PySem.W.Frag, K.In h ∧ SaysA fa fn K ∧ ex K = true
  of := fun _ _ e => ⟨_, He.frG_in, congrArg (fun z : He.AlD × Bool => z.1) e, congrArg (fun z : He.AlD × Bool => z.2) e⟩
  keeps := fun _ _ _ ⟨K, hK, c⟩ k => ⟨K, PySem.W.Frag.In.keeps hK k, c⟩
open He5 in
def obsMA (n : Nat) (fa : List He.Fa) (fn : List DefA) (ex : PySem.W.Frag → Bool) (g : Addr → Option Obj) : He.AlD × Bool := (fun K => (obsA fa fn K, ex K)) (He.frG g (asA g n))
theorem obsMA_eq {n : Nat} {fa : List He.Fa} {fn : List He5.DefA} {ex : PySem.W.Frag → Bool} {g : Addr → Option Obj} {s : Shared} (h : ∀ a, g a = s.heap.get? a) : obsMA n fa fn ex g = (hookMA n fa fn ex).obs s := by
  have e : g = s.heap.get? := funext h
  rw [e] <;> rfl
/-! ### an error's class, as Bools of the written part -/
def clsB (K : PySem.W.Frag) (C : Addr) : Bool := match K.lookup C with
  | some ⟨.type "type", _, .cls cd, sl⟩ => (match cd.mro, sl.toList with
    | .ref D :: bm, [_, _, _, _, some (.builtin n), _] => D == C && (n == "ValueError.__new__" && (!cd.hasDel && (cd.hasDict && PySem.HandSPX.refsVE bm)))
    | _, _ => false)
  | _ => false
theorem clsB_ok {K : PySem.W.Frag} {C : Addr} (h : clsB K C = true) : ∃ nm q N bs bm sn sub ab col dd k0 k1 k2 k3 k5, K.lookup C = some (excClassObj nm q C N bs bm true sn sub ab col dd k0 k1 k2 k3 k5 "ValueError.__new__") ∧ PySem.HandSPX.refsVE bm = true := by
  unfold clsB at h
  split at h
  · rename_i dd cd sl ho
    split at h
    · rename_i D bm k0 k1 k2 k3 n k5 hm hs
      simp only [Bool.and_eq_true, beq_iff_eq, Bool.not_eq_true'] at h
      obtain ⟨rfl, rfl, hdel, hdc, hv⟩ := h
      obtain ⟨nm, bs, mro, ns, qn, hd, sn, sub, ab, col, del⟩ := cd
      dsimp only at hm hdel hdc
      subst hm hdel hdc
      have hsl : sl = #[k0, k1, k2, k3, some (.builtin "ValueError.__new__"), k5] := by
        obtain ⟨l⟩ := sl
        simp only at hs
        rw [hs]
      subst hsl
      exact ⟨nm, qn, ns, bs, bm, sn, sub, ab, col, dd, k0, k1, k2, k3, k5, ho, hv⟩
    · cases h
  · cases h
/-- of every error's class -/
def exB (K : PySem.W.Frag) (C : Addr) : Bool := He.eqO (PySem.W.findIn K (.ref C) "__getattribute__") (some (some (.builtin "BaseException.__getattribute__"))) && (He.eqO (PySem.W.findIn K (.ref C) "__getattr__") (some none) && (decide (PySem.W.subIn K (.ref C) (.type "BaseException") = some true) && (PySem.W.hasDictIn K C &&
  (He.eqO (PySem.W.findIn K (.ref C) "__class__") (some (some (.builtin "object.__class__"))) && (He.eqO (PySem.W.specialIn K (.builtin "object.__class__") "__get__") (some (some (.builtin "getset_descriptor.__get__"))) && (decide (PySem.W.takesIn K (.builtin "object.__class__") = some true) && (decide (PySem.W.mroIn K C (.type "object") = some true) &&
  (decide (PySem.W.typeIn K (.ref C) = some (.type "type")) && PySem.W.keepIn K (.ref C)))))))))
structure ExF (K : PySem.W.Frag) (C : Addr) : Prop where
  xf : XfC K C
  xc : ExcC K C
  ty : PySem.W.typeIn K (.ref C) = some (.type "type")
  kp : PySem.W.keepIn K (.ref C) = true
theorem exB_ok {K : PySem.W.Frag} {C : Addr} (h : exB K C = true) : ExF K C := by
  obtain ⟨h1, h⟩ := He.ba h
  obtain ⟨h2, h⟩ := He.ba h
  obtain ⟨h3, h⟩ := He.ba h
  obtain ⟨h4, h⟩ := He.ba h
  obtain ⟨h5, h⟩ := He.ba h
  obtain ⟨h6, h⟩ := He.ba h
  obtain ⟨h7, h⟩ := He.ba h
  obtain ⟨h8, h⟩ := He.ba h
  obtain ⟨h9, h10⟩ := He.ba h
  have e3 := of_decide_eq_true h3
  exact ⟨⟨He.eqO_ok h1, He.eqO_ok h2, e3, h4⟩, ⟨He.eqO_ok h1, He.eqO_ok h2, e3, h4, He.eqO_ok h5, He.eqO_ok h6, of_decide_eq_true h7, of_decide_eq_true h8⟩, of_decide_eq_true h9, h10⟩
/-- of one with an __init__ of its own that stores the field f -/
def inB (K : PySem.W.Frag) (C : Addr) (f : Str) : Bool := clsB K C && (He.eqO (PySem.W.findIn K (.ref C) "__setattr__") (some (some (.builtin "object.__setattr__"))) && (He.eqO (PySem.W.findIn K (.ref C) f) (some none) &&
  (He.eqO (PySem.W.findIn K (.ref C) "__init__") (some (some (.ref (He.ma K C "__init__")))) && decide (PySem.W.typeIn K (.ref (He.ma K C "__init__")) = some (.type "function")))))
structure InF (K : PySem.W.Frag) (C : Addr) (f : Str) : Prop where
  oe : OexC K C
  no : PySem.W.findIn K (.ref C) f = some none
  ini : PySem.W.findIn K (.ref C) "__init__" = some (some (.ref (He.ma K C "__init__")))
  fn : PySem.W.typeIn K (.ref (He.ma K C "__init__")) = some (.type "function")
theorem inB_ok {K : PySem.W.Frag} {C : Addr} {f : Str} (x : ExF K C) (h : inB K C f = true) : InF K C f := by
  obtain ⟨h1, h⟩ := He.ba h
  obtain ⟨h2, h⟩ := He.ba h
  obtain ⟨h3, h⟩ := He.ba h
  obtain ⟨h4, h5⟩ := He.ba h
  exact ⟨⟨clsB_ok h1, He.eqO_ok h2, x.xf.exC, x.ty, x.kp⟩, He.eqO_ok h3, He.eqO_ok h4, of_decide_eq_true h5⟩
/-! ### short facts -/
theorem same_new {H : Hp} {a : Addr} {o : HO} (h : H a = none) : Same H (upd H a o) := fun c u e => by
  rw [upd_ne (ne_of_none e h)]
  exact e
theorem same_two {H : Hp} {a b : Addr} {o u : HO} (ha : H a = none) (hb : upd H a o b = none) : Same H (upd (upd H a o) b u) := fun c z e => by
  have k : upd H a o c = some z := by rw [upd_ne (ne_of_none e ha)]; exact e
  rw [upd_ne (ne_of_none k hb)]
  exact k
theorem none_of {H : Hp} {a b : Addr} {o : HO} (hb : upd H a o b = none) : H b = none := by
  by_cases e : b = a
  · rw [e, upd_same] at hb; cases hb
  · rwa [upd_ne e] at hb
def Kept (b : Addr) (H H' : Hp) : Prop := ∀ c o, H c = some o → c ≠ b → H' c = some o
theorem kept_box {H : Hp} {b : Addr} {o : HO} : Kept b H (upd H b o) := fun c u e n => by
  rw [upd_ne n]
  exact e
theorem Kept.of {H H' : Hp} {b : Addr} (k : Same H H') : Kept b H H' := fun c o e _ => k c o e
theorem Kept.trans {H H' H'' : Hp} {b : Addr} (k : Kept b H H') (q : Kept b H' H'') : Kept b H H'' := fun c o e n => q c o (k c o e n) n
theorem lt_line {n : Nat} (h : n ≤ 100000) : n < sizeLine := Nat.lt_of_le_of_lt h (by decide)
/-! ### an error's __init__ -/
def spIni (K : PySem.W.Frag) (C : Addr) (g : Str) : Sp := fun vs H Q _ => ∃ (a : Addr) (v : V), vs = [.ref a, v] ∧ H a = some (exo a C none) ∧ ∀ dx, H dx = none → dx ≠ a → Q .non (upd (upd H dx (exd dx [(g, v)])) a (exo a C (some dx)))
section
variable {P : Program} {w : World} {K : PySem.W.Frag} {mg : Str → Option Value} {base : Heap} {f : Addr} {fd : FuncData}
theorem ok_ini {x g qual : Str} {pa : Arguments} {bd : List Stmt} {sc : Scope} {C : Addr} {q1 q2 q3 q4 : Pos} (F : FunD K x qual pa bd sc [] [] f fd) (S : FnScope ["self", g] ["self", g] sc) (hb : bd = [.Assign [.Attribute (.Name "self" q1) g q2] (.Name g q3) q4]) (I : InF K C g)
    (hd : (g == ("__debug__" : Str)) = false) (hc : (g == ("__classdict__" : Str)) = false) : FnOk P w K mg base CX0 1 f fd ["self", g] (spIni K C g) := by
  subst hb
  refine F.ok S (fun vs H Q E h => ?_) (fun cdv A outer s H vs Q E hr h => ?_)
  · obtain ⟨a, v, rfl, _⟩ := h
    rfl
  · obtain ⟨a, v, rfl, ha, k⟩ := h
    refine ⟨_, PSs.nox (pss_one (ps_ost (pe_var (i := 0) rfl (vis_par S (x := "self") (.head _))) (pe_var (i := 1) rfl (vis_par S (.tail _ (.head _))) hd hc))), ?_⟩
    exact ⟨_, rfl, _, rfl, a, C, rfl, I.oe, I.no, .inl ⟨ha, k⟩⟩
/-- an error's __init__: its promise, its arguments by place -/
def IniOk (P : Program) (w : World) (K : PySem.W.Frag) (mg : Str → Option Value) (base : Heap) (x g : Str) : Prop := ∃ fd, FnOk P w K mg base CX0 1 (He.ma K (He.ga K x) "__init__") fd ["self", g] (spIni K (He.ga K x) g) ∧ Binds K fd ["self", g] []
end
/-! ### the draws' box -/
/-- the box, of which at most N numbers were mixed -/
def BoxK (H : Hp) (b : Addr) (N : Nat) : Prop := ∃ x y z : Int, H b = some (.lst [.int x, .int y, .int z]) ∧ 0 ≤ x ∧ 0 ≤ y ∧ y ≤ N ∧ 0 ≤ z ∧ z ≤ 100000000
theorem Kept.refl {b : Addr} {H : Hp} : Kept b H H := fun _ _ h _ => h
theorem BoxK.same {H H' : Hp} {b : Addr} {N : Nat} (s : Same H H') (h : BoxK H b N) : BoxK H' b N := by
  obtain ⟨x, y, z, hb, r⟩ := h
  exact ⟨x, y, z, s _ _ hb, r⟩
theorem BoxK.at {H : Hp} {b : Addr} {N : Nat} (h : BoxK H b N) : ∃ xs, H b = some (.lst xs) := let ⟨_, _, _, hb, _⟩ := h; ⟨_, hb⟩
theorem BoxK.mono {H : Hp} {b : Addr} {N M : Nat} (h : BoxK H b N) (l : N ≤ M) : BoxK H b M := by
  obtain ⟨x, y, z, hb, x0, y0, yN, r⟩ := h
  exact ⟨x, y, z, hb, x0, y0, by omega, r⟩
def spTake : Sp := fun vs H Q _ => ∃ (b : Addr) (m x y z : Int), vs = [.ref b, .int m] ∧ H b = some (.lst [.int x, .int y, .int z]) ∧ 0 ≤ x ∧ 0 ≤ y ∧ y ≤ 1000000 ∧ 0 ≤ z ∧ z ≤ 100000000 ∧ 0 < m ∧ m ≤ 1000000000 ∧
  ∀ d x' y', 0 ≤ d → d < m → 0 ≤ x' → x' ≤ x → y ≤ y' → y' ≤ y + 1 → Q (.int d) (upd H b (.lst [.int x', .int y', .int z]))
theorem take_use {H : Hp} {b : Addr} {N : Nat} {m : Int} {Q : VK} {E : XK} (h : BoxK H b N) (hN : N ≤ 900000) (m0 : 0 < m) (m1 : m ≤ 1000000000)
    (k : ∀ d H', 0 ≤ d → d < m → Kept b H H' → BoxK H' b (N + 1) → (∀ c, H c = none → H' c = none) → Q (.int d) H') : spTake [.ref b, .int m] H Q E := by
  obtain ⟨x, y, z, hb, x0, y0, yN, z0, z1⟩ := h
  refine ⟨b, m, x, y, z, rfl, hb, x0, y0, by omega, z0, z1, m0, m1, fun d x' y' d0 d1 x0' x1' y1 y2 => k d _ d0 d1 (fun c o q ne => by rw [upd_ne ne]; exact q) ⟨x', y', z, upd_same, x0', by omega, by omega, z0, z1⟩ fun c hc => ?_⟩
  rw [upd_ne (fun e => by rw [e, hb] at hc; cases hc)]
  exact hc
theorem pw_ok {i : Int} (h0 : 0 ≤ i) (h1 : i < 2 ^ 90) : CPw i 3 := by
  refine ⟨by decide, ?_⟩
  have h : Builtin.Int.intBits i ≤ 90 := intBits_le (by omega)
  have h2 : (Builtin.Int.intBits i : Int) ≤ 90 := by exact_mod_cast h
  omega
def spBox (K : PySem.W.Frag) : Sp := fun vs H Q _ => ∃ (l : Addr) (ns : List Int) (j : Nat), vs = [.ref l, .int j] ∧ SqL K H l (ns.map V.int) ∧ j ≤ 100 ∧ ∀ p H', H p = none → Same H H' → BoxK H' p 0 → Q (.ref p) H'
theorem atI_ex {xs : List V} {d : Int} (h0 : 0 ≤ d) (h1 : d < xs.length) : ∃ v, atI xs d = some v ∧ v ∈ xs := by
  have hl : d.toNat < xs.length := by omega
  refine ⟨xs[d.toNat], ?_, List.getElem_mem hl⟩
  have e : ((d.toNat : Nat) : Int) = d := Int.toNat_of_nonneg h0
  have q := atI_nat (xs := xs) (j := d.toNat) (List.getElem?_eq_getElem hl)
  rwa [e] at q
/-- the heap behind an error's making -/
theorem raise_heap {H : Hp} {a d C : Addr} {g : Str} {v : V} (ha : H a = none) (hd : d ≠ a) : upd (del (upd (upd (upd H a (exo a C none)) d (exd d [(g, v)])) a (exo a C (some d))) a) d (.xd [(g, v)]) = upd H d (.xd [(g, v)]) := by
  funext b
  by_cases hb : b = d
  · rw [hb, upd_same, upd_same]
  · rw [upd_ne hb, upd_ne hb]
    by_cases hba : b = a
    · rw [hba, del_same, ha]
    · rw [del_ne hba, upd_ne hba, upd_ne hb, upd_ne hba]
/-- what C(v) asks, C of one field -/
theorem make_read {K : PySem.W.Frag} {C : Addr} {g : Str} {v : V} {H : Hp} {X : XK} (k : ∀ d, H d = none → X (.ref C) (some d) (upd H d (.xd [(g, v)]))) (a : Addr) (ha : H a = none) :
    spIni K C g [.ref a, v] (upd H a (exo a C none)) (fun u H2 => u = .non ∧ ∃ (d : Addr) (fs : List (Str × V)), H2 a = some (exo a C (some d)) ∧ H2 d = some (exd d fs) ∧ H d = none ∧ X (.ref C) (some d) (upd (del H2 a) d (.xd fs))) (fun _ _ _ => False) := by
  refine ⟨a, v, rfl, upd_same, fun d hd ne => ⟨rfl, d, [(g, v)], upd_same, ?_, ?_, ?_⟩⟩
  · rw [upd_ne ne, upd_same]
  · rwa [upd_ne ne] at hd
  · rw [raise_heap ha ne]
    rw [upd_ne ne] at hd
    exact k d hd
end VX

set_option Elab.async false
set_option linter.all false
set_option maxRecDepth 100000
set_option maxHeartbeats 4000000
/-! # C.m(..) of a classmethod within a try -/
namespace VX
open PySem PySem.Spec PyProof.Rows L2 ClX
section
variable {X : Cx} {pins : List (Addr × Obj)} {σ : L2.St} {H : Hp} {s : Shared}
theorem run_fnRS {CX : CXT} {k : Nat} {f : Addr} {sp : Sp} {E : XK} {Q : VK} {us : List Value} {vs : List V} (F : FnR X.prog X.w X.K X.mg X.base CX k f sp) (hr : Room k X.A) (hx : PassesAt CX X σ E) (I : L2.Inv X pins σ H s) (r : Vals vs us) (h : sp vs H Q E) :
    codeAny (model X.prog X.w) X.A (.call (.ref f) ⟨us, []⟩) (fun r s' => match r with | .ok (.ret v) => EP X pins σ Q v s' | .ok _ => False | .error e => X.xe e s') s := by
  refine codeAny_mono (F X.A X.stack s H us vs Q E hr I.env0 r h) fun r s' hq => ?_
  cases r with
  | error e => exact hx pins H s e s' I hq
  | ok fl =>
    cases fl with
    | ret u => exact I.after hq
    | next => exact False.elim hq
    | brk => exact False.elim hq
    | cont => exact False.elim hq
theorem run_cmS {CX : CXT} {k : Nat} {C g q : Addr} {sp : Sp} {E : XK} {Q : VK} {us : List Value} {vs : List V} (F : FnR X.prog X.w X.K X.mg X.base CX k g sp) (hr : Room k X.A) (hx : PassesAt CX X σ E) (I : L2.Inv X ((q, PySem.W.methodObj (.ref g) (.ref C)) :: pins) σ H s)
    (r : Vals vs us) (h : sp (.ref C :: vs) H Q E) : wpAny (model X.prog X.w) X.A (call (.ref q) us) (EP X pins σ Q) X.xe s := by
  have z : wpAny (model X.prog X.w) X.A (call (.ref q) us) (EP X ((q, PySem.W.methodObj (.ref g) (.ref C)) :: pins) σ Q) X.xe s :=
    wpAny_call (PySem.W.method_call (pin_at I) (run_fnRS (us := .ref C :: us) (vs := .ref C :: vs) F hr hx I (.cons rfl r) h))
  exact thn z fun _ _ y => unpinE y
end
def tCMethS (C : Addr) (sp : Sp) (E : L2.St → XK) (ta : TE) (t : TA) : TE := fun σ H Q => ta σ H fun x H1 => x = .ref C ∧ t σ H1 fun vs H2 => sp (.ref C :: vs) H2 Q (E σ)
theorem pe_cmethS {X : Cx} {CX : CXT} {k : Nat} {C p g : Addr} {mc : Value} {sp : Sp} {E : L2.St → XK} {o e : Expr} {es : List Expr} {m : Str} {pos apos : Pos} {ta : TE} {t : TA} {pl : Sem Bool} (he : PE X o ta) (r : CRead X.K C mc) (c : CMet X.K C mc m p g) (F : FnR X.prog X.w X.K X.mg X.base CX k g sp) (hr : Room k X.A) (hx : ∀ σ, PassesAt CX X σ (E σ)) (ha : PA X (e :: es) t)
    (hst : starEach (e :: es) X.env = (false, eval e X.env) :: starEach es X.env := by rfl) (hpl : (backTo pos (starEach es X.env)).any (·.1) = false := by rfl)
    (ht : eval (.Call (.Attribute o m apos) (e :: es) [] pos) X.env = (do
      let ov ← eval o X.env
      standAt apos.atName
      let (f, first) ← holding [ov] (getMethod ov m pl)
      callWith pos f first (backTo pos (starEach (e :: es) X.env)) (backToKw pos (keywordEach [] X.env))) := by rfl) :
    PE X (.Call (.Attribute o m apos) (e :: es) [] pos) (tCMethS C sp E ta t) := by
  refine ⟨fun pins s σ H Q I h => ?_⟩
  refine PySem.W.methodCall_KW (pl := pl) (thn (he.run pins s σ H _ I h) fun u s1 ⟨x, H1, I1, rx, ex, q⟩ => ?_) ht
  subst ex
  obtain rfl : u = Value.ref C := rx
  refine getmethcm_ok I1 r c fun s2 I2 => ?_
  refine callwith_cm I2 (base_none I1 (Nat.le_refl _)) c.fi (thn (ha.run pos _ s2 σ H1 _ I2 q) fun us s3 ⟨vs, H2, I3, rv, q2⟩ => ⟨⟨pin_at I3, I3.kIn⟩, ?_⟩) hst hpl
  exact run_cmS F hr (hx σ) I3 rv q2
theorem yes_if {σ : L2.St} {H : Hp} {A B : Hp → Prop} (h : A H) : tYes σ H fun b H3 => if b = true then A H3 else B H3 := by
  show if true = true then A H else B H
  rw [if_pos rfl]
  exact h
theorem no_if {σ : L2.St} {H : Hp} {A : Hp → Prop} (h : A H) : tYes σ H fun b H3 => b = true → A H3 := fun _ => h
/-- a list that grows outside of what stood -/
theorem Same.grow {H H3 : Hp} {D : Addr} {o : HO} (s : Same H H3) (hD : H D = none) : Same H (upd H3 D o) := fun b u q => by
  rw [upd_ne (ne_of_none q hD)]
  exact s b u q
theorem take_more {α β : Type} {g : α → β} {xs : List α} {i : Nat} {x : α} (h : xs[i]? = some x) : (xs.take (i + 1)).map g = (xs.take i).map g ++ [g x] := by
  rw [List.take_succ, h, List.map_append]
  rfl
theorem take_one {α : Type} {xs : List α} {i : Nat} {x : α} (h : xs[i]? = some x) : xs.take (i + 1) = xs.take i ++ [x] := by
  rw [List.take_succ, h]
  rfl
/-! ### a text times an int; an item of a displayed list, drawn -/
theorem op_mulS {X : Cx} : OpR X (binaryOp .Mult) (fun x y H Q => ∃ a n, x = .str a ∧ y = .int n ∧ a.length ≤ 1000 ∧ 0 ≤ n ∧ n ≤ 1000 ∧ Q (.str (Txt.mul a n)) H) := by
  intro pins s σ H x y v u Q I rx ry h
  obtain ⟨a, n, rfl, rfl, ha, h0, h1, q⟩ := h
  obtain ⟨t, rfl⟩ := rx
  obtain ⟨t', rfl⟩ := ry
  have hp : (a.length : Int) * n ≤ 1000000 := by
    have := Int.mul_le_mul (show (a.length : Int) ≤ 1000 by omega) h1 h0 (by decide)
    omega
  refine SB.mul ⟨?_, fun h2 _ h3 => ?_, fun h2 _ => ?_⟩ fun t' k => ⟨.str (Txt.mul a n), H, I.tok _, ⟨t', rfl⟩, q⟩
  · rw [decide_eq_false (by omega), decide_eq_false (by omega)]; rfl
  · have h5 : (1000 : Int) ≤ (2 ^ 63 - 1) / n := by
      rw [Int.le_ediv_iff_mul_le (by omega)]
      omega
    omega
  · have h6 : a.length * n.toNat ≤ 1000000 := by
      have e : ((a.length * n.toNat : Nat) : Int) = (a.length : Int) * n := by rw [Int.natCast_mul, Int.toNat_of_nonneg h0]
      omega
    have h7 : (1000000 : Nat) ≤ sizeLine := by decide
    exact decide_eq_false (by show ¬ a.length * n.toNat > sizeLine; omega)
theorem pick_use {K : PySem.W.Frag} {H : Hp} {b l0 : Addr} {N : Nat} {m : Int} {vs : List V} {Q : VK} {E : XK} (h : BoxK H b N) (hl : H l0 = none) (hN : N ≤ 900000) (hm : (vs.length : Int) = m) (m0 : 0 < m) (m1 : m ≤ 1000)
    (k : ∀ v H', v ∈ vs → Kept b H H' → BoxK H' b (N + 1) → Q v H') : spTake [.ref b, .int m] (upd H l0 (.lst vs)) (fun y H2 => rIxL K (.ref l0) y H2 Q) E := by
  have n0 : l0 ≠ b := fun e => by obtain ⟨xs, hx⟩ := h.at; rw [e, hx] at hl; cases hl
  refine take_use (h.same (same_new hl)) hN m0 (by omega) fun d H1 d0 d1 kp bx _ => ?_
  obtain ⟨v, hv, hm⟩ := atI_ex (xs := vs) d0 (by omega)
  exact ⟨l0, vs, d, v, rfl, rfl, SqL.of (kp _ _ upd_same n0), hv, k v H1 hm ((Kept.of (same_new hl)).trans kp) bx⟩
end VX

set_option Elab.async false
set_option linter.all false
set_option maxRecDepth 100000
set_option maxHeartbeats 4000000
/-! several except clauses, each «as n», one name -/
namespace VX
open PySem PySem.Spec PyProof.Rows L2
/-- what the clauses wish of an exception of the body, from the first on; the name in slot i is empty behind a suite -/
def wNamed (K : PySem.W.Frag) (i : Nat) (Wout : WX) (D : Ends) : List (Value × (Addr → Value → Option Addr → TS)) → WX
  | [] => Wout
  | (c, ts) :: r => fun cls d σ H => ∃ b, PySem.W.exmOne K cls c = some b ∧ (b = true → ∀ a, H a = none →
      ts a cls d { nx := fun σ' H' => D.nx (σ'.set i none) H', rt := D.rt, bk := fun σ' H' => D.bk (σ'.set i none) H', ct := fun σ' H' => D.ct (σ'.set i none) H' } (σ.set i (some (.ref a))) H) ∧ (b = false → wNamed K i Wout D r cls d σ H)
inductive Clauses (X : Cx) (n : Str) : List ExceptHandler → List (Value × (Addr → Value → Option Addr → TS)) → Prop
  | nil : Clauses X n [] []
  | cons {x : Str} {c : Value} {ts : Addr → Value → Option Addr → TS} {b₀ : Stmt} {su : List Stmt} {p1 p2 : Pos} {hs : List ExceptHandler} {l : List (Value × (Addr → Value → Option Addr → TS))} (hc : Names X x c)
      (hsu : ∀ (a : Addr) (oe : Obj) (cls : Value) (d : Option Addr) (pn : List (Addr × Obj)), Zc cls d oe → (∃ vs, oe.data = .fields vs) → PSs (X.suite a ((a, oe) :: pn)) (b₀ :: su) (ts a cls d)) (r : Clauses X n hs l) :
      Clauses X n (.ExceptHandler (some (.Name x p1)) (some n) (b₀ :: su) p2 :: hs) ((c, ts) :: l)
theorem ps_try_named {X : Cx} {n : Str} {i : Nat} {body : List Stmt} {h₀ : ExceptHandler} {hds : List ExceptHandler} {l : List (Value × (Addr → Value → Option Addr → TS))} {pos : Pos} {tb : WX → TS} {Wout : WX}
    (hs : X.stack = X.env :: X.outer) (hf : X.env.frame = some X.env.locals) (hN : X.N.Nodup) (hi : X.N[i]? = some n) (hln : X.env.kindOf n = some .local) (tk : Takes X Wout)
    (hb : ∀ (W : WX) (pn : List (Addr × Obj)) (xe : Value → Shared → Prop), Takes (X.tr pn xe) W → PassesOwn (model X.prog X.w) X.A X.env xe → PSs (X.tr pn xe) body (tb W)) (hh : Clauses X n (h₀ :: hds) l) :
    PS X (.Try body (h₀ :: hds) [] [] pos) (fun D σ H => tb (wNamed X.K i Wout D l) D σ H) := by
  refine ⟨fun pins s σ H D I h => wpAny_Try_except ?_⟩
  have ok := I.ok
  have fr : X.A.frames = some (X.env :: X.outer) := by rw [ok.frames, hs]
  have lc : Loc X.env.scope n := .inl hln
  refine wpAny_mono ((hb (wNamed X.K i Wout D l) (X.pn ++ pins) (fun e t1 => wpAny (model X.prog X.w) X.A (noteFrame e X.env) (fun _ t2 => wpAny (model X.prog X.w) X.A (setFlight e none) (fun _ t3 =>
    wpAny (model X.prog X.w) X.A (handleBy e X.env (h₀ :: hds)) (SP X pins D) X.xe t3) X.xe t2) X.xe t1) (fun u s' xx => ?caught) PassesOwn.looking).run [] s σ H D (I.toTry _) h) (fun f s1 q => ?through) (fun _ _ z => z)
  case through =>
    cases f with
    | next => obtain ⟨σ', H', J, q⟩ := q; exact wpAny_execs_nil ⟨σ', H', J.ofTry ok, q⟩
    | brk => obtain ⟨σ', H', J, q⟩ := q; exact ⟨σ', H', J.ofTry ok, q⟩
    | cont => obtain ⟨σ', H', J, q⟩ := q; exact ⟨σ', H', J.ofTry ok, q⟩
    | ret u => obtain ⟨v, σ', H', J, r, q⟩ := q; exact ⟨v, σ', H', J.ofTry ok, r, q⟩
  case caught =>
    obtain ⟨a, B, sI, ps', σ', H', cls, d, rfl, J', nb, up, sky, na, os, ag, w⟩ := xx
    have J : L2.Inv X pins σ' H' sI := J'.ofTry ok
    have sk : Sky B (X.env :: X.outer) a (Zc cls d) X.env.locals s'.heap := by rw [← hs]; exact sky
    show wpAny (model X.prog X.w) X.A (noteFrame (.ref a) X.env) _ _ _
    refine Sky.land Zc.steady fr hf sk fun h3 fl3 up3 => ?_
    have J3 : L2.Inv X pins σ' H' { s' with heap := h3 } := J.landed nb fl3.1 (up.trans up3) os ag
    obtain ⟨oe, vs, he, hz, hd⟩ := fl3.there
    have nfr : a ∉ frs (X.env :: X.outer) := fun hm => by
      obtain ⟨_, o', e', hnf⟩ := fl3.2.2.1.mem hm
      rw [he] at e'
      cases e'
      exact hnf _ hd
    have nL : a ≠ X.env.locals := fun z => nfr (List.mem_filterMap.mpr ⟨X.env, .head _, by rw [hf, z]⟩)
    have nF : a ∉ X.fs := fun hm => by
      obtain ⟨e, m, q⟩ := List.mem_filterMap.mp hm
      exact nfr (List.mem_filterMap.mpr ⟨e, .tail _ m, q⟩)
    have S3 := J3.suite he hd na nL nF
    have go : ∀ {hs' : List ExceptHandler} {l' : List (Value × (Addr → Value → Option Addr → TS))}, Clauses X n hs' l' → wNamed X.K i Wout D l' cls d σ' H' → wpAny (model X.prog X.w) X.A (handleBy (.ref a) X.env hs') (SP X pins D) X.xe { s' with heap := h3 } := by
      intro hs' l' hk
      induction hk with
      | nil =>
        intro w
        refine wpAny_handleBy_nil ?_
        obtain ⟨_, _, _, oe1, vs1, T, oT, ts1, he1, hz1, hd1, h1, _⟩ := id fl3
        unfold PySem.passOn
        refine wpAny_bind (wpAny_field he1 hd1 h1 ?_)
        rw [if_neg (show ¬ ((Value.ref T == Value.none) = true) by simp)]
        have fin : wpAny (model X.prog X.w) X.A (setFlight (.ref a) X.env.frame) (fun _ s4 => wpAny (model X.prog X.w) X.A (throw (.ref a) : Sem Flow) (SP X pins D) X.xe s4) X.xe { s' with heap := h3 } := by
          rw [hf]
          exact HandSPX.setFlight_upZ fl3 fun h4 hh4 up4 => wpAny_throw (tk _ _ ⟨a, B, sI, pins, σ', H', cls, d, rfl, J, nb, (up.trans up3).trans up4, .inr (.inr (by rw [hs]; exact hh4)), na, os, ag, w⟩)
        first | exact wpAny_bind (wpAny_pure (wpAny_bind fin)) | exact wpAny_bind fin
      | @cons x c ts b₀ su p1 p2 hs2 l2 hc hsu r ih =>
        rintro ⟨b, hb1, hy, hno⟩
        refine wpAny_handleBy_cons (codeAny_handlers_test ?_) (by intro q; cases q)
        have ty : PySem.W.Looks (model X.prog X.w) h3 (typeOf (.ref a)) cls := fun A Q E t k q => wpAny_typeOf_ref (k _ _ he) (by rw [hz.1]; exact q)
        have lk := PySem.W.exm_one (M := model X.prog X.w) (J3.kIn) ty hb1
        have asked : ∀ {Q E : Value → Shared → Prop}, Q c { s' with heap := h3 } → wpAny (model X.prog X.w) (X.A.mark (some (.ref a))) (eval (.Name x p1) X.env) Q E { s' with heap := h3 } := by
          intro Q E q
          obtain ⟨hg, hdb, hm | ⟨hm, hv, hn⟩⟩ := hc
          · exact ld_glob (X := X.suite a ((a, oe) :: (X.pn ++ pins))) S3 hg hm q hdb
          · exact ld_blt (X := X.suite a ((a, oe) :: (X.pn ++ pins))) S3 hg hm hv q hn hdb
        refine asked (lk.here ?_)
        cases b with
        | false => exact ih (hno rfl)
        | true =>
          refine codeAny_handlers_suite_as (HandSPX.lands_againZ fl3 fun h4 fl4 up4 => ?_)
          have J4 : L2.Inv X pins σ' H' { s' with heap := h4 } := J.landed nb fl4.1 ((up.trans up3).trans up4) os ag
          obtain ⟨oe4, vs4, he4, hz4, hd4⟩ := fl4.there
          refine store_ok (X := X.suite a ((a, oe4) :: (X.pn ++ pins))) (v := .ref a) (J4.suite he4 hd4 na nL nF) hN hi lc rfl (fun s5 S5 => ?_) (.inr hln)
          refine wpAny_mono ((hsu a oe4 cls d (X.pn ++ pins) hz4 ⟨_, hd4⟩).run [] s5 _ H' _ S5 (hy rfl a na)) (fun f s6 q => ?_) (fun _ _ z => False.elim z)
          have over : ∀ {σ6 : L2.St} {H6 : Hp} {Q : Shared → Prop}, L2.Inv (X.suite a ((a, oe4) :: (X.pn ++ pins))) [] σ6 H6 s6 → (∀ s7, L2.Inv X pins (σ6.set i none) H6 s7 → Q s7) →
              wpAny (model X.prog X.w) X.A (do bindName X.env n .none; unbindBehindTheSuite X.env n p2) (fun _ s7 => Q s7) X.xe s6 := fun S6 hq => gone_ok (S6.unsuite ok) hN hi hln hq
          cases f with
          | next => obtain ⟨σ6, H6, S6, q6⟩ := q; exact over S6 fun s7 J7 => ⟨_, _, J7, q6⟩
          | brk => obtain ⟨σ6, H6, S6, q6⟩ := q; exact over S6 fun s7 J7 => ⟨_, _, J7, q6⟩
          | cont => obtain ⟨σ6, H6, S6, q6⟩ := q; exact over S6 fun s7 J7 => ⟨_, _, J7, q6⟩
          | ret u => obtain ⟨v6, σ6, H6, S6, r6, q6⟩ := q; exact over S6 fun s7 J7 => ⟨_, _, _, J7, r6, q6⟩
    exact go hh w
end VX

set_option Elab.async false
set_option linter.all false
set_option maxRecDepth 100000
set_option maxHeartbeats 4000000
/-! # for i, x in enumerate(a tuple) -/
namespace VX
open PySem PySem.Spec PyProof.Rows L2
theorem mts_enumT {v : Value} {ob : Obj} {Hs : Heap → Prop} (B : Begins v ob Hs) :
    Meets (Builtin.«enumerate.__new__» ⟨[.type "enumerate", v], []⟩) (fun _ R s => Hs s.heap ∧
      R (.ok (.ret (.ref (s.heap.push ob).objs.size))) { s with heap := (s.heap.push ob).push { cls := .type "enumerate", data := .fields #[.none, .bool false, .ref s.heap.objs.size, rawInt 0, .none, .none] } }) :=
  .of_wp fun prog w A R s hs => by
    obtain ⟨hp, gg, dd, tt, oo⟩ := s
    obtain ⟨k1, k2⟩ := hs
    have sub := sub_enumerate
    have itr : ∀ {B' : Around} {E' : Value → Shared → Prop} {Q' : Value → Shared → Prop}, Q' (.ref hp.objs.size) ⟨hp.push ob, gg, dd, tt, oo⟩ → wpAny (model prog w) B' (pyIter v) Q' E' ⟨hp, gg, dd, tt, oo⟩ :=
      fun q => B.iter prog w _ _ ⟨hp, gg, dd, tt, oo⟩ _ k1 q
    wp_walk using itr
    refine wpAny_stack_any fun fr => wpAny_pure ?_
    split
    · rename_i cl _ _ _ _ _
      cases (cl == Value.type "enumerate") <;>
      · wp_walk using itr
        exact ⟨_, rfl, k2⟩
    · wp_walk using itr
      exact ⟨_, rfl, k2⟩
section
variable {prog : Program} {w : World} {A : Around} {E : Value → Shared → Prop} {s : Shared}
theorem enumT_new {v : Value} {ob : Obj} {Hs : Heap → Prop} {Q : Value → Shared → Prop} (B : Begins v ob Hs) (hs : Hs s.heap)
    (hQ : ∀ h', IsEnum h' (s.heap.objs.size + 1) s.heap.objs.size 0 .none → h'.get? s.heap.objs.size = some ob → (∀ b u, s.heap.get? b = some u → h'.get? b = some u) → Q (.ref (s.heap.objs.size + 1)) { s with heap := h' }) :
    wpAny (model prog w) A (call (.type "enumerate") [v]) Q E s := by
  refine callType_new F.called_enumerate (by decide) (F.typeCall_enumerate_1 _) (F.newCall_enumerate_1 _) (fun x => F.args_object_init_2 x _) F.entry_enumerate_new (mts_enumT B) ⟨hs, ?_⟩
  have sz : (s.heap.push ob).objs.size = s.heap.objs.size + 1 := Heap.size_push ..
  show _ ∧ _
  rw [sz]
  have ie : IsEnum ((s.heap.push ob).push { cls := .type "enumerate", data := .fields #[.none, .bool false, .ref s.heap.objs.size, rawInt 0, .none, .none] }) (s.heap.objs.size + 1) s.heap.objs.size 0 .none := by
    have k := Heap.get?_push_size (s.heap.push ob) (o := { cls := .type "enumerate", data := .fields #[.none, .bool false, .ref s.heap.objs.size, rawInt 0, .none, .none] }) rfl
    rwa [sz] at k
  exact ⟨⟨_, ie, rfl⟩, hQ _ ie (Heap.get?_push_of_some _ (Heap.get?_push_size _ B.free)) fun b u q => Heap.get?_push_of_some _ (Heap.get?_push_of_some _ q)⟩
end
/-- the tuple at a as it stands at each turn, each item in a new pair -/
def IteT (K : PySem.W.Frag) (a : Addr) : It :=
  ⟨fun i H => ∃ (xs : List V) (x : V), SqT K H a xs ∧ xs[i]? = some x, fun i H v H' => ∃ T x, v = .ref T ∧ H T = none ∧ H' = upd H T (.tup [.int (i : Nat), x]) ∧ ∀ xs, SqT K H a xs → xs[i]? = some x, fun i H => ∃ xs : List V, SqT K H a xs ∧ xs.length = i⟩
structure EnT (h : Heap) (e j a : Addr) (i : Nat) : Prop where
  en : ∃ old, IsEnum h e j ((i : Nat) : Int) old
  hj : h.IsTupleIter j a i
  ei : e ≠ j
  ea : e ≠ a
  ai : a ≠ j
theorem turn_enumT {P : Program} {w : World} {K : PySem.W.Frag} {elts : List Expr} {kk : Nat} {tpos : Pos} (a e it : Addr) :
    Turn P w K (.Tuple elts kk tpos) (IteT K a) [e, it] e (fun i h => EnT h e it a i) where
  mem := by simp
  obj := fun i h st b hb => by
    obtain ⟨⟨old, he⟩, ⟨o, ho, _, hd⟩, _⟩ := st
    rcases (by simpa using hb : b = e ∨ b = it) with rfl | rfl
    · exact ⟨_, he, fun v q => nomatch q⟩
    · exact ⟨o, ho, fun v q => by rw [hd] at q; cases q⟩
  keep := fun i h h' st k => by
    obtain ⟨⟨old, he⟩, hi, n1, n2, n3⟩ := st
    exact ⟨⟨old, k e (by simp) _ he⟩, hi.at fun o q => k it (by simp) o q, n1, n2, n3⟩
  item := by
    intro X hP hw hK hc i pins s σ H E I hf st hg
    subst hP hw hK
    obtain ⟨⟨old, he⟩, hit, n1, n2, n3⟩ := st
    obtain ⟨xs, x, hq, hx⟩ := hg
    obtain ⟨its, rv, tp, _⟩ := I.tuple hq
    obtain ⟨u, hu, ru⟩ := rv.get hx
    have el : e < s.heap.objs.size := Heap.lt_size he
    have il : it < s.heap.objs.size := by obtain ⟨_, q, _⟩ := hit; exact Heap.lt_size q
    have hlt : i < its.toArray.size := by
      have := (List.getElem?_eq_some_iff.mp hu).1
      simpa using this
    refine wpAny_pyNext_enum_itemD (Draws.tuple (prog := X.prog) (w := X.w) (A := X.A.in1) (I.ok.hd hc) it a n3 its.toArray) he ⟨hit, tp⟩ hlt n1 (by simp [n1, n2]) fun y h' tk hy ho hst hT _ hk => ?_
    have ey : y = u := by
      have h1 : its.toArray[i]? = some y := hy
      have h2 : its.toArray[i]? = some u := by simpa using hu
      rw [h1] at h2
      exact Option.some.inj h2
    subst ey
    refine ⟨_, rfl, wpAny_letOwnedTupleGo_enum (s := { s with heap := h', toks := tk + 1 }) ho fun h2 he2 sb => ?_⟩
    have hT2 : h2.get? s.heap.objs.size = some { cls := .type "tuple", data := .seq #[.int i tk, y] } := (sb.2 _ (Nat.ne_of_gt el)).trans hT
    have new : ObjOk X.prog X.w (upd H s.heap.objs.size (.tup [.int (i : Nat), x])) h2 s.heap.objs.size (.tup [.int (i : Nat), x]) :=
      ⟨by show 2 ≤ sizeLine; decide, [.int i tk, y], .cons ⟨_, rfl⟩ (.cons ru .nil), ⟨_, hT2, rfl, _, rfl⟩⟩
    have I1 : Inv X pins σ (upd H s.heap.objs.size (.tup [.int (i : Nat), x])) { s with heap := h2, toks := tk + 1 } :=
      I.turnedNew (ch := [e, it]) (fun b ob hb q => (sb.2 b fun z => hb (by simp [z])).trans (hk b ob (fun z => hb (by simp [z])) (fun z => hb (by simp [z])) q)) hf (Nat.le_refl _) new
    refine ⟨.ref s.heap.objs.size, _, I1, rfl, ⟨_, x, rfl, I.hok.fresh (Nat.le_refl _), rfl, fun ys hy => by rw [I.tuple_inj hy hq]; exact hx⟩, ⟨⟨y, ?_⟩, hst.1.at fun o q => (sb.2 it (Ne.symm n1)).trans q, n1, n2, n3⟩, fun b hb => ?_⟩
    · rw [show ((i + 1 : Nat) : Int) = (i : Int) + 1 by omega]
      exact he2
    · have lt : b < s.heap.objs.size := by
        rcases (by simpa using hb : b = e ∨ b = it) with rfl | rfl
        · exact el
        · exact il
      rw [upd_ne (Nat.ne_of_lt lt)]
      exact (hf b hb).1
  done := by
    intro X hP hw hK hc i pins s σ H E I hf st hg
    subst hP hw hK
    obtain ⟨⟨old, he⟩, hit, n1, n2, n3⟩ := st
    obtain ⟨xs, hq, hx⟩ := hg
    obtain ⟨its, rv, tp, _⟩ := I.tuple hq
    obtain ⟨f0, f1, f2, f3, f4, f5⟩ := hf it (by simp)
    have ln := rv.length
    have es : i = its.toArray.size := by simp; omega
    subst es
    exact wpAny_pyNext_enum_endD (Draws.tuple (prog := X.prog) (w := X.w) (A := X.A.in1) (I.ok.hd hc) it a n3 its.toArray) he ⟨hit, tp⟩ fun h' eb => ⟨rfl, I.turned (t' := s.toks) (fun b o hb q => eb b o hb q) f0 f1 f3 f4 f5⟩
  self := fun A i s Q E st h => let ⟨_, he⟩ := st.en; wpAny_pyIter_enum he h
def iEnumT (K : PySem.W.Frag) (ta : TA) : TI := fun σ H R => ta σ H fun vs H1 => ∃ a xs, vs = [.ref a] ∧ SqT K H1 a xs ∧ R (IteT K a) H1
theorem pi_enumT {X : Cx} {e : Expr} {ta : TA} {p pos tpos : Pos} {elts : List Expr} {kk : Nat} (hg : Gl X "enumerate") (hm : X.mg "enumerate" = none) (ha : PA X [e] ta) (st : starEach [e] X.env = [(false, eval e X.env)] := by rfl) :
    PI X (.Tuple elts kk tpos) (.Call (.Name "enumerate" p) [e] [] pos) (iEnumT X.K ta) := by
  refine ⟨fun pins s σ H R I h => ?_⟩
  refine Call_ (ld_blt I hg hm boot_enumerate (PyProof.Rows.callWith_type1 (thn (ha.run pos pins s σ H _ I h) fun us s1 ⟨vs, H1, I1, r1, q1⟩ => ?_) st rfl))
  obtain ⟨a, xs, ex, hq, q⟩ := q1
  subst ex
  cases r1 with
  | cons r rr =>
    cases rr
    cases r
    obtain ⟨its, rv, tp, _⟩ := I1.tuple hq
    have al : a < s1.heap.objs.size := by obtain ⟨_, z, _⟩ := id tp; exact Heap.lt_size z
    refine enumT_new (begins_tuple a its.toArray) tp fun h' he ht hk => wpAny_pyIter_enum he ?_
    have I2 : Inv X pins σ H1 { s1 with heap := h' } := I1.kept (t' := s1.toks) hk
    refine ⟨s1.heap.objs.size + 1, [s1.heap.objs.size + 1, s1.heap.objs.size], _, _, H1, rfl, I2, turn_enumT a (s1.heap.objs.size + 1) s1.heap.objs.size, ⟨⟨.none, he⟩, ⟨_, ht, rfl, rfl⟩, Nat.succ_ne_self _, Nat.ne_of_gt (Nat.lt_succ_of_lt al), Nat.ne_of_lt al⟩, fun b hb => ?_, q⟩
    have le : s1.heap.objs.size ≤ b := by
      rcases (by simpa using hb : b = s1.heap.objs.size + 1 ∨ b = s1.heap.objs.size) with z | z
      · rw [z]; exact Nat.le_add_right _ _
      · rw [z]; exact Nat.le_refl _
    exact I1.fpOk le (I1.hok.fresh le)
theorem walk_enumT {K : PySem.W.Frag} {a : Addr} {xs : List V} : Walk (IteT K a) xs.length (fun H => SqT K H a xs) (YPair (fun i => some (.int (i : Nat))) (fun i => xs[i]?)) := by
  refine ⟨fun i _ hi q => ⟨xs, xs[i], q, by simp [hi]⟩, fun _ q => ⟨xs, q, rfl⟩, fun i H v H' _ q y => ?_⟩
  obtain ⟨T, x, k1, k2, k3, k4⟩ := y
  exact ⟨T, .int (i : Nat), x, k1, k2, k3, rfl, k4 xs q⟩
end VX

set_option Elab.async false
set_option linter.all false
set_option maxRecDepth 100000
set_option maxHeartbeats 4000000
/-! # law_k37: the text's defs, what a walk knows of the module -/
namespace KF
open PySem PySem.Spec PyProof.Rows L2 VX
def top (i : Nat) : Stmt := PySem.Challenge.pw_handspaces_k37_verdicts.main.body.getD i (.Pass ⟨0, 0, 0, 0⟩)
abbrev iFits : Nat := 17
abbrev iWord : Nat := 25
abbrev iWithin : Nat := 27
abbrev iSumM : Nat := 28
abbrev iComM : Nat := 29
abbrev iLetM : Nat := 30
abbrev iMark : Nat := 31
abbrev iWon : Nat := 32
abbrev iFirstB : Nat := 37
abbrev iIsBr : Nat := 38
abbrev iWonAll : Nat := 39
abbrev iOpenK : Nat := 40
abbrev iFacts : Nat := 41
abbrev iIsInt : Nat := 8
abbrev iHasAll : Nat := 12
abbrev iCell : Nat := 43
abbrev iBox : Nat := 44
abbrev iTake : Nat := 45
abbrev iTree : Nat := 46
abbrev iLWord : Nat := 47
abbrev iLMark : Nat := 48
abbrev iLWithin : Nat := 49
abbrev iDrawn : Nat := 50
abbrev iWords : Nat := 51
abbrev iKinds : Nat := 52
abbrev iBroken : Nat := 53
abbrev iLeft : Nat := 54
abbrev iLack : Nat := 55
abbrev iVerd : Nat := 56
abbrev iQuest : Nat := 57
abbrev iPText : Nat := 19
abbrev iTold : Nat := 58
abbrev iSame : Nat := 59
abbrev iLaw : Nat := 60
def defs : List (Str × Nat) := ([("fits", iFits), ("is_within", iWithin), ("sum_mark", iSumM), ("common_mark", iComM), ("letter_mark", iLetM), ("mark", iMark), ("within_on", iWon), ("first_breach", iFirstB), ("is_breach", iIsBr), ("within_on_all", iWonAll), ("open_kinds", iOpenK), ("is_integer", iIsInt), ("has_all_kinds", iHasAll), ("_law_cell", iCell), ("_law_box", iBox), ("_law_take", iTake), ("_law_tree", iTree), ("_law_word", iLWord), ("_law_mark", iLMark), ("_law_within", iLWithin), ("_law_drawn", iDrawn), ("_law_words", iWords), ("_law_kinds", iKinds), ("_law_broken", iBroken), ("_law_left", iLeft), ("_law_lacking", iLack), ("_law_verdict", iVerd), ("_law_question", iQuest), ("part_text", iPText)] : List (Str × Nat)) ++
  ([("_law_told", iTold), ("_law_same", iSame), ("law", iLaw)] : List (Str × Nat))
def free : List Str := ["len", "int", "abs", "range", "tuple", "list", "isinstance", "bool", "all", "enumerate", "dict", "str", "repr", "sorted"]
abbrev FnP (K : PySem.W.Frag) (x : Str) (i : Nat) (f : Addr) (fd : FuncData) : Prop := FunD K x x (defArgs (top i)) (defBody (top i)) (defScope (top i)) [] [] f fd
abbrev wC (K : PySem.W.Frag) : Addr := He.ga K "Word"
def propG (K : PySem.W.Frag) (m : Str) : Addr := match PySem.W.recIn K (He.ma K (wC K) m) "property" with
  | some (.ref g :: _) => g
  | _ => 0
abbrev fC (K : PySem.W.Frag) : Addr := He.ga K "Facts"
abbrev cC (K : PySem.W.Frag) : Addr := He.ga K "Clash"
def fpropG (K : PySem.W.Frag) (m : Str) : Addr := match PySem.W.recIn K (He.ma K (fC K) m) "property" with
  | some (.ref g :: _) => g
  | _ => 0
def kindV : List V := [.str "", .str "a", .str "b", .str "c", .str "ab", .str "ac", .str "bc", .str "abc", .str "plane"]
structure Txt (K : PySem.W.Frag) (mg : Str → Option Value) : Prop where
  dfs : ∀ p ∈ defs, mg p.1 = some (.ref (He.ga K p.1))
  free : ∀ x ∈ free, mg x = none
  leaves : mg "LEAVES" = some (.ref (He.ga K "LEAVES"))
  joints : mg "JOINTS" = some (.ref (He.ga K "JOINTS"))
  hands : mg "HANDS" = some (.ref (He.ga K "HANDS"))
  kinds : mg "KINDS" = some (.ref (He.ga K "KINDS"))
  plane : ∃ t, mg "PLANE" = some (.str "plane" t)
  ltup : ∀ H, SqT K H (He.ga K "LEAVES") [.str "a", .str "b", .str "c", .str "0", .str "1"]
  jtup : ∀ H, SqT K H (He.ga K "JOINTS") [.str "+", .str "&"]
  htup : ∀ H, SqT K H (He.ga K "HANDS") [.str "a", .str "b", .str "c"]
  ktup : ∀ H, SqT K H (He.ga K "KINDS") kindV
  word : mg "Word" = some (.ref (wC K))
  cls : Cls K (wC K)
  fs : NoAttr K (wC K) "_sign"
  fp : NoAttr K (wC K) "_parts"
  mks : Mk K (wC K) (He.ma K (wC K) "__init__")
  ps : PropOf K (wC K) "sign" (He.ma K (wC K) "sign") (propG K "sign")
  pp : PropOf K (wC K) "parts" (He.ma K (wC K) "parts") (propG K "parts")
  sure : ∃ t, mg "SURE" = some (.str "sure" t)
  barred : ∃ t, mg "BARRED" = some (.str "barred" t)
  opn : ∃ t, mg "OPEN" = some (.str "open" t)
  facts : mg "Facts" = some (.ref (fC K))
  fcls : Cls K (fC K)
  ffw : NoAttr K (fC K) "_within"
  ffn : NoAttr K (fC K) "_not_within"
  fmk : Mk K (fC K) (He.ma K (fC K) "__init__")
  clash : mg "Clash" = some (.ref (cC K))
  cx : PySem.W.excIn K (cC K) He.veBase "ValueError.__new__" = true
  ck : PySem.W.keepIn K (.ref (cC K)) = true
  cb : PySem.W.subIn K (.ref (cC K)) (.type "BaseException") = some true
  ct : PySem.W.typeIn K (.ref (cC K)) = some (.type "type")
  cm : PySem.W.exmOne K (.ref (cC K)) (.ref (cC K)) = some true
theorem Txt.fr {K : PySem.W.Frag} {mg : Str → Option Value} (T : Txt K mg) (x : Str) (h : x ∈ KF.free := by decide +kernel) : mg x = none := T.free x h
theorem Txt.df {K : PySem.W.Frag} {mg : Str → Option Value} (T : Txt K mg) (x : Str) (i : Nat) (h : (x, i) ∈ defs := by decide +kernel) : mg x = some (.ref (He.ga K x)) := T.dfs (x, i) h
end KF

set_option Elab.async false
set_option linter.all false
set_option maxRecDepth 100000
set_option maxHeartbeats 4000000
/-! # words.py: fits, Word -/
namespace KF
open PySem PySem.Spec PyProof.Rows L2 VX KW
section
variable {P : Program} {w : World} {K : PySem.W.Frag} {mg : Str → Option Value} {base : Heap} {f : Addr} {fd : FuncData}
/-- a text of one sign -/
abbrev one (c : Nat) : Str := ⟨#[c]⟩
theorem one_eq {c d : Nat} : (one c = one d) ↔ c = d := by
  constructor
  · intro h
    have := congrArg (fun s : Str => s.cps.toList) h
    simpa using this
  · rintro rfl; rfl
theorem dec_one {c d : Nat} : decide (V.str (one c) = V.str (one d)) = (c == d) := by
  rw [Bool.eq_iff_iff]
  simp only [decide_eq_true_eq, beq_iff_eq]
  constructor
  · intro h
    exact one_eq.mp (by injection h)
  · rintro rfl; rfl
theorem beq_one {c d : Nat} : (one d == one c) = (c == d) := by
  rw [Bool.eq_iff_iff, beq_iff_eq, beq_iff_eq, one_eq]
  exact eq_comm
theorem in_leaves (c : Nat) : inV (V.str (one c)) [V.str "a", V.str "b", V.str "c", V.str "0", V.str "1"] = leafC c := by
  show ((one 97 == one c) || ((one 98 == one c) || ((one 99 == one c) || ((one 48 == one c) || ((one 49 == one c) || false))))) = _
  simp only [beq_one, leafC, Bool.or_false, Bool.or_assoc]
theorem in_joints (c : Nat) : inV (V.str (one c)) [V.str "+", V.str "&"] = jointC c := by
  show ((one 43 == one c) || ((one 38 == one c) || false)) = _
  simp only [beq_one, jointC, Bool.or_false]
/-! ### fits -/
def spFits : Sp := fun vs H Q _ => ∃ (c : Nat) (m : Int), vs = [.str (one c), .int m] ∧ Q (.bl (if leafC c = true then decide (m = 0) else jointC c && decide (m = 2))) H
theorem sc_fits : FnScope ["sign", "many"] ["sign", "many"] (defScope (top iFits)) := ⟨rfl, rfl, rfl, by decide +kernel, rfl, by decide +kernel, by decide +kernel⟩
theorem ok_fits (F : FnP K "fits" iFits f fd) (T : Txt K mg) : FnOk P w K mg base CX0 1 f fd ["sign", "many"] spFits := by
  refine F.ok sc_fits (fun vs H Q E h => ?_) (fun cdv A outer s H vs Q E hr h => ?_)
  · obtain ⟨c, m, rfl, _⟩ := h
    rfl
  · obtain ⟨c, m, rfl, k⟩ := h
    refine ⟨_, PSs.nox (pss_cons (ps_if (pt_cmpR op_in_seq (pv 0) (pe_glob (v := .ref (He.ga K "LEAVES")) (by rfl) T.leaves rfl) (by rfl)) (pss_one (ps_ret (pe_cmp (pc_eqI (pv 1) pe_int) rfl))) pss_nil)
      (pss_one (ps_ret (pe_and (pe_cmpR op_in_seq (pv 0) (pe_glob (v := .ref (He.ga K "JOINTS")) (by rfl) T.joints rfl) (by rfl)) (pe_one (pe_cmp (pc_eqI (pv 1) pe_int) rfl)))))), ?_⟩
    refine ⟨_, rfl, _, _, rfl, .inr (T.ltup _), rfl, rfl, _, rfl, ?_⟩
    simp only [Bool.false_eq_true, if_false, in_leaves]
    refine ite2 (fun hc => ?_) (fun hc => ?_)
    · rw [if_pos hc] at k
      exact ⟨_, rfl, _, _, rfl, rfl, k⟩
    · rw [if_neg hc] at k
      refine ⟨_, rfl, _, _, rfl, .inr (T.jtup _), rfl, rfl, _, rfl, ?_⟩
      simp only [Bool.false_eq_true, if_false, in_joints]
      cases hj : jointC c with
      | false =>
        rw [hj] at k
        exact iteF k
      | true =>
        rw [hj] at k
        exact iteT ⟨_, rfl, _, _, rfl, rfl, k⟩
abbrev sWI : Stmt := inClass (top iWord) 0
abbrev sSg : Stmt := inClass (top iWord) 2
abbrev sPa : Stmt := inClass (top iWord) 3
def fitB (c m : Nat) : Bool := if leafC c = true then decide (m = 0) else jointC c && decide (m = 2)
/-- the word at x: its sign, its parts -/
def IsWd (K : PySem.W.Frag) (H : Hp) (x : Addr) (c : Nat) (xs : List V) : Prop := ∃ dx a, H x = some (.ins (wC K) dx [("_sign", .str (one c)), ("_parts", .ref a)]) ∧ SqT K H a xs
theorem SqT.same {H H' : Hp} {a : Addr} {xs : List V} (s : Same H H') (h : SqT K H a xs) : SqT K H' a xs := by
  rcases h with (h | ⟨o, h⟩) | h
  · exact .inl (.inl (s _ _ h))
  · exact .inl (.inr ⟨o, s _ _ h⟩)
  · exact .inr h
theorem IsWd.same {H H' : Hp} {x : Addr} {c : Nat} {xs : List V} (s : Same H H') (h : IsWd K H x c xs) : IsWd K H' x c xs := by
  obtain ⟨dx, a, h1, h2⟩ := h
  exact ⟨dx, a, s _ _ h1, SqT.same s h2⟩
theorem seqT_keep {H H' : Hp} {x a C dx : Addr} {fs : List (Str × V)} {xs : List V} (hx : H x = some (.ins C dx fs)) (k : ∀ b o, H b = some o → b ≠ x → H' b = some o) (h : SqT K H a xs) : SqT K H' a xs := by
  rcases h with (h | ⟨o, h⟩) | h
  · exact .inl (.inl (k _ _ h (ne_of h hx (by intro z; cases z))))
  · exact .inl (.inr ⟨o, k _ _ h (ne_of h hx (by intro z; cases z))⟩)
  · exact .inr h
theorem seqL_keep {H H' : Hp} {x a C dx : Addr} {fs : List (Str × V)} {xs : List V} (hx : H x = some (.ins C dx fs)) (k : ∀ b o, H b = some o → b ≠ x → H' b = some o) (h : SqL K H a xs) : SqL K H' a xs := by
  rcases h with (h | ⟨o, h⟩) | h
  · exact .inl (.inl (k _ _ h (ne_of h hx (by intro z; cases z))))
  · exact .inl (.inr ⟨o, k _ _ h (ne_of h hx (by intro z; cases z))⟩)
  · exact .inr h
def spWI (K : PySem.W.Frag) : Sp := fun vs H Q _ => ∃ (x : Addr) (c : Nat) (a : Addr) (xs : List V) (dx : Addr), vs = [.ref x, .str (one c), .ref a] ∧ H x = some (.ins (wC K) dx []) ∧ (SqL K H a xs ∨ SqT K H a xs) ∧ fitB c xs.length = true ∧ xs.length ≤ 1000 ∧
  ∀ H', (∀ b o, H b = some o → b ≠ x → H' b = some o) → IsWd K H' x c xs → Q .non H'
theorem sc_wi : FnScope ["self", "sign", "parts"] ["self", "sign", "parts"] (defScope sWI) := ⟨rfl, rfl, rfl, by decide +kernel, rfl, by decide +kernel, by decide +kernel⟩
theorem ok_wi {dvs : List V} {fd1 : FuncData} (F : FunD K "__init__" "Word.__init__" (defArgs sWI) (defBody sWI) (defScope sWI) dvs [] f fd) (T : Txt K mg) (F1 : FnP K "fits" iFits (He.ga K "fits") fd1) : FnOk P w K mg base CX0 2 f fd ["self", "sign", "parts"] (spWI K) := by
  have G1 : FnOk P w K mg base CX0 1 _ fd1 ["sign", "many"] spFits := ok_fits F1 T
  have B1 : Binds K fd1 ["sign", "many"] [] := F1.bindsN fun _ _ _ _ _ _ us hl => match us, hl with | [_, _], _ => rfl
  refine F.ok sc_wi (fun vs H Q E h => ?_) (fun cdv A outer s H vs Q E hr h => ?_)
  · obtain ⟨x, c, a, xs, dx, rfl, _⟩ := h
    rfl
  · obtain ⟨x, c, a, xs, dx, rfl, hx, hs, hf, hl, k⟩ := h
    refine ⟨_, PSs.nox (pss_cons (ps_if (pt_not (pt_val (pe_call G1 hr (by rfl) (T.df "fits" iFits) F1.kp B1 .nil pass0 (pa_cons (pv 1) (pa_cons (pe_callB call_len_seq (by rfl) (T.fr "len") boot_len (pa_cons (pv 2) pa_nil)) pa_nil))))) (pss_one ps_never) pss_nil)
      (pss_cons (ps_fld (pv 0) (pv 1) rfl)
      (pss_one (ps_fld (pv 0) (pe_callTy call_tuple_of (by rfl) (T.fr "tuple") (by decide +kernel) (pa_cons (pv 2) pa_nil)) rfl)))), ?_⟩
    refine ⟨_, rfl, _, rfl, a, xs, rfl, hs, c, (xs.length : Nat), rfl, _, rfl, ?_⟩
    have e : (if leafC c = true then decide ((xs.length : Int) = 0) else jointC c && decide ((xs.length : Int) = 2)) = true := by
      have q := hf
      unfold fitB at q
      have e1 : decide ((xs.length : Int) = 0) = decide (xs.length = 0) := decide_eq_decide.mpr (by omega)
      have e2 : decide ((xs.length : Int) = 2) = decide (xs.length = 2) := decide_eq_decide.mpr (by omega)
      rwa [← e1, ← e2] at q
    rw [e]
    refine iteF ?_
    refine ⟨_, rfl, _, rfl, x, _, dx, [], rfl, hx, T.cls, T.fs, by decide, ?_⟩
    have hx1 : upd H x (.ins (wC K) dx [("_sign", .str (one c))]) x = some (.ins (wC K) dx [("_sign", .str (one c))]) := upd_same
    have k1 : ∀ b o, H b = some o → b ≠ x → upd H x (.ins (wC K) dx [("_sign", .str (one c))]) b = some o := fun b o q ne => by rw [upd_ne ne]; exact q
    rcases hs with hs | hs
    · refine ⟨_, rfl, a, xs, rfl, .inl ⟨seqL_keep hx k1 hs, fun t ht => ?_⟩⟩
      have tx : x ≠ t := ne_of_none hx1 ht
      refine ⟨_, rfl, x, _, dx, _, rfl, (by rw [upd_ne tx]; exact hx1), T.cls, T.fp, (by show 1 < 1000; decide), ?_⟩
      refine k _ (fun b o q ne => ?_) ⟨dx, t, upd_same, .inl (.inl (by rw [upd_ne (Ne.symm tx), upd_same]))⟩
      have q1 := k1 b o q ne
      rw [upd_ne ne, upd_ne (ne_of_none q1 ht)]
      exact q1
    · refine ⟨_, rfl, a, xs, rfl, .inr ⟨seqT_keep hx k1 hs, ?_⟩⟩
      refine ⟨_, rfl, x, _, dx, _, rfl, hx1, T.cls, T.fp, (by show 1 < 1000; decide), ?_⟩
      rw [upd_upd]
      have k2 : ∀ b o, H b = some o → b ≠ x → upd H x (.ins (wC K) dx (putF "_parts" (V.ref a) [("_sign", .str (one c))])) b = some o := fun b o q ne => by rw [upd_ne ne]; exact q
      exact k _ k2 ⟨dx, a, upd_same, seqT_keep hx k2 hs⟩
/-! ### sign, parts -/
def spGetS (K : PySem.W.Frag) : Sp := fun vs H Q _ => ∃ (x : Addr) (c : Nat) (xs : List V), vs = [.ref x] ∧ IsWd K H x c xs ∧ Q (.str (one c)) H
def spGetP (K : PySem.W.Frag) : Sp := fun vs H Q _ => ∃ (x : Addr) (c : Nat) (xs : List V), vs = [.ref x] ∧ IsWd K H x c xs ∧ ∀ a, SqT K H a xs → Q (.ref a) H
theorem sc_gets : FnScope ["self"] ["self"] (defScope sSg) := ⟨rfl, rfl, rfl, by decide +kernel, rfl, by decide +kernel, by decide +kernel⟩
theorem sc_getp : FnScope ["self"] ["self"] (defScope sPa) := ⟨rfl, rfl, rfl, by decide +kernel, rfl, by decide +kernel, by decide +kernel⟩
theorem ok_gets (F : FunD K "sign" "Word.sign" (defArgs sSg) (defBody sSg) (defScope sSg) [] [] f fd) (T : Txt K mg) : FnOk P w K mg base CX0 1 f fd ["self"] (spGetS K) := by
  refine F.ok sc_gets (fun vs H Q E h => ?_) (fun cdv A outer s H vs Q E hr h => ?_)
  · obtain ⟨x, c, xs, rfl, _⟩ := h
    rfl
  · obtain ⟨x, c, xs, rfl, ⟨dx, a, h1, h2⟩, k⟩ := h
    exact ⟨_, PSs.nox (pss_one (ps_ret (pe_fld (pv 0) rfl))), _, rfl, x, _, dx, _, .str (one c), rfl, h1, T.cls, T.fs, rfl, k⟩
theorem ok_getp (F : FunD K "parts" "Word.parts" (defArgs sPa) (defBody sPa) (defScope sPa) [] [] f fd) (T : Txt K mg) : FnOk P w K mg base CX0 1 f fd ["self"] (spGetP K) := by
  refine F.ok sc_getp (fun vs H Q E h => ?_) (fun cdv A outer s H vs Q E hr h => ?_)
  · obtain ⟨x, c, xs, rfl, _⟩ := h
    rfl
  · obtain ⟨x, c, xs, rfl, ⟨dx, a, h1, h2⟩, k⟩ := h
    exact ⟨_, PSs.nox (pss_one (ps_ret (pe_fld (pv 0) rfl))), _, rfl, x, _, dx, _, .ref a, rfl, h1, T.cls, T.fp, rfl, k a h2⟩
/-! ### making words -/
structure Wif (K : PySem.W.Frag) (fdI : FuncData) (dv : V) (fd1 : FuncData) : Prop where
  fi : FunD K "__init__" "Word.__init__" (defArgs sWI) (defBody sWI) (defScope sWI) [dv] [] (He.ma K (wC K) "__init__") fdI
  ft : FnP K "fits" iFits (He.ga K "fits") fd1
  dv : ∃ a, dv = .ref a ∧ ∀ H, SqT K H a []
theorem Wif.b0 {fdI fd1 : FuncData} {dv : V} (Z : Wif K fdI dv fd1) : ∃ ds, Vals [dv] ds ∧ Binds K fdI ["self", "sign", "parts"] ds := by
  obtain ⟨ds, h1, h2⟩ := Z.fi.binds1 (ps := ["self", "sign", "parts"]) 2 0 (by simp) (by simp) fun T kV doc pm an cdv ct us its hl hi => by
    match us, its, hl, hi with
    | [a, b], [e], _, _ => exact ⟨_, rfl, rfl⟩
  exact ⟨ds, h1, h2⟩
theorem Wif.b1 {fdI fd1 : FuncData} {dv : V} (Z : Wif K fdI dv fd1) : Binds K fdI ["self", "sign", "parts"] [] := by
  obtain ⟨ds, h1, h2⟩ := Z.fi.binds1 (ps := ["self", "sign", "parts"]) 3 1 (by simp) (by simp) fun T kV doc pm an cdv ct us its hl hi => by
    match us, its, hl, hi with
    | [a, b, c], [e], _, _ => exact ⟨_, rfl, rfl⟩
  cases h1
  exact h2
/-- the tree of the word at x -/
def IsTr (K : PySem.W.Frag) (H : Hp) : Addr → Tr → Prop
  | x, .lf c => leafC c = true ∧ IsWd K H x c []
  | x, .nd c l r => jointC c = true ∧ ∃ y z, IsWd K H x c [.ref y, .ref z] ∧ IsTr K H y l ∧ IsTr K H z r
theorem IsTr.same {H H' : Hp} (s : Same H H') : ∀ {t : Tr} {x : Addr}, IsTr K H x t → IsTr K H' x t
  | .lf _, _, h => ⟨h.1, h.2.same s⟩
  | .nd _ _ _, _, h => by
    obtain ⟨j, y, z, h1, h2, h3⟩ := h
    exact ⟨j, y, z, h1.same s, h2.same s, h3.same s⟩
theorem IsTr.ins {H : Hp} {x : Addr} : ∀ {t : Tr}, IsTr K H x t → ∃ dx fs, H x = some (.ins (wC K) dx fs)
  | .lf _, h => by obtain ⟨_, dx, a, h1, _⟩ := h; exact ⟨_, _, h1⟩
  | .nd _ _ _, h => by obtain ⟨_, y, z, ⟨dx, a, h1, _⟩, _⟩ := h; exact ⟨_, _, h1⟩
theorem IsTr.wf {H : Hp} : ∀ {t : Tr} {x : Addr}, IsTr K H x t → WF t = true
  | .lf c, _, h => h.1
  | .nd c l r, _, h => by
    obtain ⟨j, y, z, h1, h2, h3⟩ := h
    simp only [WF, j, h2.wf, h3.wf, Bool.and_self]
end
end KF

set_option Elab.async false
set_option linter.all false
set_option maxRecDepth 100000
set_option maxHeartbeats 4000000
/-! # classes.py: marks -/
namespace KF
open PySem PySem.Spec PyProof.Rows L2 VX KW
section
variable {P : Program} {w : World} {K : PySem.W.Frag} {mg : Str → Option Value} {base : Heap} {f : Addr} {fd : FuncData}
/-! ### is_within, sum_mark, common_mark -/
def spWithin : Sp := fun vs H Q _ => ∃ x y : Nat, vs = [.str (one x), .str (one y)] ∧ Q (.bl (isW x y)) H
theorem sc_within : FnScope ["one", "other"] ["one", "other"] (defScope (top iWithin)) := ⟨rfl, rfl, rfl, by decide +kernel, rfl, by decide +kernel, by decide +kernel⟩
theorem ok_within (F : FnP K "is_within" iWithin f fd) (T : Txt K mg) : FnOk P w K mg base CX0 1 f fd ["one", "other"] spWithin := by
  refine F.ok sc_within (fun vs H Q E h => ?_) (fun cdv A outer s H vs Q E hr h => ?_)
  · obtain ⟨x, y, rfl, _⟩ := h
    rfl
  · obtain ⟨x, y, rfl, k⟩ := h
    refine ⟨_, PSs.nox (pss_one (ps_ret (pe_or (pe_cmpR op_eq (pv 0) (pv 1) (nomark _)) (pe_or (pe_cmpR op_eq (pv 0) pe_str (nomark _)) (pe_one (pe_cmpR op_eq (pv 1) pe_str (nomark _))))))), ?_⟩
    refine ⟨_, rfl, _, rfl, rfl, _, rfl, ?_⟩
    rw [show decide (V.str (one x) = V.str (one y)) = (x == y) from dec_one]
    unfold isW at k
    refine ite2 (fun h => ?_) (fun h => ?_)
    · rw [h] at k
      exact k
    · rw [Bool.eq_false_iff.mpr h] at k
      refine ⟨_, rfl, rfl, _, rfl, ?_⟩
      rw [show decide (V.str (one x) = V.str "0") = (x == 48) from dec_one]
      refine ite2 (fun h => ?_) (fun h => ?_)
      · rw [h] at k
        exact k
      · rw [Bool.eq_false_iff.mpr h] at k
        refine ⟨_, rfl, rfl, ?_⟩
        show Q (.bl (decide (V.str (one y) = V.str "1"))) H
        rw [show decide (V.str (one y) = V.str "1") = (y == 49) from dec_one]
        exact k
def spSum : Sp := fun vs H Q _ => ∃ x y : Nat, vs = [.str (one x), .str (one y)] ∧ Q (.str (one (sumM x y))) H
theorem sc_sum : FnScope ["one", "other"] ["one", "other"] (defScope (top iSumM)) := ⟨rfl, rfl, rfl, by decide +kernel, rfl, by decide +kernel, by decide +kernel⟩
theorem ok_sum {fdW : FuncData} (F : FnP K "sum_mark" iSumM f fd) (T : Txt K mg) (FW : FnP K "is_within" iWithin (He.ga K "is_within") fdW) : FnOk P w K mg base CX0 2 f fd ["one", "other"] spSum := by
  have GW : FnOk P w K mg base CX0 1 _ fdW ["one", "other"] spWithin := ok_within FW T
  have BW : Binds K fdW ["one", "other"] [] := FW.bindsN fun _ _ _ _ _ _ us hl => match us, hl with | [_, _], _ => rfl
  refine F.ok sc_sum (fun vs H Q E h => ?_) (fun cdv A outer s H vs Q E hr h => ?_)
  · obtain ⟨x, y, rfl, _⟩ := h
    rfl
  · obtain ⟨x, y, rfl, k⟩ := h
    refine ⟨_, PSs.nox (pss_cons (ps_if (pt_val (pe_call GW hr (by rfl) (T.df "is_within" iWithin) FW.kp BW .nil pass0 (pa_cons (pv 0) (pa_cons (pv 1) pa_nil)))) (pss_one (ps_ret (pv 1))) pss_nil) (pss_one (ps_ret (pe_ifExp (pt_val (pe_call GW hr (by rfl) (T.df "is_within" iWithin) FW.kp BW .nil pass0 (pa_cons (pv 1) (pa_cons (pv 0) pa_nil)))) (pv 0) pe_str)))), ?_⟩
    unfold sumM at k
    refine ⟨_, rfl, _, rfl, x, y, rfl, _, rfl, ?_⟩
    refine ite2 (fun h => ?_) (fun h => ?_)
    · rw [if_pos h] at k
      exact ⟨_, rfl, k⟩
    · rw [if_neg h] at k
      refine ⟨_, rfl, _, rfl, y, x, rfl, _, rfl, ?_⟩
      refine ite2 (fun h2 => ?_) (fun h2 => ?_)
      · rw [if_pos h2] at k
        exact ⟨_, rfl, k⟩
      · rw [if_neg h2] at k
        exact k
def spCom : Sp := fun vs H Q _ => ∃ x y : Nat, vs = [.str (one x), .str (one y)] ∧ Q (.str (one (comM x y))) H
theorem sc_com : FnScope ["one", "other"] ["one", "other"] (defScope (top iComM)) := ⟨rfl, rfl, rfl, by decide +kernel, rfl, by decide +kernel, by decide +kernel⟩
theorem ok_com {fdW : FuncData} (F : FnP K "common_mark" iComM f fd) (T : Txt K mg) (FW : FnP K "is_within" iWithin (He.ga K "is_within") fdW) : FnOk P w K mg base CX0 2 f fd ["one", "other"] spCom := by
  have GW : FnOk P w K mg base CX0 1 _ fdW ["one", "other"] spWithin := ok_within FW T
  have BW : Binds K fdW ["one", "other"] [] := FW.bindsN fun _ _ _ _ _ _ us hl => match us, hl with | [_, _], _ => rfl
  refine F.ok sc_com (fun vs H Q E h => ?_) (fun cdv A outer s H vs Q E hr h => ?_)
  · obtain ⟨x, y, rfl, _⟩ := h
    rfl
  · obtain ⟨x, y, rfl, k⟩ := h
    refine ⟨_, PSs.nox (pss_cons (ps_if (pt_val (pe_call GW hr (by rfl) (T.df "is_within" iWithin) FW.kp BW .nil pass0 (pa_cons (pv 0) (pa_cons (pv 1) pa_nil)))) (pss_one (ps_ret (pv 0))) pss_nil) (pss_one (ps_ret (pe_ifExp (pt_val (pe_call GW hr (by rfl) (T.df "is_within" iWithin) FW.kp BW .nil pass0 (pa_cons (pv 1) (pa_cons (pv 0) pa_nil)))) (pv 1) pe_str)))), ?_⟩
    unfold comM at k
    refine ⟨_, rfl, _, rfl, x, y, rfl, _, rfl, ?_⟩
    refine ite2 (fun h => ?_) (fun h => ?_)
    · rw [if_pos h] at k
      exact ⟨_, rfl, k⟩
    · rw [if_neg h] at k
      refine ⟨_, rfl, _, rfl, y, x, rfl, _, rfl, ?_⟩
      refine ite2 (fun h2 => ?_) (fun h2 => ?_)
      · rw [if_pos h2] at k
        exact ⟨_, rfl, k⟩
      · rw [if_neg h2] at k
        exact k
/-! ### letter_mark -/
/-- the kind as a text -/
def kS (k : List Nat) : Str := ⟨k.toArray⟩
theorem kS_list {k : List Nat} : (kS k).cps.toList = k := by simp [kS]
theorem kS_pl {k : List Nat} : decide (V.str (kS k) = V.str "plane") = decide (k = PL) := by
  apply decide_eq_decide.mpr
  constructor
  · intro h
    injection h with h
    have := congrArg (fun s : Str => s.cps.toList) h
    simp [kS] at this
    exact this
  · rintro rfl
    rfl
def spLet : Sp := fun vs H Q _ => ∃ (c : Nat) (k : List Nat), vs = [.str (one c), .str (kS k)] ∧ Q (.str (one (letM c k))) H
theorem sc_let : FnScope ["hand", "kind"] ["hand", "kind"] (defScope (top iLetM)) := ⟨rfl, rfl, rfl, by decide +kernel, rfl, by decide +kernel, by decide +kernel⟩
theorem ok_let (F : FnP K "letter_mark" iLetM f fd) (T : Txt K mg) : FnOk P w K mg base CX0 1 f fd ["hand", "kind"] spLet := by
  obtain ⟨tm, hm⟩ := T.plane
  refine F.ok sc_let (fun vs H Q E h => ?_) (fun cdv A outer s H vs Q E hr h => ?_)
  · obtain ⟨c, k, rfl, _⟩ := h
    rfl
  · obtain ⟨c, k, rfl, q⟩ := h
    refine ⟨_, PSs.nox (pss_cons (ps_if (pt_cmpR op_eq (pv 1) (pe_glob (v := .str "plane") (by rfl) hm ⟨tm, rfl⟩) (nomark _)) (pss_one (ps_ret (pv 0))) pss_nil) (pss_one (ps_ret (pe_ifExp (pt_cmpR op_in_sign (pv 0) (pv 1) (by rfl)) pe_str pe_str)))), ?_⟩
    unfold letM at q
    refine ⟨_, rfl, rfl, _, rfl, ?_⟩
    rw [kS_pl]
    refine ite2 (fun h => ?_) (fun h => ?_)
    · have h' := of_decide_eq_true h
      rw [if_pos h'] at q
      exact ⟨_, rfl, q⟩
    · have h' : k ≠ PL := fun e => h (decide_eq_true e)
      rw [if_neg h'] at q
      refine ⟨_, rfl, _, rfl, c, _, rfl, rfl, _, rfl, ?_⟩
      rw [kS_list]
      refine ite2 (fun h2 => ?_) (fun h2 => ?_)
      · rw [if_pos (of_decide_eq_true h2)] at q
        exact q
      · rw [if_neg (fun e => h2 (decide_eq_true e))] at q
        exact q
end
end KF

set_option Elab.async false
set_option linter.all false
set_option maxRecDepth 100000
set_option maxHeartbeats 4000000
/-! # classes.py: mark -/
namespace KF
open PySem PySem.Spec PyProof.Rows L2 VX KW
section
variable {P : Program} {w : World} {K : PySem.W.Frag} {mg : Str → Option Value} {base : Heap} {f : Addr} {fd : FuncData}
theorem in_hands (c : Nat) : inV (V.str (one c)) [V.str "a", V.str "b", V.str "c"] = hand c := by
  show ((one 97 == one c) || ((one 98 == one c) || ((one 99 == one c) || false))) = _
  simp only [beq_one, hand, Bool.or_false, Bool.or_assoc]
/-- the defs that mark reaches -/
structure Mkf (K : PySem.W.Frag) (fdW fdS fdC fdL fdg fdp : FuncData) : Prop where
  fw : FnP K "is_within" iWithin (He.ga K "is_within") fdW
  fs : FnP K "sum_mark" iSumM (He.ga K "sum_mark") fdS
  fc : FnP K "common_mark" iComM (He.ga K "common_mark") fdC
  fl : FnP K "letter_mark" iLetM (He.ga K "letter_mark") fdL
  fg : FunD K "sign" "Word.sign" (defArgs sSg) (defBody sSg) (defScope sSg) [] [] (propG K "sign") fdg
  fp : FunD K "parts" "Word.parts" (defArgs sPa) (defBody sPa) (defScope sPa) [] [] (propG K "parts") fdp
def spMark (K : PySem.W.Frag) (n : Nat) : Sp := fun vs H Q _ => ∃ (x : Addr) (t : Tr) (k : List Nat), vs = [.ref x, .str (kS k)] ∧ IsTr K H x t ∧ dep t ≤ n ∧ ∀ H', Same H H' → Q (.str (one (mk k t))) H'
def spMarkL (K : PySem.W.Frag) : Nat → Sp
  | 0 => fun _ _ _ _ => False
  | n + 1 => spMark K n
abbrev nM : List Str := ["word", "kind", "first", "second", "part"]
theorem sc_mark : FnScope nM ["word", "kind"] (defScope (top iMark)) := ⟨rfl, rfl, rfl, by decide +kernel, rfl, by decide +kernel, by decide +kernel⟩
theorem ok_mark1 {fdW fdS fdC fdL fdg fdp : FuncData} (F : FnP K "mark" iMark (He.ga K "mark") fd) (T : Txt K mg) (Z : Mkf K fdW fdS fdC fdL fdg fdp) (n : Nat) (GR : FnOk P w K mg base CX0 (3 + n) (He.ga K "mark") fd ["word", "kind"] (spMarkL K n)) :
    FnOk P w K mg base CX0 (4 + n) (He.ga K "mark") fd ["word", "kind"] (spMark K n) := by
  have BR : Binds K fd ["word", "kind"] [] := F.bindsN fun _ _ _ _ _ _ us hl => match us, hl with | [_, _], _ => rfl
  have GSg : FnOk P w K mg base CX0 1 _ fdg ["self"] (spGetS K) := ok_gets Z.fg T
  have BSg : Binds K fdg ["self"] [] := Z.fg.bindsN fun _ _ _ _ _ _ us hl => match us, hl with | [_], _ => rfl
  have GPa : FnOk P w K mg base CX0 1 _ fdp ["self"] (spGetP K) := ok_getp Z.fp T
  have BPa : Binds K fdp ["self"] [] := Z.fp.bindsN fun _ _ _ _ _ _ us hl => match us, hl with | [_], _ => rfl
  have GL : FnOk P w K mg base CX0 1 _ fdL ["hand", "kind"] spLet := ok_let Z.fl T
  have BL : Binds K fdL ["hand", "kind"] [] := Z.fl.bindsN fun _ _ _ _ _ _ us hl => match us, hl with | [_, _], _ => rfl
  have GS : FnOk P w K mg base CX0 2 _ fdS ["one", "other"] spSum := ok_sum Z.fs T Z.fw
  have BS : Binds K fdS ["one", "other"] [] := Z.fs.bindsN fun _ _ _ _ _ _ us hl => match us, hl with | [_, _], _ => rfl
  have GC : FnOk P w K mg base CX0 2 _ fdC ["one", "other"] spCom := ok_com Z.fc T Z.fw
  have BC : Binds K fdC ["one", "other"] [] := Z.fc.bindsN fun _ _ _ _ _ _ us hl => match us, hl with | [_, _], _ => rfl
  rw [show 4 + n = (3 + n) + 1 by omega]
  refine F.ok sc_mark (fun vs H Q E h => ?_) (fun cdv A outer s H vs Q E hr h => ?_)
  · obtain ⟨x, t, k, rfl, _⟩ := h
    rfl
  · obtain ⟨x, t, k, rfl, hx, hd, q⟩ := h
    have nd := sc_mark.nd
    have hr1 : Room 1 _ := hr.mono (by omega)
    have hr2 : Room 2 _ := hr.mono (by omega)
    refine ⟨_, PSs.nox (pss_cons (ps_if (pt_cmpR op_in_seq (pe_prop (pv 0) T.cls T.ps GSg hr2 BSg .nil pass0 rfl) (pe_glob (v := .ref (He.ga K "HANDS")) (by rfl) T.hands rfl) (by rfl)) (pss_one (ps_ret (pe_call GL hr1 (by rfl) (T.df "letter_mark" iLetM) Z.fl.kp BL .nil pass0 (pa_cons (pe_prop (pv 0) T.cls T.ps GSg hr2 BSg .nil pass0 rfl) (pa_cons (pv 1) pa_nil))))) pss_nil) (pss_cons (ps_if (pt_cmpR op_eq (pe_callB call_len_seq (by rfl) (T.fr "len") boot_len (pa_cons (pe_prop (pv 0) T.cls T.pp GPa hr2 BPa .nil pass0 rfl) pa_nil)) pe_int (nomark _)) (pss_one (ps_ret (pe_prop (pv 0) T.cls T.ps GSg hr2 BSg .nil pass0 rfl))) pss_nil) (pss_cons (ps_asg (pe_lc (own := [("part", 4)]) (g := gName 4) (by rfl) nd (pi_tup (pe_prop (pv 0) T.cls T.pp GPa hr2 BPa .nil pass0 rfl)) (blkOk_by (own := [("part", 4)]) (N := nM) (sc := defScope (top iMark)) (by decide +kernel)) (fun _ _ _ _ _ => pg_name (i := 4) nd rfl (Or.inl rfl)) (fun _ _ _ _ _ => pts_nil) (fun _ _ _ _ _ => pe_call GR hr (by rfl) (T.df "mark" iMark) F.kp BR .nil pass0 (pa_cons (pv 4) (pa_cons (pv 1) pa_nil)))) (pg_unl rfl (pgs_cons (pg_name (i := 2) nd rfl (.inl rfl)) (pgs_cons (pg_name (i := 3) nd rfl (.inl rfl)) pgs_nil)))) (pss_one (ps_ret (pe_ifExp (pt_cmpR op_eq (pe_prop (pv 0) T.cls T.ps GSg hr2 BSg .nil pass0 rfl) pe_str (nomark _)) (pe_call GS hr2 (by rfl) (T.df "sum_mark" iSumM) Z.fs.kp BS .nil pass0 (pa_cons (pv 2) (pa_cons (pv 3) pa_nil))) (pe_call GC hr2 (by rfl) (T.df "common_mark" iComM) Z.fc.kp BC .nil pass0 (pa_cons (pv 2) (pa_cons (pv 3) pa_nil))))))))), ?_⟩
    cases t with
    | lf c =>
      obtain ⟨hl, hw⟩ := hx
      obtain ⟨dx, a, h1, h2⟩ := id hw
      refine ⟨_, rfl, x, dx, _, rfl, h1, x, c, _, rfl, hw, _, _, rfl, .inr (T.htup _), rfl, rfl, _, rfl, ?_⟩
      simp only [Bool.false_eq_true, if_false, in_hands]
      simp only [mk] at q
      refine ite2 (fun hh => ?_) (fun hh => ?_)
      · rw [if_pos hh] at q
        exact ⟨_, rfl, x, dx, _, rfl, h1, x, c, _, rfl, hw, _, rfl, c, k, rfl, q _ (Same.refl _)⟩
      · rw [if_neg hh] at q
        refine ⟨_, rfl, x, dx, _, rfl, h1, x, c, _, rfl, hw, fun a2 ha2 => ⟨a2, _, rfl, .inr ha2, rfl, _, rfl, ?_⟩⟩
        exact iteT ⟨_, rfl, x, dx, _, rfl, h1, x, c, _, rfl, hw, q _ (Same.refl _)⟩
    | nd c l r =>
      obtain ⟨hj, y, z, hw, hy, hz⟩ := hx
      obtain ⟨dx, a, h1, h2⟩ := id hw
      have hnh : hand c = false := by rcases joint_two hj with rfl | rfl <;> rfl
      refine ⟨_, rfl, x, dx, _, rfl, h1, x, c, _, rfl, hw, _, _, rfl, .inr (T.htup _), rfl, rfl, _, rfl, ?_⟩
      simp only [Bool.false_eq_true, if_false, in_hands, hnh]
      refine ⟨_, rfl, x, dx, _, rfl, h1, x, c, _, rfl, hw, fun a2 ha2 => ⟨a2, _, rfl, .inr ha2, rfl, _, rfl, ?_⟩⟩
      refine iteF ?_
      simp only [dep] at hd
      obtain ⟨m, rfl⟩ : ∃ m, n = m + 1 := ⟨n - 1, by omega⟩
      refine ⟨_, rfl, x, dx, _, rfl, h1, x, c, _, rfl, hw, fun a3 ha3 => ⟨a3, rfl, ⟨_, ha3⟩, fun D hD => lc_it (walk_tup (K := K) (a := a3) (xs := [.ref y, .ref z])) (fun i H' => Same H H' ∧ H' D = some (.lst (([V.str (one (mk k l)), V.str (one (mk k r))] : List V).take i))) ⟨same_new hD, upd_same⟩ (fun i H' _ p => SqT.same p.1 ha3) ?_ ?_⟩⟩
      · rintro i v H1 H2 hi ⟨sm, hDl⟩ ⟨rfl, hv⟩
        refine ⟨rfl, yes_if ?_⟩
        have go : ∀ {u : Addr} {tt : Tr}, v = .ref u → IsTr K H2 u tt → dep tt ≤ m → ([V.str (one (mk k l)), V.str (one (mk k r))] : List V)[i]? = some (.str (one (mk k tt))) →
            spMarkL K (m + 1) [v, .str (kS k)] H2 (fun v H3 => ∃ acc, H3 D = some (.lst acc) ∧ acc.length < sizeLine ∧ Same H (upd H3 D (.lst (acc ++ [v]))) ∧ (upd H3 D (.lst (acc ++ [v]))) D = some (.lst (([V.str (one (mk k l)), V.str (one (mk k r))] : List V).take (i + 1)))) E0 := fun {u tt} e ht hdt hit => by
          subst e
          exact ⟨u, tt, k, rfl, ht, hdt, fun H3 s3 => ⟨_, s3 _ _ hDl, lt_line (Nat.le_trans (List.length_take_le' _ _) (by show 2 ≤ 100000; decide)), Same.grow (sm.trans s3) hD, by rw [upd_same, take_one hit]⟩⟩
        have hi' : i = 0 ∨ i = 1 := by have : i < 2 := hi; omega
        rcases hi' with rfl | rfl
        · exact ⟨_, rfl, _, rfl, go (Option.some.inj hv).symm (hy.same sm) (by omega) rfl⟩
        · exact ⟨_, rfl, _, rfl, go (Option.some.inj hv).symm (hz.same sm) (by omega) rfl⟩
      · rintro H1 ⟨sm, hDl⟩
        refine ⟨D, _, rfl, SqL.of hDl, rfl, _, _, rfl, _, _, rfl, rfl, ?_⟩
        have w1 := hw.same sm
        obtain ⟨dx1, a1, g1, g2⟩ := id w1
        refine ⟨_, rfl, x, dx1, _, rfl, g1, x, c, _, rfl, w1, rfl, _, rfl, ?_⟩
        rw [show decide (V.str (one c) = V.str "+") = (c == 43) from dec_one]
        have q1 := q _ sm
        simp only [mk] at q1
        refine ite2 (fun h => ?_) (fun h => ?_)
        · rw [if_pos (by simpa using h)] at q1
          exact ⟨_, rfl, _, rfl, _, _, rfl, q1⟩
        · rw [if_neg (by simpa using h)] at q1
          exact ⟨_, rfl, _, rfl, _, _, rfl, q1⟩
theorem ok_mark {fdW fdS fdC fdL fdg fdp : FuncData} (F : FnP K "mark" iMark (He.ga K "mark") fd) (T : Txt K mg) (Z : Mkf K fdW fdS fdC fdL fdg fdp) : ∀ n, FnOk P w K mg base CX0 (4 + n) (He.ga K "mark") fd ["word", "kind"] (spMark K n) := by
  intro n
  induction n with
  | zero => exact ok_mark1 F T Z 0 ⟨fun _ _ _ _ h => h.elim, fun _ _ _ _ _ _ _ _ _ _ _ _ _ h => h.elim⟩
  | succ n ih => exact ok_mark1 F T Z (n + 1) (by rw [show 3 + (n + 1) = 4 + n by omega]; exact ih)
end
end KF

set_option Elab.async false
set_option linter.all false
set_option maxRecDepth 100000
set_option maxHeartbeats 4000000
/-! # classes.py: marks -/
namespace KF
open PySem PySem.Spec PyProof.Rows L2 VX KW
section
variable {P : Program} {w : World} {K : PySem.W.Frag} {mg : Str → Option Value} {base : Heap} {f : Addr} {fd : FuncData}
def dictK (g : List Nat → V) : List (Key × V) := kinds.map fun k => (Sum.inr (kS k), g k)
theorem dictK_put (g : List Nat → V) {i : Nat} {k : List Nat} (h : kinds[i]? = some k) : putK ((dictK g).take i) (Sum.inr (kS k)) (g k) = (dictK g).take (i + 1) := by
  match i, h with
  | 0, h => cases h; rfl
  | 1, h => cases h; rfl
  | 2, h => cases h; rfl
  | 3, h => cases h; rfl
  | 4, h => cases h; rfl
  | 5, h => cases h; rfl
  | 6, h => cases h; rfl
  | 7, h => cases h; rfl
  | 8, h => cases h; rfl
  | i + 9, h => exact absurd h (by simp [kinds])
theorem dictK_get (g : List Nat → V) {i : Nat} {k : List Nat} (h : kinds[i]? = some k) : valV (dictK g) (Sum.inr (kS k)) = some (g k) := by
  match i, h with
  | 0, h => cases h; rfl
  | 1, h => cases h; rfl
  | 2, h => cases h; rfl
  | 3, h => cases h; rfl
  | 4, h => cases h; rfl
  | 5, h => cases h; rfl
  | 6, h => cases h; rfl
  | 7, h => cases h; rfl
  | 8, h => cases h; rfl
  | i + 9, h => exact absurd h (by simp [kinds])
theorem kind_at {i : Nat} {v : V} (h : kindV[i]? = some v) : ∃ k, kinds[i]? = some k ∧ v = .str (kS k) := by
  match i, h with
  | 0, h => cases h; exact ⟨_, rfl, rfl⟩
  | 1, h => cases h; exact ⟨_, rfl, rfl⟩
  | 2, h => cases h; exact ⟨_, rfl, rfl⟩
  | 3, h => cases h; exact ⟨_, rfl, rfl⟩
  | 4, h => cases h; exact ⟨_, rfl, rfl⟩
  | 5, h => cases h; exact ⟨_, rfl, rfl⟩
  | 6, h => cases h; exact ⟨_, rfl, rfl⟩
  | 7, h => cases h; exact ⟨_, rfl, rfl⟩
  | 8, h => cases h; exact ⟨_, rfl, rfl⟩
  | i + 9, h => exact absurd h (by simp [kindV])
end
end KF

set_option Elab.async false
set_option linter.all false
set_option maxRecDepth 100000
set_option maxHeartbeats 4000000
/-! # classes.py: parting, breach, same, below -/
namespace KF
open PySem PySem.Spec PyProof.Rows L2 VX KW
section
variable {P : Program} {w : World} {K : PySem.W.Frag} {mg : Str → Option Value} {base : Heap} {f : Addr} {fd : FuncData}
def spWon (K : PySem.W.Frag) : Sp := fun vs H Q _ => ∃ (x y : Addr) (s t : Tr) (k : List Nat), vs = [.ref x, .ref y, .str (kS k)] ∧ IsTr K H x s ∧ IsTr K H y t ∧ dep s ≤ 20 ∧ dep t ≤ 20 ∧ ∀ H', Same H H' → Q (.bl (isW (mk k s) (mk k t))) H'
theorem sc_won : FnScope ["one", "other", "kind"] ["one", "other", "kind"] (defScope (top iWon)) := ⟨rfl, rfl, rfl, by decide +kernel, rfl, by decide +kernel, by decide +kernel⟩
theorem ok_won {fdM fdW fdS fdC fdL fdg fdp : FuncData} (F : FnP K "within_on" iWon f fd) (T : Txt K mg) (FM : FnP K "mark" iMark (He.ga K "mark") fdM) (Z : Mkf K fdW fdS fdC fdL fdg fdp) : FnOk P w K mg base CX0 25 f fd ["one", "other", "kind"] (spWon K) := by
  have GM : FnOk P w K mg base CX0 24 _ fdM ["word", "kind"] (spMark K 20) := ok_mark FM T Z 20
  have BM : Binds K fdM ["word", "kind"] [] := FM.bindsN fun _ _ _ _ _ _ us hl => match us, hl with | [_, _], _ => rfl
  have GW : FnOk P w K mg base CX0 1 _ fdW ["one", "other"] spWithin := ok_within Z.fw T
  have BW : Binds K fdW ["one", "other"] [] := Z.fw.bindsN fun _ _ _ _ _ _ us hl => match us, hl with | [_, _], _ => rfl
  refine F.ok sc_won (fun vs H Q E h => ?_) (fun cdv A outer s H vs Q E hr h => ?_)
  · obtain ⟨x, y, s, t, k, rfl, _⟩ := h
    rfl
  · obtain ⟨x, y, s', t, k, rfl, hx, hy, hds, hdt, q⟩ := h
    have hr1 : Room 1 _ := hr.mono (by decide)
    refine ⟨_, PSs.nox (pss_one (ps_ret (pe_call GW hr1 (by rfl) (T.df "is_within" iWithin) Z.fw.kp BW .nil pass0 (pa_cons (pe_call GM hr (by rfl) (T.df "mark" iMark) FM.kp BM .nil pass0 (pa_cons (pv 0) (pa_cons (pv 2) pa_nil))) (pa_cons (pe_call GM hr (by rfl) (T.df "mark" iMark) FM.kp BM .nil pass0 (pa_cons (pv 1) (pa_cons (pv 2) pa_nil))) pa_nil))))), ?_⟩
    exact ⟨_, rfl, _, rfl, x, s', k, rfl, hx, hds, fun H2 s2 => ⟨_, rfl, _, rfl, y, t, k, rfl, hy.same s2, hdt, fun H3 s3 => ⟨mk k s', mk k t, rfl, q _ (s2.trans s3)⟩⟩⟩
end
end KF

set_option Elab.async false
set_option linter.all false
set_option maxRecDepth 100000
set_option maxHeartbeats 4000000
/-! # the draws, trees -/
namespace KF
open PySem PySem.Spec PyProof.Rows L2 VX KW
section
variable {P : Program} {w : World} {K : PySem.W.Frag} {mg : Str → Option Value} {base : Heap} {f : Addr} {fd : FuncData}
theorem sc_cell : FnScope ["_law_script", "_law_k"] ["_law_script", "_law_k"] (defScope (top iCell)) := ⟨rfl, rfl, rfl, by decide +kernel, rfl, by decide +kernel, by decide +kernel⟩
theorem ok_cell (F : FnP K "_law_cell" iCell f fd) (T : Txt K mg) : FnOk P w K mg base CX0 1 f fd ["_law_script", "_law_k"] (spCell K) := by
  refine F.ok sc_cell (fun vs H Q E h => ?_) (fun cdv A outer s H vs Q E hr h => ⟨tCellE K, PSs.nox ?_, cellE_run h⟩)
  · obtain ⟨l, ns, j, rfl, _⟩ := h
    rfl
  · exact pss_one (ps_ret (pe_ifExp (pt_cmp (pc_lt (pv 1) (pe_callB call_len (by rfl) (T.fr "len") boot_len (pa_cons (pv 0) pa_nil)))) (pe_ix ix_seq (pv 0) (pv 1) fun _ _ => rfl) pe_int))
/-! ### _law_box -/
theorem sc_box : FnScope ["_law_script", "_law_k"] ["_law_script", "_law_k"] (defScope (top iBox)) := ⟨rfl, rfl, rfl, by decide +kernel, rfl, by decide +kernel, by decide +kernel⟩
theorem ok_box {fd1 : FuncData} (F : FnP K "_law_box" iBox f fd) (T : Txt K mg) (F1 : FnP K "_law_cell" iCell (He.ga K "_law_cell") fd1) : FnOk P w K mg base CX0 2 f fd ["_law_script", "_law_k"] (spBox K) := by
  have G1 : FnOk P w K mg base CX0 1 _ fd1 ["_law_script", "_law_k"] (spCell K) := ok_cell F1 T
  have B1 : Binds K fd1 ["_law_script", "_law_k"] [] := F1.bindsN fun _ _ _ _ _ _ us hl => match us, hl with | [_, _], _ => rfl
  refine F.ok sc_box (fun vs H Q E h => ?_) (fun cdv A outer s H vs Q E hr h => ?_)
  · obtain ⟨l, ns, j, rfl, _⟩ := h
    rfl
  · obtain ⟨l, ns, j, rfl, hs, hj, k⟩ := h
    refine ⟨_, PSs.nox (pss_one (ps_ret (pe_lst (pa_cons (pe_callB call_abs (by rfl) (T.fr "abs") (by decide +kernel) (pa_cons (pe_callTy call_int1 (by rfl) (T.fr "int") boot_int
      (pa_cons (pe_call G1 hr (by rfl) (T.df "_law_cell" iCell) F1.kp B1 .nil pass0 (pa_cons (pv 0) (pa_cons (pv 1) pa_nil))) pa_nil)) pa_nil)) (pa_cons pe_int (pa_cons (pe_op op_add (pe_op op_mul pe_int (pv 1)) pe_int) pa_nil)))))), ?_⟩
    refine ⟨_, rfl, _, rfl, l, ns, j, rfl, hs, .inl ⟨_, rfl, _, rfl, _, rfl, _, _, rfl, rfl, .inl ⟨by decide, by decide⟩, _, _, rfl, rfl, (by show 3 ≤ sizeLine; decide), fun p hp => ?_⟩⟩
    have e : (if cellOf ns j < 0 then -cellOf ns j else cellOf ns j) = ((cellOf ns j).natAbs : Int) := by
      by_cases h : cellOf ns j < 0
      · rw [if_pos h]; omega
      · rw [if_neg h]; omega
    rw [e]
    exact k p _ hp (same_new hp) ⟨_, 0, _, upd_same, by omega, by omega, by omega, by omega, by omega⟩
/-! ### _law_take -/
theorem sc_take : FnScope ["_law_box_here", "_law_many", "_law_digit", "_law_mixed"] ["_law_box_here", "_law_many"] (defScope (top iTake)) := ⟨rfl, rfl, rfl, by decide +kernel, rfl, by decide +kernel, by decide +kernel⟩
theorem ok_take (F : FnP K "_law_take" iTake f fd) (T : Txt K mg) : FnOk P w K mg base CX0 1 f fd ["_law_box_here", "_law_many"] spTake := by
  refine F.ok sc_take (fun vs H Q E h => ?_) (fun cdv A outer s H vs Q E hr h => ?_)
  · obtain ⟨b, m, x, y, z, rfl, _⟩ := h
    rfl
  · obtain ⟨b, m, x, y, z, rfl, hb, x0, y0, y1, z0, z1, m0, m1, k⟩ := h
    have i0 := T.fr "int"
    refine ⟨_, PSs.nox (pss_cons (ps_if (pt_cmpR op_ge (pe_ix ix_list (pv 0) pe_int (fun _ _ => rfl)) (pe_op op_pow pe_int pe_int) (nomark _))
        (pss_cons (ps_set (i := 2) sc_take.nd rfl (Or.inl rfl) (pe_op op_mod (pe_callTy call_int1 (by rfl) i0 boot_int (pa_cons (pe_ix ix_list (pv 0) pe_int (fun _ _ => rfl)) pa_nil)) (pv 1)))
        (pss_cons (ps_asg (pe_op op_fdiv (pe_ix ix_list (pv 0) pe_int (fun _ _ => rfl)) (pv 1)) (pg_sub (pv 0) pe_int set_list))
        (pss_one (ps_ret (pv 2))))) pss_nil)
      (pss_cons (ps_asg (pe_op op_add (pe_ix ix_list (pv 0) pe_int (fun _ _ => rfl)) pe_int) (pg_sub (pv 0) pe_int set_list))
      (pss_cons (ps_set (i := 3) sc_take.nd rfl (Or.inl rfl) (pe_op op_mod (pe_op op_pw (pe_callTy call_int1 (by rfl) i0 boot_int (pa_cons (pe_op op_add (pe_op op_add (pe_op op_mul (pe_op op_add (pe_ix ix_list (pv 0) pe_int (fun _ _ => rfl)) pe_int) pe_int)
          (pe_op op_mul (pe_ix ix_list (pv 0) pe_int (fun _ _ => rfl)) pe_int)) (pe_ix ix_list (pv 0) pe_int (fun _ _ => rfl))) pa_nil)) pe_int) pe_int))
      (pss_cons (ps_set (i := 3) sc_take.nd rfl (Or.inl rfl) (pe_op op_mod (pe_op op_pw (pe_callTy call_int1 (by rfl) i0 boot_int (pa_cons (pe_op op_add (pv 3) (pe_op op_mul (pe_ix ix_list (pv 0) pe_int (fun _ _ => rfl)) pe_int)) pa_nil)) pe_int) pe_int))
      (pss_one (ps_ret (pe_op op_mod (pe_callTy call_int1 (by rfl) i0 boot_int (pa_cons (pe_op op_fdiv (pv 3) pe_int) pa_nil)) (pv 1)))))))), ?_⟩
    refine ⟨_, rfl, b, _, _, _, rfl, rfl, SqL.of hb, rfl, _, _, rfl, rfl, ⟨by decide, by decide, by decide⟩, _, _, rfl, rfl, _, rfl, ?_⟩
    refine ite2 (fun c => ?_) (fun c => ?_)
    · refine ⟨_, rfl, b, _, _, _, rfl, rfl, SqL.of hb, rfl, .inl ⟨_, rfl, _, rfl, _, _, rfl, rfl, m0, ?_⟩⟩
      refine ⟨_, rfl, b, _, _, _, rfl, rfl, SqL.of hb, rfl, _, rfl, _, _, rfl, rfl, ⟨m0, by omega⟩, ?_⟩
      refine ⟨_, rfl, b, _, _, 0, rfl, rfl, hb, rfl, _, rfl, ?_⟩
      have d0 : 0 ≤ x % m := Int.emod_nonneg x (by omega)
      have d1 : x % m < m := Int.emod_lt_of_pos x m0
      have q0 : 0 ≤ x / m := Int.ediv_nonneg x0 (by omega)
      have q1 : x / m ≤ x := Int.ediv_le_self m x0
      exact k (x % m) (x / m) y d0 d1 q0 q1 (by omega) (by omega)
    · have c' : x < 10 ^ 18 := by simpa using c
      refine ⟨_, rfl, b, _, _, _, rfl, rfl, SqL.of hb, rfl, _, _, rfl, rfl, ?_⟩
      refine ⟨_, rfl, b, _, _, 1, rfl, rfl, hb, rfl, ?_⟩
      have h1 : upd H b (.lst (([V.int x, V.int y, V.int z] : List V).set 1 (V.int (y + 1)))) b = some (.lst [.int x, .int (y + 1), .int z]) := upd_same
      refine ⟨_, rfl, b, _, _, _, rfl, rfl, SqL.of h1, rfl, _, _, rfl, rfl, _, _, rfl, rfl, .inr ⟨by decide, by decide⟩, _, rfl, b, _, _, _, rfl, rfl, SqL.of h1, rfl, _, _, rfl, rfl, .inr ⟨by decide, by decide⟩, _, _, rfl, rfl, _, rfl, b, _, _, _, rfl, rfl, SqL.of h1, rfl, _, _, rfl, rfl, .inl ⟨_, rfl, _, _, rfl, rfl, pw_ok (by omega) (by omega), _, _, rfl, rfl, (by show (0 : Int) < 2147483647; decide), ?_⟩⟩
      refine ⟨_, rfl, _, rfl, b, _, _, _, rfl, rfl, SqL.of h1, rfl, _, _, rfl, rfl, .inr ⟨by decide, by decide⟩, _, _, rfl, rfl, .inl ⟨_, rfl, _, _, rfl, rfl, ?_, _, _, rfl, rfl, (by show (0 : Int) < 2147483399; decide), ?_⟩⟩
      · have a0 := Int.emod_nonneg (((x + 7) * 69069 + (y + 1) * 40692 + z) ^ Int.toNat 3) (show (2147483647 : Int) ≠ 0 by decide)
        have a1 := Int.emod_lt_of_pos (((x + 7) * 69069 + (y + 1) * 40692 + z) ^ Int.toNat 3) (show (0 : Int) < 2147483647 by decide)
        exact pw_ok (by omega) (by omega)
      · refine ⟨_, rfl, _, _, rfl, rfl, ⟨by decide, by decide⟩, .inl ⟨_, rfl, _, rfl, _, _, rfl, rfl, m0, ?_⟩⟩
        exact k _ x (y + 1) (Int.emod_nonneg _ (by omega)) (Int.emod_lt_of_pos _ m0) x0 (Int.le_refl x) (by omega) (by omega)
/-! ### _law_tree -/
/-- the tree of tuples at v -/
def IsTT (H : Hp) : V → Tr → Prop
  | v, .lf c => leafC c = true ∧ ∃ a, v = .ref a ∧ H a = some (.tup [.str (one c), .non, .non])
  | v, .nd c l r => jointC c = true ∧ ∃ a u z, v = .ref a ∧ H a = some (.tup [.str (one c), u, z]) ∧ IsTT H u l ∧ IsTT H z r
theorem IsTT.wf {H : Hp} : ∀ {t : Tr} {v : V}, IsTT H v t → WF t = true
  | .lf c, _, h => h.1
  | .nd c l r, _, h => by
    obtain ⟨j, a, u, z, _, _, h2, h3⟩ := h
    simp only [WF, j, h2.wf, h3.wf, Bool.and_self]
theorem IsTT.same {H H' : Hp} (s : Same H H') : ∀ {t : Tr} {v : V}, IsTT H v t → IsTT H' v t
  | .lf c, _, h => by
    obtain ⟨j, a, e, h1⟩ := h
    exact ⟨j, a, e, s _ _ h1⟩
  | .nd c l r, _, h => by
    obtain ⟨j, a, u, z, e, h1, h2, h3⟩ := h
    exact ⟨j, a, u, z, e, s _ _ h1, h2.same s, h3.same s⟩
theorem IsTT.kept {H H' : Hp} {b : Addr} {N : Nat} (k : Kept b H H') (hb : BoxK H b N) : ∀ {t : Tr} {v : V}, IsTT H v t → IsTT H' v t
  | .lf c, _, h => by
    obtain ⟨j, a, e, h1⟩ := h
    obtain ⟨xs, hx⟩ := hb.at
    exact ⟨j, a, e, k _ _ h1 (ne_of h1 hx (by intro z; cases z))⟩
  | .nd c l r, _, h => by
    obtain ⟨j, a, u, z, e, h1, h2, h3⟩ := h
    obtain ⟨xs, hx⟩ := hb.at
    exact ⟨j, a, u, z, e, k _ _ h1 (ne_of h1 hx (by intro z; cases z)), h2.kept k hb, h3.kept k hb⟩
theorem IsTT.ref {H : Hp} : ∀ {t : Tr} {v : V}, IsTT H v t → ∃ a, v = .ref a
  | .lf _, _, h => let ⟨_, a, e, _⟩ := h; ⟨a, e⟩
  | .nd _ _ _, _, h => let ⟨_, a, _, _, e, _⟩ := h; ⟨a, e⟩
def spTree (n : Nat) : Sp := fun vs H Q _ => ∃ (b : Addr) (N m : Nat), vs = [.ref b, .int m] ∧ BoxK H b N ∧ N + 3 * m ≤ 800000 ∧ m ≤ 1000 ∧ 1 ≤ m ∧ m ≤ n + 1 ∧
  ∀ H' a t, Kept b H H' → BoxK H' b (N + (3 * m - 2)) → IsTT H' (.ref a) t → dep t < m → Q (.ref a) H'
def spTreeL : Nat → Sp
  | 0 => fun _ _ _ _ => False
  | n + 1 => spTree n
theorem sc_tree : FnScope ["_law_box_here", "_law_size", "_law_left_here"] ["_law_box_here", "_law_size"] (defScope (top iTree)) := ⟨rfl, rfl, rfl, by decide +kernel, rfl, by decide +kernel, by decide +kernel⟩
theorem ok_tree1 {fdT : FuncData} (F : FnP K "_law_tree" iTree (He.ga K "_law_tree") fd) (T : Txt K mg) (FT : FnP K "_law_take" iTake (He.ga K "_law_take") fdT) (n : Nat) (GR : FnOk P w K mg base CX0 (1 + n) (He.ga K "_law_tree") fd ["_law_box_here", "_law_size"] (spTreeL n)) :
    FnOk P w K mg base CX0 (2 + n) (He.ga K "_law_tree") fd ["_law_box_here", "_law_size"] (spTree n) := by
  have BR : Binds K fd ["_law_box_here", "_law_size"] [] := F.bindsN fun _ _ _ _ _ _ us hl => match us, hl with | [_, _], _ => rfl
  have GT : FnOk P w K mg base CX0 1 _ fdT ["_law_box_here", "_law_many"] spTake := ok_take FT T
  have BT : Binds K fdT ["_law_box_here", "_law_many"] [] := FT.bindsN fun _ _ _ _ _ _ us hl => match us, hl with | [_, _], _ => rfl
  rw [show 2 + n = (1 + n) + 1 by omega]
  refine F.ok sc_tree (fun vs H Q E h => ?_) (fun cdv A outer s H vs Q E hr h => ?_)
  · obtain ⟨b, N, m, rfl, _⟩ := h
    rfl
  · obtain ⟨b, N, m, rfl, hb, hN, hm9, hm1, hmn, q⟩ := h
    have nd := sc_tree.nd
    have hr1 : Room 1 _ := hr.mono (by omega)
    refine ⟨_, PSs.nox (pss_cons (ps_if (pt_cmpR op_eq (pv 1) pe_int (nomark _)) (pss_one (ps_ret (pe_tup (pa_cons (pe_ix ix_list (pe_lst (pa_cons pe_str (pa_cons pe_str (pa_cons pe_str (pa_cons pe_str (pa_cons pe_str (pa_cons pe_str (pa_cons pe_str (pa_cons pe_str pa_nil))))))))) (pe_call GT hr1 (by rfl) (T.df "_law_take" iTake) FT.kp BT .nil pass0 (pa_cons (pv 0) (pa_cons pe_int pa_nil))) (fun _ _ => rfl)) (pa_cons pe_non (pa_cons pe_non pa_nil)))))) pss_nil) (pss_cons (ps_set (i := 2) nd rfl (.inl rfl) (pe_op op_add pe_int (pe_call GT hr1 (by rfl) (T.df "_law_take" iTake) FT.kp BT .nil pass0 (pa_cons (pv 0) (pa_cons (pe_op op_sub (pv 1) pe_int) pa_nil))))) (pss_one (ps_ret (pe_tup (pa_cons (pe_ix ix_list (pe_lst (pa_cons pe_str (pa_cons pe_str pa_nil))) (pe_call GT hr1 (by rfl) (T.df "_law_take" iTake) FT.kp BT .nil pass0 (pa_cons (pv 0) (pa_cons pe_int pa_nil))) (fun _ _ => rfl)) (pa_cons (pe_call GR hr (by rfl) (T.df "_law_tree" iTree) F.kp BR .nil pass0 (pa_cons (pv 0) (pa_cons (pv 2) pa_nil))) (pa_cons (pe_call GR hr (by rfl) (T.df "_law_tree" iTree) F.kp BR .nil pass0 (pa_cons (pv 0) (pa_cons (pe_op op_sub (pv 1) (pv 2)) pa_nil))) pa_nil)))))))), ?_⟩
    refine ⟨_, rfl, rfl, _, rfl, ?_⟩
    refine ite2 (fun h1 => ?_) (fun h1 => ?_)
    · have e1 : m = 1 := by
        have := of_decide_eq_true h1
        injection this with this
        omega
      subst e1
      refine ⟨(by show 8 ≤ sizeLine; decide), fun l0 hl0 => ⟨_, rfl, ?_⟩⟩
      dsimp -proj only [tCons, tC, tNil, List.append_nil]
      refine pick_use (m := 8) hb hl0 (by omega) rfl (by decide) (by decide) fun v H1 hv k1 b1 => ?_
      have hv : ∃ c, v = .str (one c) ∧ leafC c = true := by
        simp only [List.mem_cons, List.not_mem_nil, or_false] at hv
        rcases hv with rfl | rfl | rfl | rfl | rfl | rfl | rfl | rfl
        · exact ⟨97, rfl, rfl⟩
        · exact ⟨98, rfl, rfl⟩
        · exact ⟨99, rfl, rfl⟩
        · exact ⟨97, rfl, rfl⟩
        · exact ⟨98, rfl, rfl⟩
        · exact ⟨99, rfl, rfl⟩
        · exact ⟨48, rfl, rfl⟩
        · exact ⟨49, rfl, rfl⟩
      obtain ⟨c, rfl, hc⟩ := hv
      refine ⟨(by show 3 ≤ sizeLine; decide), fun p hp => ?_⟩
      have s1 := same_new (o := .tup [.str (one c), .non, .non]) hp
      exact q _ p (.lf c) (k1.trans (Kept.of s1)) ((b1.same s1).mono (by omega)) ⟨hc, p, rfl, upd_same⟩ (by show 0 < 1; decide)
    · have h1' : m ≠ 1 := fun e => h1 (decide_eq_true (by rw [e]; rfl))
      obtain ⟨n, rfl⟩ : ∃ n', n = n' + 1 := ⟨n - 1, by omega⟩
      refine ⟨_, rfl, _, rfl, _, _, rfl, rfl, ?_⟩
      dsimp -proj only [tCons, tC, tNil, List.append_nil]
      refine take_use (m := (m : Int) - 1) hb (by omega) (by omega) (by omega) fun d H1 d0 d1 k1 b1 _ => ?_
      obtain ⟨e, rfl⟩ : ∃ e : Nat, d = (e : Int) := ⟨d.toNat, by omega⟩
      refine ⟨_, _, rfl, rfl, ?_⟩
      refine ⟨(by show 2 ≤ sizeLine; decide), fun l0 hl0 => ⟨_, rfl, ?_⟩⟩
      dsimp -proj only [tCons, tC, tNil, List.append_nil]
      refine pick_use (m := 2) b1 hl0 (by omega) rfl (by decide) (by decide) fun v H2 hv k2 b2 => ?_
      have hv : ∃ c, v = .str (one c) ∧ jointC c = true := by
        simp only [List.mem_cons, List.not_mem_nil, or_false] at hv
        rcases hv with rfl | rfl
        · exact ⟨43, rfl, rfl⟩
        · exact ⟨38, rfl, rfl⟩
      obtain ⟨c, rfl, hc⟩ := hv
      refine ⟨_, rfl, _, rfl, b, N + 1 + 1, e + 1, ?_, b2, by omega, by omega, by omega, by omega, fun H3 a1 t1 k3 b3 ht1 hd1 => ?_⟩
      · show [V.ref b, V.int (1 + (e : Int))] = _
        rw [show (1 + (e : Int)) = ((e + 1 : Nat) : Int) by omega]
      refine ⟨_, rfl, _, rfl, _, rfl, _, _, rfl, rfl, b, _, m - (e + 1), ?_, b3, by omega, by omega, by omega, by omega, fun H4 a2 t2 k4 b4 ht2 hd2 => ?_⟩
      · show [V.ref b, V.int ((m : Int) - (1 + (e : Int)))] = _
        rw [show ((m : Int) - (1 + (e : Int))) = ((m - (e + 1) : Nat) : Int) by omega]
      refine ⟨(by show 3 ≤ sizeLine; decide), fun p hp => ?_⟩
      have s1 := same_new (o := .tup [.str (one c), .ref a1, .ref a2]) hp
      refine q _ p (.nd c t1 t2) (k1.trans (k2.trans (k3.trans (k4.trans (Kept.of s1))))) ((b4.same s1).mono (by omega)) ⟨hc, p, .ref a1, .ref a2, rfl, upd_same, (ht1.kept k4 b3).same s1, ht2.same s1⟩ ?_
      simp only [dep]
      omega
theorem ok_tree {fdT : FuncData} (F : FnP K "_law_tree" iTree (He.ga K "_law_tree") fd) (T : Txt K mg) (FT : FnP K "_law_take" iTake (He.ga K "_law_take") fdT) : ∀ n, FnOk P w K mg base CX0 (2 + n) (He.ga K "_law_tree") fd ["_law_box_here", "_law_size"] (spTree n) := by
  intro n
  induction n with
  | zero => exact ok_tree1 F T FT 0 ⟨fun _ _ _ _ h => h.elim, fun _ _ _ _ _ _ _ _ _ _ _ _ _ h => h.elim⟩
  | succ n ih => exact ok_tree1 F T FT (n + 1) (by rw [show 1 + (n + 1) = 2 + n by omega]; exact ih)
end
end KF

set_option Elab.async false
set_option linter.all false
set_option maxRecDepth 100000
set_option maxHeartbeats 4000000
/-! # _law_word -/
namespace KF
open PySem PySem.Spec PyProof.Rows L2 VX KW
section
variable {P : Program} {w : World} {K : PySem.W.Frag} {mg : Str → Option Value} {base : Heap} {f : Addr} {fd : FuncData}
def spLWord (K : PySem.W.Frag) (n : Nat) : Sp := fun vs H Q _ => ∃ (v : V) (t : Tr), vs = [v] ∧ IsTT H v t ∧ dep t ≤ n ∧ ∀ H' x, Same H H' → IsTr K H' x t → Q (.ref x) H'
def spLWordL (K : PySem.W.Frag) : Nat → Sp
  | 0 => fun _ _ _ _ => False
  | n + 1 => spLWord K n
theorem sc_lword : FnScope ["_law_tree_here"] ["_law_tree_here"] (defScope (top iLWord)) := ⟨rfl, rfl, rfl, by decide +kernel, rfl, by decide +kernel, by decide +kernel⟩
theorem ok_lword1 {fdI fd1 : FuncData} {dv : V} (F : FnP K "_law_word" iLWord (He.ga K "_law_word") fd) (T : Txt K mg) (Z : Wif K fdI dv fd1) (n : Nat) (GR : FnOk P w K mg base CX0 (3 + n) (He.ga K "_law_word") fd ["_law_tree_here"] (spLWordL K n)) :
    FnOk P w K mg base CX0 (4 + n) (He.ga K "_law_word") fd ["_law_tree_here"] (spLWord K n) := by
  have BR : Binds K fd ["_law_tree_here"] [] := F.bindsN fun _ _ _ _ _ _ us hl => match us, hl with | [_], _ => rfl
  have GI : FnOk P w K mg base CX0 2 _ fdI ["self", "sign", "parts"] (spWI K) := ok_wi Z.fi T Z.ft
  obtain ⟨ds, h0, BI0⟩ := Z.b0
  have BI := Z.b1
  obtain ⟨ad, rfl, hdv⟩ := Z.dv
  rw [show 4 + n = (3 + n) + 1 by omega]
  refine F.ok sc_lword (fun vs H Q E h => ?_) (fun cdv A outer s H vs Q E hr h => ?_)
  · obtain ⟨v, t, rfl, _⟩ := h
    rfl
  · obtain ⟨v, t, rfl, ht, hd, q⟩ := h
    have nd := sc_lword.nd
    have hr3 : Room (2 + 1) _ := hr.mono (by omega)
    refine ⟨_, PSs.nox (pss_cons (ps_if (pt_cmpR op_isN (pe_ix ix_tup (pv 0) pe_int (fun _ _ => rfl)) pe_non (nomark _)) (pss_one (ps_ret (pe_make T.mks GI hr3 (by rfl) T.word BI0 h0 pass0 (pa_cons (pe_ix ix_tup (pv 0) pe_int (fun _ _ => rfl)) pa_nil)))) pss_nil) (pss_one (ps_ret (pe_make T.mks GI hr3 (by rfl) T.word BI .nil pass0 (pa_cons (pe_ix ix_tup (pv 0) pe_int (fun _ _ => rfl)) (pa_cons (pe_lst (pa_cons (pe_call GR hr (by rfl) (T.df "_law_word" iLWord) F.kp BR .nil pass0 (pa_cons (pe_ix ix_tup (pv 0) pe_int (fun _ _ => rfl)) pa_nil)) (pa_cons (pe_call GR hr (by rfl) (T.df "_law_word" iLWord) F.kp BR .nil pass0 (pa_cons (pe_ix ix_tup (pv 0) pe_int (fun _ _ => rfl)) pa_nil)) pa_nil))) pa_nil)))))), ?_⟩
    cases t with
    | lf c =>
      obtain ⟨hc, a, rfl, ha⟩ := ht
      refine ⟨_, rfl, a, _, 1, _, rfl, rfl, SqT.of ha, rfl, rfl, _, rfl, ?_⟩
      refine iteT ⟨_, rfl, a, _, 0, _, rfl, rfl, SqT.of ha, rfl, fun x dx hx hdx ne => ?_⟩
      have s1 : Same H (upd (upd H dx (.own x)) x (.ins (wC K) dx [])) := same_two hdx (by rw [upd_ne (Ne.symm ne)]; exact hx)
      refine ⟨x, c, ad, [], dx, rfl, upd_same, .inr (hdv _), (by show fitB c 0 = true; simp [fitB, hc]), (by show 0 ≤ 1000; decide), fun H' kept isw => ⟨rfl, ?_⟩⟩
      exact q H' x (fun b o z => kept b o (s1 _ _ z) (ne_of_none z hx)) ⟨hc, isw⟩
    | nd c l r =>
      obtain ⟨hc, a, u, z, rfl, ha, hl, hr'⟩ := ht
      simp only [dep] at hd
      obtain ⟨m, rfl⟩ : ∃ m, n = m + 1 := ⟨n - 1, by omega⟩
      have un : u ≠ .non := by obtain ⟨a, e⟩ := hl.ref; rw [e]; intro z; cases z
      refine ⟨_, rfl, a, _, 1, _, rfl, rfl, SqT.of ha, rfl, rfl, _, rfl, ?_⟩
      rw [show decide (u = V.non) = false from decide_eq_false un]
      refine iteF ⟨_, rfl, a, _, 0, _, rfl, rfl, SqT.of ha, rfl, ?_⟩
      refine ⟨_, rfl, a, _, 1, _, rfl, rfl, SqT.of ha, rfl, u, l, rfl, hl, by omega, fun H1 x1 s1 t1 => ?_⟩
      refine ⟨_, rfl, a, _, 2, _, rfl, rfl, SqT.of (s1 _ _ ha), rfl, z, r, rfl, hr'.same s1, by omega, fun H2 x2 s2 t2 => ?_⟩
      refine ⟨(by show 2 ≤ sizeLine; decide), fun p hp x dx hx hdx ne => ?_⟩
      have s12 := s1.trans s2
      have sp := same_new (o := .lst [.ref x1, .ref x2]) hp
      have s3 : Same (upd H2 p (.lst [.ref x1, .ref x2])) (upd (upd (upd H2 p (.lst [.ref x1, .ref x2])) dx (.own x)) x (.ins (wC K) dx [])) := same_two hdx (by rw [upd_ne (Ne.symm ne)]; exact hx)
      refine ⟨x, c, p, [.ref x1, .ref x2], dx, rfl, upd_same, .inl (SqL.of (s3 _ _ upd_same)), (by show fitB c 2 = true; rcases joint_two hc with rfl | rfl <;> rfl), (by show 2 ≤ 1000; decide), fun H' kept isw => ⟨rfl, ?_⟩⟩
      have s4 : Same H2 H' := fun b o y => kept b o (s3 _ _ (sp _ _ y)) (ne_of_none (sp _ _ y) hx)
      exact q H' x (s12.trans s4) ⟨hc, x1, x2, isw, t1.same (s2.trans s4), t2.same s4⟩
theorem ok_lword {fdI fd1 : FuncData} {dv : V} (F : FnP K "_law_word" iLWord (He.ga K "_law_word") fd) (T : Txt K mg) (Z : Wif K fdI dv fd1) : ∀ n, FnOk P w K mg base CX0 (4 + n) (He.ga K "_law_word") fd ["_law_tree_here"] (spLWord K n) := by
  intro n
  induction n with
  | zero => exact ok_lword1 F T Z 0 ⟨fun _ _ _ _ h => h.elim, fun _ _ _ _ _ _ _ _ _ _ _ _ _ h => h.elim⟩
  | succ n ih => exact ok_lword1 F T Z (n + 1) (by rw [show 3 + (n + 1) = 4 + n by omega]; exact ih)
end
end KF

set_option Elab.async false
set_option linter.all false
set_option maxRecDepth 100000
set_option maxHeartbeats 4000000
/-! # _law_mark, _law_within -/
namespace KF
open PySem PySem.Spec PyProof.Rows L2 VX KW
section
variable {P : Program} {w : World} {K : PySem.W.Frag} {mg : Str → Option Value} {base : Heap} {f : Addr} {fd : FuncData}
def lmV (k : List Nat) (t : Tr) : V := if k = PL then .str (one (lp t)) else .int (li k t)
def spLMark (n : Nat) : Sp := fun vs H Q _ => ∃ (v : V) (t : Tr) (k : List Nat), vs = [v, .str (kS k)] ∧ IsTT H v t ∧ dep t ≤ n ∧ ∀ H', Same H H' → Q (lmV k t) H'
def spLMarkL : Nat → Sp
  | 0 => fun _ _ _ _ => False
  | n + 1 => spLMark n
theorem hand_in (c : Nat) : inV (V.str (one c)) [V.str "a", V.str "b", V.str "c"] = hand c := in_hands c
theorem lp_five {t : Tr} (h : WF t = true) : five (lp t) = true := by rw [lp_mk h]; exact mk_five h
abbrev nLM : List Str := ["_law_tree_here", "_law_kind", "_law_sign", "_law_first", "_law_second", "_law_here", "_law_there", "_law_low", "_law_high"]
theorem sc_lmark : FnScope nLM ["_law_tree_here", "_law_kind"] (defScope (top iLMark)) := ⟨rfl, rfl, rfl, by decide +kernel, rfl, by decide +kernel, by decide +kernel⟩
theorem ok_lmark1 (F : FnP K "_law_mark" iLMark (He.ga K "_law_mark") fd) (T : Txt K mg) (n : Nat) (GR : FnOk P w K mg base CX0 (1 + n) (He.ga K "_law_mark") fd ["_law_tree_here", "_law_kind"] (spLMarkL n)) :
    FnOk P w K mg base CX0 (2 + n) (He.ga K "_law_mark") fd ["_law_tree_here", "_law_kind"] (spLMark n) := by
  have BR : Binds K fd ["_law_tree_here", "_law_kind"] [] := F.bindsN fun _ _ _ _ _ _ us hl => match us, hl with | [_, _], _ => rfl
  rw [show 2 + n = (1 + n) + 1 by omega]
  refine F.ok sc_lmark (fun vs H Q E h => ?_) (fun cdv A outer s H vs Q E hr h => ?_)
  · obtain ⟨v, t, k, rfl, _⟩ := h
    rfl
  · obtain ⟨v, t, k, rfl, ht, hd, q⟩ := h
    have nd := sc_lmark.nd
    refine ⟨_, PSs.nox (pss_cons (ps_asg (pv 0) (pg_tup (by rfl) (pgs_cons (pg_name (i := 2) nd rfl (.inl rfl)) (pgs_cons (pg_name (i := 3) nd rfl (.inl rfl)) (pgs_cons (pg_name (i := 4) nd rfl (.inl rfl)) pgs_nil))))) (pss_cons (ps_if (pt_cmpR op_isN (pv 3) pe_non (nomark _)) (pss_cons (ps_if (pt_cmpR op_eq (pv 1) pe_str (nomark _)) (pss_one (ps_ret (pv 2))) pss_nil) (pss_one (ps_ret (pe_callTy call_int1 (by rfl) (T.fr "int") boot_int (pa_cons ((pe_or (pe_cmpR op_eq (pv 2) pe_str (nomark _)) (pe_one (pe_and (pe_cmpR op_in_seq (pv 2) (pe_lst (pa_cons pe_str (pa_cons pe_str (pa_cons pe_str pa_nil)))) (by rfl)) (pe_one (pe_cmpR op_in_sign (pv 2) (pv 1) (by rfl))))))) pa_nil))))) pss_nil) (pss_cons (ps_set (i := 5) nd rfl (.inl rfl) (pe_call GR hr (by rfl) (T.df "_law_mark" iLMark) F.kp BR .nil pass0 (pa_cons (pv 3) (pa_cons (pv 1) pa_nil)))) (pss_cons (ps_set (i := 6) nd rfl (.inl rfl) (pe_call GR hr (by rfl) (T.df "_law_mark" iLMark) F.kp BR .nil pass0 (pa_cons (pv 4) (pa_cons (pv 1) pa_nil)))) (pss_cons (ps_if (pt_cmpR op_ne (pv 1) pe_str (nomark _)) (pss_one (ps_ret (pe_ifExp (pt_cmpR op_eq (pv 2) pe_str (nomark _)) (pe_callTy call_int1 (by rfl) (T.fr "int") boot_int (pa_cons (pe_cmpR op_gt (pe_op op_add (pv 5) (pv 6)) pe_int (nomark _)) pa_nil)) (pe_op op_mul (pv 5) (pv 6))))) pss_nil) (pss_cons (ps_if (pt_cmpR op_eq (pv 5) (pv 6) (nomark _)) (pss_one (ps_ret (pv 5))) pss_nil) (pss_cons (ps_asg (pe_ifExp (pt_cmpR op_eq (pv 2) pe_str (nomark _)) (pe_lst (pa_cons pe_str (pa_cons pe_str pa_nil))) (pe_lst (pa_cons pe_str (pa_cons pe_str pa_nil)))) (pg_unl rfl (pgs_cons (pg_name (i := 7) nd rfl (.inl rfl)) (pgs_cons (pg_name (i := 8) nd rfl (.inl rfl)) pgs_nil)))) (pss_cons (ps_if (PW.pt (pw_or (pt_cmpR op_eq (pv 5) (pv 7) (nomark _)) (pw_or1 (pt_cmpR op_eq (pv 6) (pv 7) (nomark _))))) (pss_one (ps_ret (pe_ifExp (pt_cmpR op_eq (pv 5) (pv 7) (nomark _)) (pv 6) (pv 5)))) pss_nil) (pss_one (ps_ret (pv 8))))))))))), ?_⟩
    have hwf := ht.wf
    cases t with
    | lf c =>
      obtain ⟨hc, a, rfl, ha⟩ := ht
      refine ⟨_, rfl, a, _, rfl, SqT.of ha, rfl, _, _, rfl, _, _, rfl, _, _, rfl, rfl, ?_⟩
      refine ⟨_, rfl, rfl, _, rfl, ?_⟩
      refine iteT ⟨_, rfl, rfl, _, rfl, ?_⟩
      rw [kS_pl]
      unfold lmV at q
      simp only [lp, li] at q
      refine ite2 (fun h => ?_) (fun h => ?_)
      · rw [if_pos (of_decide_eq_true h)] at q
        exact ⟨_, rfl, q _ (Same.refl _)⟩
      · rw [if_neg (fun e => h (decide_eq_true e))] at q
        refine ⟨_, rfl, rfl, _, rfl, ?_⟩
        rw [show decide (V.str (one c) = V.str "1") = (c == 49) from dec_one]
        cases h49 : (c == 49) with
        | true =>
          have e49 : c = 49 := by simpa using h49
          rw [if_pos (.inl e49)] at q
          exact iteT (.inr ⟨_, rfl, q _ (Same.refl _)⟩)
        | false =>
          have e49 : c ≠ 49 := by simpa using h49
          refine iteF ⟨_, rfl, (by show 3 ≤ sizeLine; decide), fun p hp => ⟨p, _, rfl, .inl (SqL.of upd_same), rfl, rfl, _, rfl, ?_⟩⟩
          simp only [Bool.false_eq_true, if_false, hand_in]
          have sp := same_new (o := .lst [.str "a", .str "b", .str "c"]) hp
          cases hh : hand c with
          | false =>
            rw [if_neg (by simp [e49, hh])] at q
            exact iteF (.inr ⟨_, rfl, q _ sp⟩)
          | true =>
            refine iteT ⟨_, rfl, _, rfl, c, _, rfl, rfl, ?_⟩
            refine .inr ⟨_, rfl, ?_⟩
            rw [kS_list]
            by_cases hm : c ∈ k
            · rw [if_pos (.inr ⟨hh, hm⟩)] at q
              rw [decide_eq_true hm]
              exact q _ sp
            · rw [if_neg (by simp [e49, hm])] at q
              rw [decide_eq_false hm]
              exact q _ sp
    | nd c l r =>
      obtain ⟨hc, a, u, z, rfl, ha, hl, hr'⟩ := ht
      simp only [dep] at hd
      obtain ⟨m, rfl⟩ : ∃ m, n = m + 1 := ⟨n - 1, by omega⟩
      have un : u ≠ .non := by obtain ⟨a, e⟩ := hl.ref; rw [e]; intro z; cases z
      have wl := hl.wf
      have wr := hr'.wf
      refine ⟨_, rfl, a, _, rfl, SqT.of ha, rfl, _, _, rfl, _, _, rfl, _, _, rfl, rfl, ?_⟩
      refine ⟨_, rfl, rfl, _, rfl, ?_⟩
      rw [show decide (u = V.non) = false from decide_eq_false un]
      refine iteF ⟨_, rfl, _, rfl, u, l, k, rfl, hl, by omega, fun H1 s1 => ?_⟩
      refine ⟨_, rfl, _, rfl, z, r, k, rfl, hr'.same s1, by omega, fun H2 s2 => ?_⟩
      have s12 := s1.trans s2
      refine ⟨_, rfl, rfl, _, rfl, ?_⟩
      rw [kS_pl]
      unfold lmV at q
      by_cases hk : k = PL
      · subst hk
        simp only [if_true, lp] at q
        rw [decide_eq_true (rfl : PL = PL)]
        refine iteF ?_
        have e1 : lmV PL l = .str (one (lp l)) := if_pos rfl
        have e2 : lmV PL r = .str (one (lp r)) := if_pos rfl
        rw [e1, e2]
        refine ⟨_, rfl, _, rfl, rfl, _, rfl, ?_⟩
        rw [show decide (V.str (one (lp l)) = V.str (one (lp r))) = (lp l == lp r) from dec_one]
        refine ite2 (fun h => ?_) (fun h => ?_)
        · rw [if_pos (by simpa using h)] at q
          exact ⟨_, rfl, q _ s12⟩
        · rw [if_neg (by simpa using h)] at q
          rcases joint_two hc with rfl | rfl
          · simp only [if_true] at q
            refine ⟨_, rfl, rfl, _, rfl, ?_⟩
            rw [show decide (V.str (one 43) = V.str "+") = true from dec_one]
            refine iteT ⟨(by show 2 ≤ sizeLine; decide), fun p hp => ⟨p, _, rfl, SqL.of upd_same, rfl, _, _, rfl, _, _, rfl, rfl, ?_⟩⟩
            have s3 := s12.trans (same_new (o := .lst [.str "0", .str "1"]) hp)
            have q := q _ s3
            refine ⟨_, rfl, _, rfl, rfl, _, rfl, ?_⟩
            rw [show decide (V.str (one (lp l)) = V.str "0") = (lp l == 48) from dec_one]
            refine ite2 (fun h1 => ?_) (fun h1 => ?_)
            · have h1' : lp l = 48 := by simpa using h1
              rw [if_pos (.inl h1'), if_pos h1'] at q
              refine ⟨_, rfl, _, rfl, rfl, _, rfl, ?_⟩
              rw [show decide (V.str (one (lp l)) = V.str "0") = (lp l == 48) from dec_one]
              rw [h1]
              exact iteT ⟨_, rfl, q⟩
            · have h1' : lp l ≠ 48 := by simpa using h1
              refine ⟨_, rfl, _, rfl, rfl, _, rfl, ?_⟩
              rw [show decide (V.str (one (lp r)) = V.str "0") = (lp r == 48) from dec_one]
              refine ite2 (fun h2 => ?_) (fun h2 => ?_)
              · have h2' : lp r = 48 := by simpa using h2
                rw [if_pos (.inr h2'), if_neg h1'] at q
                refine ⟨_, rfl, _, rfl, rfl, _, rfl, ?_⟩
                rw [show decide (V.str (one (lp l)) = V.str "0") = (lp l == 48) from dec_one]
                rw [Bool.eq_false_iff.mpr h1]
                exact iteF ⟨_, rfl, q⟩
              · have h2' : lp r ≠ 48 := by simpa using h2
                rw [if_neg (by rintro (e | e); exact h1' e; exact h2' e)] at q
                exact ⟨_, rfl, q⟩
          · simp only [show (38 : Nat) ≠ 43 by decide, if_false] at q
            refine ⟨_, rfl, rfl, _, rfl, ?_⟩
            rw [show decide (V.str (one 38) = V.str "+") = false from dec_one]
            refine iteF ⟨(by show 2 ≤ sizeLine; decide), fun p hp => ⟨p, _, rfl, SqL.of upd_same, rfl, _, _, rfl, _, _, rfl, rfl, ?_⟩⟩
            have s3 := s12.trans (same_new (o := .lst [.str "1", .str "0"]) hp)
            have q := q _ s3
            refine ⟨_, rfl, _, rfl, rfl, _, rfl, ?_⟩
            rw [show decide (V.str (one (lp l)) = V.str "1") = (lp l == 49) from dec_one]
            refine ite2 (fun h1 => ?_) (fun h1 => ?_)
            · have h1' : lp l = 49 := by simpa using h1
              rw [if_pos (.inl h1'), if_pos h1'] at q
              refine ⟨_, rfl, _, rfl, rfl, _, rfl, ?_⟩
              rw [show decide (V.str (one (lp l)) = V.str "1") = (lp l == 49) from dec_one]
              rw [h1]
              exact iteT ⟨_, rfl, q⟩
            · have h1' : lp l ≠ 49 := by simpa using h1
              refine ⟨_, rfl, _, rfl, rfl, _, rfl, ?_⟩
              rw [show decide (V.str (one (lp r)) = V.str "1") = (lp r == 49) from dec_one]
              refine ite2 (fun h2 => ?_) (fun h2 => ?_)
              · have h2' : lp r = 49 := by simpa using h2
                rw [if_pos (.inr h2'), if_neg h1'] at q
                refine ⟨_, rfl, _, rfl, rfl, _, rfl, ?_⟩
                rw [show decide (V.str (one (lp l)) = V.str "1") = (lp l == 49) from dec_one]
                rw [Bool.eq_false_iff.mpr h1]
                exact iteF ⟨_, rfl, q⟩
              · have h2' : lp r ≠ 49 := by simpa using h2
                rw [if_neg (by rintro (e | e); exact h1' e; exact h2' e)] at q
                exact ⟨_, rfl, q⟩
      · rw [decide_eq_false hk]
        rw [if_neg hk] at q
        have e1 : lmV k l = .int (li k l) := if_neg hk
        have e2 : lmV k r = .int (li k r) := if_neg hk
        obtain ⟨b1, f1⟩ := li_mk hk wl
        obtain ⟨b2, f2⟩ := li_mk hk wr
        have g1 : 0 ≤ li k l ∧ li k l ≤ 1 := by rw [f1]; rcases b1 with e | e <;> rw [e] <;> decide
        rw [e1, e2]
        simp only [li] at q
        refine iteT ⟨_, rfl, rfl, _, rfl, ?_⟩
        rw [show decide (V.str (one c) = V.str "+") = (c == 43) from dec_one]
        refine ite2 (fun h => ?_) (fun h => ?_)
        · rw [if_pos (by simpa using h)] at q
          refine ⟨_, rfl, _, rfl, _, _, rfl, rfl, _, _, rfl, rfl, .inr ⟨_, rfl, ?_⟩⟩
          have := q _ s12
          by_cases hp : li k l + li k r > 0
          · rw [if_pos hp] at this
            rw [decide_eq_true hp]
            exact this
          · rw [if_neg hp] at this
            rw [decide_eq_false hp]
            exact this
        · rw [if_neg (by simpa using h)] at q
          exact ⟨_, rfl, _, rfl, _, _, rfl, rfl, .inl ⟨by omega, by omega⟩, q _ s12⟩
end
end KF

set_option Elab.async false
set_option linter.all false
set_option maxRecDepth 100000
set_option maxHeartbeats 4000000
/-! # _law_within, _law_near -/
namespace KF
open PySem PySem.Spec PyProof.Rows L2 VX KW
section
variable {P : Program} {w : World} {K : PySem.W.Frag} {mg : Str → Option Value} {base : Heap} {f : Addr} {fd : FuncData}
theorem ok_lmark (F : FnP K "_law_mark" iLMark (He.ga K "_law_mark") fd) (T : Txt K mg) : ∀ n, FnOk P w K mg base CX0 (2 + n) (He.ga K "_law_mark") fd ["_law_tree_here", "_law_kind"] (spLMark n) := by
  intro n
  induction n with
  | zero => exact ok_lmark1 F T 0 ⟨fun _ _ _ _ h => h.elim, fun _ _ _ _ _ _ _ _ _ _ _ _ _ h => h.elim⟩
  | succ n ih => exact ok_lmark1 F T (n + 1) (by rw [show 1 + (n + 1) = 2 + n by omega]; exact ih)
def spLWithin : Sp := fun vs H Q _ => ∃ (v u : V) (s t : Tr) (k : List Nat), vs = [v, u, .str (kS k)] ∧ IsTT H v s ∧ IsTT H u t ∧ dep s ≤ 20 ∧ dep t ≤ 20 ∧ ∀ H', Same H H' → Q (.bl (liW k s t)) H'
theorem sc_lwithin : FnScope ["_law_here", "_law_there", "_law_kind", "_law_low", "_law_high"] ["_law_here", "_law_there", "_law_kind"] (defScope (top iLWithin)) := ⟨rfl, rfl, rfl, by decide +kernel, rfl, by decide +kernel, by decide +kernel⟩
theorem ok_lwithin {fdM : FuncData} (F : FnP K "_law_within" iLWithin f fd) (T : Txt K mg) (FM : FnP K "_law_mark" iLMark (He.ga K "_law_mark") fdM) : FnOk P w K mg base CX0 23 f fd ["_law_here", "_law_there", "_law_kind"] spLWithin := by
  have GM : FnOk P w K mg base CX0 22 _ fdM ["_law_tree_here", "_law_kind"] (spLMark 20) := ok_lmark FM T 20
  have BM : Binds K fdM ["_law_tree_here", "_law_kind"] [] := FM.bindsN fun _ _ _ _ _ _ us hl => match us, hl with | [_, _], _ => rfl
  refine F.ok sc_lwithin (fun vs H Q E h => ?_) (fun cdv A outer s H vs Q E hr h => ?_)
  · obtain ⟨v, u, s, t, k, rfl, _⟩ := h
    rfl
  · obtain ⟨v, u, s', t, k, rfl, hs, ht, ds, dt, q⟩ := h
    have nd := sc_lwithin.nd
    refine ⟨_, PSs.nox (pss_cons (ps_set (i := 3) nd rfl (.inl rfl) (pe_call GM hr (by rfl) (T.df "_law_mark" iLMark) FM.kp BM .nil pass0 (pa_cons (pv 0) (pa_cons (pv 2) pa_nil)))) (pss_cons (ps_set (i := 4) nd rfl (.inl rfl) (pe_call GM hr (by rfl) (T.df "_law_mark" iLMark) FM.kp BM .nil pass0 (pa_cons (pv 1) (pa_cons (pv 2) pa_nil)))) (pss_cons (ps_if (pt_cmpR op_ne (pv 2) pe_str (nomark _)) (pss_one (ps_ret (pe_cmpR op_le (pv 3) (pv 4) (nomark _)))) pss_nil) (pss_one (ps_ret (pe_or (pe_cmpR op_eq (pv 3) (pv 4) (nomark _)) (pe_or (pe_cmpR op_eq (pv 3) pe_str (nomark _)) (pe_one (pe_cmpR op_eq (pv 4) pe_str (nomark _)))))))))), ?_⟩
    refine ⟨_, rfl, _, rfl, v, s', k, rfl, hs, ds, fun H1 s1 => ?_⟩
    refine ⟨_, rfl, _, rfl, u, t, k, rfl, ht.same s1, dt, fun H2 s2 => ?_⟩
    refine ⟨_, rfl, rfl, _, rfl, ?_⟩
    rw [kS_pl]
    have q := q _ (s1.trans s2)
    unfold liW at q
    by_cases hk : k = PL
    · subst hk
      rw [if_pos rfl] at q
      rw [decide_eq_true (rfl : PL = PL)]
      rw [show lmV PL s' = .str (one (lp s')) from if_pos rfl, show lmV PL t = .str (one (lp t)) from if_pos rfl]
      refine iteF ⟨_, rfl, _, rfl, rfl, _, rfl, ?_⟩
      rw [show decide (V.str (one (lp s')) = V.str (one (lp t))) = (lp s' == lp t) from dec_one]
      unfold isW at q
      refine ite2 (fun h => ?_) (fun h => ?_)
      · rw [h] at q
        exact q
      · rw [Bool.eq_false_iff.mpr h] at q
        refine ⟨_, rfl, rfl, _, rfl, ?_⟩
        rw [show decide (V.str (one (lp s')) = V.str "0") = (lp s' == 48) from dec_one]
        refine ite2 (fun h => ?_) (fun h => ?_)
        · rw [h] at q
          exact q
        · rw [Bool.eq_false_iff.mpr h] at q
          refine ⟨_, rfl, rfl, ?_⟩
          show Q (.bl (decide (V.str (one (lp t)) = V.str "1"))) _
          rw [show decide (V.str (one (lp t)) = V.str "1") = (lp t == 49) from dec_one]
          exact q
    · rw [if_neg hk] at q
      rw [decide_eq_false hk]
      rw [show lmV k s' = .int (li k s') from if_neg hk, show lmV k t = .int (li k t) from if_neg hk]
      exact iteT ⟨_, rfl, _, rfl, _, _, rfl, rfl, q⟩
/-! ### trees as data -/
def toD : Tr → PyData
  | .lf c => .tuple [.str (one c), .none, .none]
  | .nd c l r => .tuple [.str (one c), toD l, toD r]
theorem IsTT.dp {H : Hp} : ∀ {t : Tr} {v : V}, IsTT H v t → Dp K H v (toD t)
  | .lf c, _, h => by
    obtain ⟨_, a, rfl, ha⟩ := h
    exact .tup (SqT.of ha) (.cons (.str _) (.cons .non (.cons .non .nil)))
  | .nd c l r, _, h => by
    obtain ⟨_, a, u, z, rfl, ha, h1, h2⟩ := h
    exact .tup (SqT.of ha) (.cons (.str _) (.cons h1.dp (.cons h2.dp .nil)))
theorem strOk_one {c : Nat} (h : leafC c = true ∨ jointC c = true) : PyData.canLay0 (.str (one c)) = true := by
  have : c = 97 ∨ c = 98 ∨ c = 99 ∨ c = 48 ∨ c = 49 ∨ c = 43 ∨ c = 38 := by
    rcases h with h | h
    · simp only [leafC, Bool.or_eq_true, beq_iff_eq] at h; omega
    · rcases joint_two h with e | e <;> omega
  rcases this with rfl | rfl | rfl | rfl | rfl | rfl | rfl <;> decide +kernel
theorem toD_lay : ∀ {t : Tr}, WF t = true → PyData.canLay0 (toD t) = true
  | .lf c, h => by
    simp only [toD, PyData.canLay0, PyData.canLayAll0, Bool.and_true]
    have := strOk_one (c := c) (.inl h)
    simpa only [PyData.canLay0] using this
  | .nd c l r, h => by
    simp only [WF, Bool.and_eq_true] at h
    simp only [toD, PyData.canLay0, PyData.canLayAll0, Bool.and_true, toD_lay h.1.2, toD_lay h.2]
    have := strOk_one (c := c) (.inr h.1.1)
    simpa only [PyData.canLay0] using this
theorem toD_dep : ∀ {t : Tr}, (toD t).depth ≤ dep t + 2
  | .lf c => by
    simp only [toD, dep, PyData.depth, PyData.depthAll]
    omega
  | .nd c l r => by
    have h1 := toD_dep (t := l)
    have h2 := toD_dep (t := r)
    simp only [toD, dep, PyData.depth, PyData.depthAll]
    omega
theorem toD_shaped {t : Tr} (h : WF t = true) (hd : dep t ≤ 60) : SeqAt.shaped (toD t) = true := by
  have := toD_dep (t := t)
  show ((toD t).canLay0 && decide ((toD t).depth ≤ 64)) = true
  rw [toD_lay h, decide_eq_true (by omega)]
  rfl
/-- the tuple at a tree -/
theorem IsTT.at {H : Hp} : ∀ {t : Tr} {v : V}, IsTT H v t → ∃ a c u z, v = .ref a ∧ H a = some (.tup [.str (one c), u, z]) ∧ (jointC c = true → ∃ l r, t = .nd c l r ∧ IsTT H u l ∧ IsTT H z r)
  | .lf c, _, h => by
    obtain ⟨hc, a, rfl, ha⟩ := h
    exact ⟨a, c, _, _, rfl, ha, fun j => absurd j (by rw [(leaf_no hc).2.2.2]; exact Bool.false_ne_true)⟩
  | .nd c l r, _, h => by
    obtain ⟨hc, a, u, z, rfl, ha, h1, h2⟩ := h
    exact ⟨a, c, u, z, rfl, ha, fun _ => ⟨l, r, rfl, h1, h2⟩⟩
end
end KF

set_option linter.all false
/-! # facts about what lies within what (no model) -/
namespace KW
abbrev Pr := Tr × Tr
def won (k : List Nat) (p : Pr) : Bool := isW (mk k p.1) (mk k p.2)
/-- the first pair that does not allow a kind -/
def brK (ps : List Pr) (k : List Nat) : Option Nat := ps.findIdx? fun p => !won k p
def okK (ps : List Pr) (k : List Nat) : Bool := ps.all fun p => won k p
def opK (ps : List Pr) : List (List Nat) := kinds.filter (okK ps)
def allW (ks : List (List Nat)) (q : Pr) : Bool := ks.all fun k => won k q
/-- the first pair that shows a clash -/
def clK (ps qs : List Pr) : Option Nat := qs.findIdx? (allW (opK ps))
def clB (ps qs : List Pr) : Bool := qs.any (allW (opK ps))
def keptK (ks : List (List Nat)) (p : Pr) : List (List Nat) := ks.filter fun k => won k p
/-- the indices of the pairs that a kind breaks -/
def brL (ps : List Pr) (k : List Nat) : List Nat := (List.range ps.length).filter fun i => match ps[i]? with | some p => !won k p | none => false
/-- the indices of the pairs that hold on all of some kinds -/
def lackL (qs : List Pr) (ks : List (List Nat)) : List Nat := (List.range qs.length).filter fun i => match qs[i]? with | some q => allW ks q | none => false
inductive Vd | clash | sure | opn | barred
deriving DecidableEq
def vd (ps qs : List Pr) (p : Pr) : Vd := if clB ps qs = true then .clash else if allW (opK ps) p = true then .sure else if (lackL qs (keptK (opK ps) p)).isEmpty = true then .opn else .barred
theorem brK_ok {ps : List Pr} {k : List Nat} : (brK ps k).isNone = okK ps k := by
  unfold brK okK
  induction ps with
  | nil => rfl
  | cons p ps ih =>
    rw [List.findIdx?_cons, List.all_cons]
    cases h : won k p with
    | true =>
      simp only [Bool.not_true, Bool.false_eq_true, if_false, Bool.true_and, Option.isNone_map]
      exact ih
    | false => rfl
theorem clK_none {ps qs : List Pr} : (clK ps qs).isSome = clB ps qs := by
  unfold clK clB
  rw [List.findIdx?_isSome]
theorem brL_nil {ps : List Pr} {k : List Nat} : (brL ps k).isEmpty = okK ps k := by
  rw [Bool.eq_iff_iff, List.isEmpty_iff]
  unfold brL okK
  rw [List.filter_eq_nil_iff, List.all_eq_true]
  constructor
  · intro h p hp
    obtain ⟨i, hi, e⟩ := List.mem_iff_getElem.mp hp
    have := h i (List.mem_range.mpr hi)
    rw [List.getElem?_eq_getElem hi, e] at this
    simpa using this
  · intro h i hi
    have hi' := List.mem_range.mp hi
    rw [List.getElem?_eq_getElem hi']
    simp [h _ (List.getElem_mem hi')]
theorem lackL_nil {qs : List Pr} {ks : List (List Nat)} : (lackL qs ks).isEmpty = !qs.any (allW ks) := by
  rw [Bool.eq_iff_iff, List.isEmpty_iff]
  unfold lackL
  rw [List.filter_eq_nil_iff, Bool.not_eq_true', List.any_eq_false]
  constructor
  · intro h q hq
    obtain ⟨i, hi, e⟩ := List.mem_iff_getElem.mp hq
    have := h i (List.mem_range.mpr hi)
    rw [List.getElem?_eq_getElem hi, e] at this
    simpa using this
  · intro h i hi
    have hi' := List.mem_range.mp hi
    rw [List.getElem?_eq_getElem hi']
    simpa using h _ (List.getElem_mem hi')
theorem opK_add {ps : List Pr} {p : Pr} : opK (ps ++ [p]) = keptK (opK ps) p := by
  unfold opK keptK
  rw [List.filter_filter]
  refine List.filter_congr fun k _ => ?_
  unfold okK
  rw [List.all_append, List.all_cons, List.all_nil, Bool.and_true, Bool.and_comm]
theorem clB_in {ps qs : List Pr} {p : Pr} : clB (ps ++ [p]) qs = !(lackL qs (keptK (opK ps) p)).isEmpty := by
  unfold clB
  rw [opK_add, lackL_nil, Bool.not_not]
theorem clB_out {ps qs : List Pr} {p : Pr} : clB ps (qs ++ [p]) = (clB ps qs || allW (opK ps) p) := by
  unfold clB
  rw [List.any_append, List.any_cons, List.any_nil, Bool.or_false]
theorem keptK_all {ks : List (List Nat)} {p : Pr} : allW ks p = true ↔ keptK ks p = ks := by
  unfold allW keptK
  rw [List.all_eq_true, List.filter_eq_self]
theorem kept_allW {ks : List (List Nat)} {p : Pr} : allW (keptK ks p) p = true := by
  unfold allW keptK
  rw [List.all_eq_true]
  intro k hk
  exact (List.mem_filter.mp hk).2
theorem vd_in {ps qs : List Pr} {p : Pr} (h : clB ps qs = false) : clB (ps ++ [p]) qs = decide (vd ps qs p = .barred) := by
  unfold vd
  rw [if_neg (by rw [h]; exact Bool.false_ne_true)]
  by_cases a : allW (opK ps) p = true
  · rw [if_pos a]
    have e := keptK_all.mp a
    unfold clB at *
    rw [opK_add, e, h]
    rfl
  · rw [if_neg a, clB_in]
    cases (lackL qs (keptK (opK ps) p)).isEmpty <;> rfl
theorem vd_out {ps qs : List Pr} {p : Pr} (h : clB ps qs = false) : clB ps (qs ++ [p]) = decide (vd ps qs p = .sure) := by
  unfold vd
  rw [if_neg (by rw [h]; exact Bool.false_ne_true), clB_out, h, Bool.false_or]
  cases allW (opK ps) p with
  | true => rfl
  | false =>
    rw [if_neg Bool.false_ne_true]
    cases (lackL qs (keptK (opK ps) p)).isEmpty <;> rfl
theorem vd_clash {ps qs : List Pr} {p : Pr} : vd ps qs p = .clash ↔ clB ps qs = true := by
  unfold vd
  constructor
  · intro h
    cases hc : clB ps qs with
    | true => rfl
    | false =>
      rw [if_neg (by rw [hc]; exact Bool.false_ne_true)] at h
      split at h
      · cases h
      · split at h <;> cases h
  · intro h
    rw [if_pos h]
theorem opK_sub {ps : List Pr} {p : Pr} : ∀ k ∈ opK (ps ++ [p]), k ∈ opK ps := by
  rw [opK_add]
  intro k hk
  exact (List.mem_filter.mp hk).1
end KW

set_option Elab.async false
set_option linter.all false
set_option maxRecDepth 100000
set_option maxHeartbeats 4000000
/-! # f(g = u), f(g = u, h = v), f(h = v, g = u) -/
namespace VX
open PySem PySem.Spec PyProof.Rows L2
theorem pe_kcall1 {X : Cx} {CX : CXT} {x g : Str} {f : Addr} {k : Nat} {fd : FuncData} {sp : Sp} {E : XK} {p k1 pos : Pos} {e1 : Expr} {tk : TA} (F : FnOk X.prog X.w X.K X.mg X.base CX k f fd [g] sp) (hr : Room k X.A) (hg : Gl X x) (hm : X.mg x = some (.ref f)) (hk : PySem.W.keepIn X.K (.ref f) = true)
    (hb : ∀ (s : Shared) (u : Value), BindsTo s fd ⟨[], [(g, u)]⟩ [(g, u)]) (hx : Passes CX X E) (ha : PK X [⟨some g, e1, k1⟩] tk) (hdb : (x == ("__debug__" : Str)) = false := by decide)
    (hpl : ((backTo pos (starEach [] X.env)).any (·.1) || (backToKw pos (keywordEach [⟨some g, e1, k1⟩] X.env)).any (·.1.isNone)) = false := by rfl)
    (hall : (backToKw pos (keywordEach [⟨some g, e1, k1⟩] X.env)).all (·.1.isSome) = true := by rfl) (hks : (backToKw pos (keywordEach [⟨some g, e1, k1⟩] X.env)).filterMap (·.1) = [g] := by rfl) :
    PE X (.Call (.Name x p) [] [⟨some g, e1, k1⟩] pos) (fun σ H Q => tk σ H fun zs H1 => zs.length = 1 ∧ sp zs H1 Q E) := by
  refine ⟨fun pins s σ H Q I q0 => wpAny_Call_Name_kw (ld_glob I hg hm ?_ hdb)⟩
  refine PySem.W.callWith_KW0 (h₀ := X.base) I.ok.mod.kin hk hall ?_ hpl
  refine thn (ha.run pos pins s σ H _ I q0) fun ws s1 ⟨zs, H1, I1, rz, l1, q⟩ => ⟨I1.kIn, ?_⟩
  rw [hks]
  obtain ⟨z1, rfl⟩ : ∃ z1, zs = [z1] := by
    match zs, l1 with
    | [a], _ => exact ⟨a, rfl⟩
  obtain ⟨u1, rfl, r1⟩ := vals1 rz
  show wpAny _ _ (call (.ref f) [] [(g, u1)]) _ _ _
  refine wpAny_call (codeAny_mono (F.run X.A X.stack s1 H1 ⟨[], [(g, u1)]⟩ [u1] [z1] Q E hr I1.env0 (hb s1 u1) (.cons r1 .nil) q) fun r s' hq => ?_)
  match r, hq with
  | .ok (.ret u), hq => exact I1.after hq
  | .error er, hq => exact hx pins σ H1 s1 er s' I1 hq
/-- the keywords' order, the parameters' order: o says whether they are the same -/
theorem pe_kcall2 {X : Cx} {CX : CXT} {x g h a b : Str} {f : Addr} {k : Nat} {fd : FuncData} {sp : Sp} {E : XK} {p k1 k2 pos : Pos} {e1 e2 : Expr} {tk : TA} (o : Bool) (F : FnOk X.prog X.w X.K X.mg X.base CX k f fd [g, h] sp) (hr : Room k X.A) (hg : Gl X x) (hm : X.mg x = some (.ref f)) (hk : PySem.W.keepIn X.K (.ref f) = true)
    (hb : ∀ (s : Shared) (u v : Value), BindsTo s fd ⟨[], [(a, u), (b, v)]⟩ (if o = true then [(g, u), (h, v)] else [(g, v), (h, u)])) (hx : Passes CX X E) (ha : PK X [⟨some a, e1, k1⟩, ⟨some b, e2, k2⟩] tk) (hdb : (x == ("__debug__" : Str)) = false := by decide)
    (hpl : ((backTo pos (starEach [] X.env)).any (·.1) || (backToKw pos (keywordEach [⟨some a, e1, k1⟩, ⟨some b, e2, k2⟩] X.env)).any (·.1.isNone)) = false := by rfl)
    (hall : (backToKw pos (keywordEach [⟨some a, e1, k1⟩, ⟨some b, e2, k2⟩] X.env)).all (·.1.isSome) = true := by rfl) (hks : (backToKw pos (keywordEach [⟨some a, e1, k1⟩, ⟨some b, e2, k2⟩] X.env)).filterMap (·.1) = [a, b] := by rfl) :
    PE X (.Call (.Name x p) [] [⟨some a, e1, k1⟩, ⟨some b, e2, k2⟩] pos) (fun σ H Q => tk σ H fun zs H1 => ∃ z1 z2, zs = [z1, z2] ∧ sp (if o = true then [z1, z2] else [z2, z1]) H1 Q E) := by
  refine ⟨fun pins s σ H Q I q0 => wpAny_Call_Name_kw (ld_glob I hg hm ?_ hdb)⟩
  refine PySem.W.callWith_KW0 (h₀ := X.base) I.ok.mod.kin hk hall ?_ hpl
  refine thn (ha.run pos pins s σ H _ I q0) fun ws s1 ⟨zs, H1, I1, rz, z1, z2, ez, q⟩ => ⟨I1.kIn, ?_⟩
  subst ez
  rw [hks]
  obtain ⟨u1, u2, rfl, r1, r2⟩ := vals2 rz
  show wpAny _ _ (call (.ref f) [] [(a, u1), (b, u2)]) _ _ _
  cases o with
  | true =>
    refine wpAny_call (codeAny_mono (F.run X.A X.stack s1 H1 ⟨[], [(a, u1), (b, u2)]⟩ [u1, u2] [z1, z2] Q E hr I1.env0 (hb s1 u1 u2) (.cons r1 (.cons r2 .nil)) q) fun r s' hq => ?_)
    match r, hq with
    | .ok (.ret u), hq => exact I1.after hq
    | .error er, hq => exact hx pins σ H1 s1 er s' I1 hq
  | false =>
    refine wpAny_call (codeAny_mono (F.run X.A X.stack s1 H1 ⟨[], [(a, u1), (b, u2)]⟩ [u2, u1] [z2, z1] Q E hr I1.env0 (hb s1 u1 u2) (.cons r2 (.cons r1 .nil)) q) fun r s' hq => ?_)
    match r, hq with
    | .ok (.ret u), hq => exact I1.after hq
    | .error er, hq => exact hx pins σ H1 s1 er s' I1 hq
end VX

set_option Elab.async false
set_option linter.all false
set_option maxRecDepth 100000
set_option maxHeartbeats 4000000
/-! # a walk with any body: for the loops of a comprehension with two for -/
namespace VX
open PySem PySem.Spec PyProof.Rows L2
theorem loop_it {J : It} {n : Nat} {G : Hp → Prop} {Y : Nat → Hp → V → Hp → Prop} (w : Walk J n G Y) {B : V → Hp → (Hp → Prop) → Prop} {H0 : Hp} {Qd : Hp → Prop} (Pv : Nat → Hp → Prop) (h0 : Pv 0 H0) (hG : ∀ i H, i ≤ n → Pv i H → G H)
    (hs : ∀ i x H H', i < n → Pv i H → Y i H x H' → B x H' (Pv (i + 1))) (hd : ∀ H, Pv n H → Qd H) :
    ∃ W : Nat → Nat → Hp → Prop, (∃ m, W 0 m H0) ∧ ∀ i m H, W i m H →
      (J.stop i H ∧ Qd H) ∨ (J.go i H ∧ ∃ Nx : Hp → Prop, (∀ H', Nx H' → ∃ m', m' < m ∧ W (i + 1) m' H') ∧ ∀ x H', J.yld i H x H' → B x H' Nx) := by
  refine ⟨fun i m H => m = n - i ∧ i ≤ n ∧ Pv i H, ⟨n, by simp, Nat.zero_le _, h0⟩, ?_⟩
  rintro i m H ⟨rfl, hi, p⟩
  have q := hG i H hi p
  by_cases hlt : i < n
  · refine .inr ⟨w.goes i H hlt q, Pv (i + 1), fun H' p' => ⟨n - (i + 1), by omega, rfl, hlt, p'⟩, fun x H' y => hs i x H H' hlt p (w.yields i H x H' hlt q y)⟩
  · have e : i = n := by omega
    subst e
    exact .inl ⟨w.stops H q, hd H p⟩
/-- a statement, what holds behind it named -/
def sCut (t : TS) : TS := fun D σ H => ∃ Pv : L2.St → Hp → Prop, t { D with nx := Pv } σ H ∧ ∀ σ' H', Pv σ' H' → D.nx σ' H'
theorem ps_cut {X : Cx} {st : Stmt} {t : TS} (h : PS X st t) : PS X st (sCut t) := by
  refine ⟨fun pins s σ H D I ⟨Pv, q, k⟩ => wpAny_mono (h.run pins s σ H { D with nx := Pv } I q) (fun f s1 z => ?_) fun _ _ z => z⟩
  cases f with
  | next => obtain ⟨σ', H', J, z⟩ := z; exact ⟨σ', H', J, k _ _ z⟩
  | brk => exact z
  | cont => exact z
  | ret u => exact z
def tCut (t : TE) : TE := fun σ H Q => ∃ Pv : V → Hp → Prop, t σ H Pv ∧ ∀ v H', Pv v H' → Q v H'
theorem pe_cut {X : Cx} {e : Expr} {t : TE} (h : PE X e t) : PE X e (tCut t) := by
  refine ⟨fun pins s σ H Q I ⟨Pv, q, k⟩ => wpAny_mono (h.run pins s σ H Pv I q) (fun v s1 z => ?_) fun _ _ z => z⟩
  obtain ⟨x, H', J, r, z⟩ := z
  exact ⟨x, H', J, r, k _ _ z⟩
end VX

set_option Elab.async false
set_option linter.all false
set_option maxRecDepth 100000
set_option maxHeartbeats 4000000
/-! # facts.py: pairs, papers -/
namespace KF
open PySem PySem.Spec PyProof.Rows L2 VX KW
section
variable {P : Program} {w : World} {K : PySem.W.Frag} {mg : Str → Option Value} {base : Heap} {f : Addr} {fd : FuncData}
/-! ### pairs -/
/-- the pair of words at v -/
def IsPr (K : PySem.W.Frag) (H : Hp) (v : V) (p : Pr) : Prop := ∃ a x y, v = .ref a ∧ SqT K H a [.ref x, .ref y] ∧ IsTr K H x p.1 ∧ IsTr K H y p.2 ∧ dep p.1 ≤ 20 ∧ dep p.2 ≤ 20
def IsPrs (K : PySem.W.Frag) (H : Hp) (vs : List V) (ps : List Pr) : Prop := vs.length = ps.length ∧ ∀ (i : Nat) v p, vs[i]? = some v → ps[i]? = some p → IsPr K H v p
theorem IsPr.same {H H' : Hp} (s : Same H H') {v : V} {p : Pr} (h : IsPr K H v p) : IsPr K H' v p := by
  obtain ⟨a, x, y, e, h1, h2, h3, h4⟩ := h
  exact ⟨a, x, y, e, SqT.same s h1, h2.same s, h3.same s, h4⟩
theorem IsPrs.same {H H' : Hp} (s : Same H H') {vs : List V} {ps : List Pr} (h : IsPrs K H vs ps) : IsPrs K H' vs ps := ⟨h.1, fun i v p h1 h2 => (h.2 i v p h1 h2).same s⟩
theorem IsPrs.nil {H : Hp} : IsPrs K H [] [] := ⟨rfl, fun i v p h => by simp at h⟩
theorem IsPrs.add {H : Hp} {vs : List V} {ps : List Pr} {v : V} {p : Pr} (h : IsPrs K H vs ps) (q : IsPr K H v p) : IsPrs K H (vs ++ [v]) (ps ++ [p]) := by
  refine ⟨by simp [h.1], fun i u r h1 h2 => ?_⟩
  rw [List.getElem?_append] at h1 h2
  rw [← h.1] at h2
  by_cases c : i < vs.length
  · rw [if_pos c] at h1 h2
    exact h.2 i u r h1 h2
  · rw [if_neg c] at h1 h2
    by_cases z : i - vs.length = 0
    · rw [z] at h1 h2
      cases h1
      cases h2
      exact q
    · obtain ⟨m, e⟩ : ∃ m, i - vs.length = m + 1 := ⟨i - vs.length - 1, by omega⟩
      rw [e] at h1
      cases h1
theorem IsPrs.at {H : Hp} {vs : List V} {ps : List Pr} (h : IsPrs K H vs ps) {i : Nat} {v : V} (hv : vs[i]? = some v) : ∃ p, ps[i]? = some p ∧ IsPr K H v p := by
  obtain ⟨hi, _⟩ := List.getElem?_eq_some_iff.mp hv
  have hp : ps[i]? = some (ps[i]'(by rw [← h.1]; exact hi)) := List.getElem?_eq_getElem _
  exact ⟨_, hp, h.2 i v _ hv hp⟩
/-- what a store at b leaves alone: b is a list, a dict, an instance without words in it -/
inductive Lse : HO → Prop
  | lst (xs : List V) : Lse (.lst xs)
  | dic (kvs : List (Key × V)) : Lse (.dK kvs)
  | raw (C dx : Addr) : Lse (.ins C dx [])
  | one (C dx : Addr) (x : Str × V) : Lse (.ins C dx [x])
theorem keepT {H H' : Hp} {b a : Addr} {o : HO} {xs : List V} (hb : H b = some o) (l : Lse o) (k : Kept b H H') (h : SqT K H a xs) : SqT K H' a xs := by
  rcases h with (h | ⟨u, h⟩) | h
  · exact .inl (.inl (k _ _ h (by rintro rfl; rw [hb] at h; cases l <;> cases h)))
  · exact .inl (.inr ⟨u, k _ _ h (by rintro rfl; rw [hb] at h; cases l <;> cases h)⟩)
  · exact .inr h
theorem IsWd.keep {H H' : Hp} {b x : Addr} {o : HO} {c : Nat} {xs : List V} (hb : H b = some o) (l : Lse o) (k : Kept b H H') (h : IsWd K H x c xs) : IsWd K H' x c xs := by
  obtain ⟨dx, a, h1, h2⟩ := h
  exact ⟨dx, a, k _ _ h1 (by rintro rfl; rw [hb] at h1; cases l <;> cases h1), keepT hb l k h2⟩
theorem IsTr.keep {H H' : Hp} {b : Addr} {o : HO} (hb : H b = some o) (l : Lse o) (k : Kept b H H') : ∀ {t : Tr} {x : Addr}, IsTr K H x t → IsTr K H' x t
  | .lf _, _, h => ⟨h.1, h.2.keep hb l k⟩
  | .nd _ _ _, _, h => by
    obtain ⟨j, y, z, h1, h2, h3⟩ := h
    exact ⟨j, y, z, h1.keep hb l k, h2.keep hb l k, h3.keep hb l k⟩
theorem IsPr.keep {H H' : Hp} {b : Addr} {o : HO} (hb : H b = some o) (l : Lse o) (k : Kept b H H') {v : V} {p : Pr} (h : IsPr K H v p) : IsPr K H' v p := by
  obtain ⟨a, x, y, e, h1, h2, h3, h4⟩ := h
  exact ⟨a, x, y, e, keepT hb l k h1, h2.keep hb l k, h3.keep hb l k, h4⟩
theorem IsPrs.keep {H H' : Hp} {b : Addr} {o : HO} (hb : H b = some o) (l : Lse o) (k : Kept b H H') {vs : List V} {ps : List Pr} (h : IsPrs K H vs ps) : IsPrs K H' vs ps := ⟨h.1, fun i v p h1 h2 => (h.2 i v p h1 h2).keep hb l k⟩
/-! ### all defs of the text -/
abbrev sF (i : Nat) : Stmt := inClass (top iFacts) i
def fmets : List (Str × Nat) := [("kinds", 3), ("clashes", 4), ("verdict", 5), ("model", 6), ("reason", 7), ("clash_reason", 8), ("shows", 9), ("shows_clash", 10), ("_supposed", 11), ("_check", 12), ("_paper", 13), ("_is_paper", 14), ("_is_never", 15)]
abbrev MtP (K : PySem.W.Frag) (x : Str) (i : Nat) (f : Addr) (fd : FuncData) : Prop := FunD K x (("Facts." : Str) ++ x) (defArgs (sF i)) (defBody (sF i)) (defScope (sF i)) [] [] f fd
structure Al (K : PySem.W.Frag) : Prop where
  d : ∀ p ∈ defs, ∃ fd, FnP K p.1 p.2 (He.ga K p.1) fd
  wi : ∃ (fd : FuncData) (a : Addr), FunD K "__init__" "Word.__init__" (defArgs sWI) (defBody sWI) (defScope sWI) [.ref a] [] (He.ma K (wC K) "__init__") fd ∧ ∀ H, SqT K H a []
  wg : ∃ fd, FunD K "sign" "Word.sign" (defArgs sSg) (defBody sSg) (defScope sSg) [] [] (propG K "sign") fd
  wp : ∃ fd, FunD K "parts" "Word.parts" (defArgs sPa) (defBody sPa) (defScope sPa) [] [] (propG K "parts") fd
  fi : ∃ (fd : FuncData) (a b : Addr), FunD K "__init__" "Facts.__init__" (defArgs (sF 0)) (defBody (sF 0)) (defScope (sF 0)) [] [("within", .ref a), ("not_within", .ref b)] (He.ma K (fC K) "__init__") fd ∧ (∀ H, SqT K H a []) ∧ ∀ H, SqT K H b []
  pw : PropOf K (fC K) "within" (He.ma K (fC K) "within") (fpropG K "within") ∧ ∃ fd, FunD K "within" "Facts.within" (defArgs (sF 1)) (defBody (sF 1)) (defScope (sF 1)) [] [] (fpropG K "within") fd
  pn : PropOf K (fC K) "not_within" (He.ma K (fC K) "not_within") (fpropG K "not_within") ∧ ∃ fd, FunD K "not_within" "Facts.not_within" (defArgs (sF 2)) (defBody (sF 2)) (defScope (sF 2)) [] [] (fpropG K "not_within") fd
  m : ∀ p ∈ fmets, Meth K (fC K) p.1 (He.ma K (fC K) p.1) ∧ ∃ fd, MtP K p.1 p.2 (He.ma K (fC K) p.1) fd
theorem Al.def (A : Al K) (x : Str) (i : Nat) (h : (x, i) ∈ defs := by decide +kernel) : ∃ fd, FnP K x i (He.ga K x) fd := A.d (x, i) h
theorem Al.met (A : Al K) (x : Str) (i : Nat) (h : (x, i) ∈ fmets := by decide +kernel) : Meth K (fC K) x (He.ma K (fC K) x) ∧ ∃ fd, MtP K x i (He.ma K (fC K) x) fd := A.m (x, i) h
theorem Al.mkf (A : Al K) : ∃ fdW fdS fdC fdL fdg fdp, Mkf K fdW fdS fdC fdL fdg fdp := by
  obtain ⟨a, ha⟩ := A.def "is_within" iWithin
  obtain ⟨b, hb⟩ := A.def "sum_mark" iSumM
  obtain ⟨c, hc⟩ := A.def "common_mark" iComM
  obtain ⟨d, hd⟩ := A.def "letter_mark" iLetM
  obtain ⟨e, he⟩ := A.wg
  obtain ⟨g, hg⟩ := A.wp
  exact ⟨a, b, c, d, e, g, ha, hb, hc, hd, he, hg⟩
theorem g_won (T : Txt K mg) (A : Al K) : ∃ fd, FnP K "within_on" iWon (He.ga K "within_on") fd ∧ FnOk P w K mg base CX0 25 (He.ga K "within_on") fd ["one", "other", "kind"] (spWon K) ∧ Binds K fd ["one", "other", "kind"] [] := by
  obtain ⟨fd, F⟩ := A.def "within_on" iWon
  obtain ⟨fdm, M⟩ := A.def "mark" iMark
  obtain ⟨_, _, _, _, _, _, Z⟩ := A.mkf
  exact ⟨fd, F, ok_won F T M Z, F.bindsN fun _ _ _ _ _ _ us hl => match us, hl with | [_, _, _], _ => rfl⟩
/-! ### first_breach -/
def optN : Option Nat → V
  | none => .non
  | some i => .int i
theorem optN_non {o : Option Nat} : decide (optN o = V.non) = o.isNone := by cases o <;> rfl
theorem fi_at {g : Pr → Bool} {ps : List Pr} {i : Nat} {p : Pr} (hp : ps[i]? = some p) (h : g p = true) (hn : ∀ j, j < i → ∀ p, ps[j]? = some p → g p = false) : ps.findIdx? g = some i := by
  rw [List.findIdx?_eq_some_iff_getElem]
  obtain ⟨hi, e⟩ := List.getElem?_eq_some_iff.mp hp
  refine ⟨hi, by rw [e]; exact h, fun j hj => ?_⟩
  rw [hn j hj _ (List.getElem?_eq_getElem (by omega))]
  exact Bool.false_ne_true
theorem fi_no {g : Pr → Bool} {ps : List Pr} (h : ∀ (i : Nat) p, ps[i]? = some p → g p = false) : ps.findIdx? g = none := by
  rw [List.findIdx?_eq_none_iff]
  intro p hp
  obtain ⟨i, hi⟩ := List.mem_iff_getElem?.mp hp
  exact h i p hi
def spFB (K : PySem.W.Frag) : Sp := fun vs H Q _ => ∃ (a : Addr) (xs : List V) (ps : List Pr) (k : List Nat), vs = [.ref a, .str (kS k)] ∧ SqT K H a xs ∧ IsPrs K H xs ps ∧ ∀ H', Same H H' → Q (optN (brK ps k)) H'
abbrev nFB : List Str := ["pairs", "kind", "at", "one", "other"]
theorem sc_fb : FnScope nFB ["pairs", "kind"] (defScope (top iFirstB)) := ⟨rfl, rfl, rfl, by decide +kernel, rfl, by decide +kernel, by decide +kernel⟩

theorem g_fb (T : Txt K mg) (A : Al K) : ∃ fd, FnP K "first_breach" iFirstB (He.ga K "first_breach") fd ∧ FnOk P w K mg base CX0 26 (He.ga K "first_breach") fd ["pairs", "kind"] (spFB K) ∧ Binds K fd ["pairs", "kind"] [] := by
  obtain ⟨fdN, FN, GN, BN⟩ := g_won (P := P) (w := w) (base := base) T A
  obtain ⟨fd, F⟩ := A.def "first_breach" iFirstB
  refine ⟨fd, F, ?_, F.bindsN fun _ _ _ _ _ _ us hl => match us, hl with | [_, _], _ => rfl⟩
  refine F.ok sc_fb (fun vs H Q E h => ?_) (fun cdv A outer s H vs Q E hr h => ?_)
  · obtain ⟨a, xs, ps, k, rfl, _⟩ := h
    rfl
  · obtain ⟨a, xs, ps, k, rfl, ha, hp, q⟩ := h
    have nd := sc_fb.nd
    refine ⟨_, PSs.nox (pss_cons (ps_for PassesOwn.never rfl (pi_enumT (by rfl) (T.fr "enumerate") (pa_cons (pv 0) pa_nil)) (pg_tup (by rfl) (pgs_cons (pg_name (i := 2) nd rfl (.inl rfl)) (pgs_cons (pg_tup (by rfl) (pgs_cons (pg_name (i := 3) nd rfl (.inl rfl)) (pgs_cons (pg_name (i := 4) nd rfl (.inl rfl)) pgs_nil))) pgs_nil))) (pss_one (ps_if (pt_not (pt_val (pe_call GN hr (by rfl) (T.df "within_on" iWon) FN.kp BN .nil pass0 (pa_cons (pv 3) (pa_cons (pv 4) (pa_cons (pv 1) pa_nil)))))) (pss_one (ps_ret (pv 2))) pss_nil))) (pss_one (ps_ret pe_non))), ?_⟩
    refine ⟨_, rfl, a, _, rfl, ha, for_it walk_enumT (fun i σ H' => (∃ y1 y2 y3, σ = [some (V.ref a), some (V.str (kS k)), y1, y2, y3]) ∧ Same H H' ∧ ∀ j, j < i → ∀ p, ps[j]? = some p → (fun p => !won k p) p = false) ⟨⟨none, none, none, rfl⟩, Same.refl _, fun j hj => absurd hj (Nat.not_lt_zero j)⟩ (fun i σ H' _ z => SqT.same z.2.1 ha) ?_ ?_⟩
    · rintro i x σ H1 H2 hi ⟨⟨y1, y2, y3, rfl⟩, sm, hn⟩ ⟨T', x', y', rfl, hT, rfl, e1, e2⟩
      obtain rfl : V.int (i : Nat) = x' := Option.some.inj e1
      obtain ⟨p, hpi, u, x, y, rfl, hu, hx, hy, dx, dy⟩ := hp.at e2
      have s1 : Same H (upd H1 T' (.tup [.int (i : Nat), .ref u])) := sm.trans (same_new hT)
      refine ⟨T', _, rfl, SqT.of upd_same, rfl, _, _, rfl, _, _, rfl, u, _, rfl, SqT.same s1 hu, rfl, _, _, rfl, _, _, rfl, rfl, rfl, ?_⟩
      refine ⟨_, rfl, _, rfl, _, rfl, x, y, p.1, p.2, k, rfl, hx.same s1, hy.same s1, dx, dy, fun H3 s3 => ⟨_, rfl, ?_⟩⟩
      have s13 := s1.trans s3
      cases hw : isW (mk k p.1) (mk k p.2) with
      | false =>
        refine iteT ⟨_, rfl, ?_⟩
        have e : brK ps k = some i := fi_at hpi (by show (!isW (mk k p.1) (mk k p.2)) = true; rw [hw]; rfl) hn
        rw [e] at q
        exact q _ s13
      | true =>
        refine iteF ⟨⟨_, _, _, rfl⟩, s13, fun j hj p2 hp2 => ?_⟩
        by_cases e : j = i
        · subst e
          rw [hpi] at hp2
          cases hp2
          show (!isW (mk k p.1) (mk k p.2)) = false
          rw [hw]
          rfl
        · exact hn j (by omega) p2 hp2
    · rintro σ H1 ⟨⟨y1, y2, y3, rfl⟩, sm, hn⟩
      have e : brK ps k = none := fi_no fun i p hpi => hn i (by
        obtain ⟨hi, _⟩ := List.getElem?_eq_some_iff.mp hpi
        rw [hp.1]
        exact hi) p hpi
      rw [e] at q
      exact q _ sm
/-! ### within_on_all -/
def kvL (ks : List (List Nat)) : List V := ks.map fun k => V.str (kS k)
theorem kvL_at {ks : List (List Nat)} {i : Nat} {v : V} (h : (kvL ks)[i]? = some v) : ∃ k, ks[i]? = some k ∧ v = .str (kS k) := by
  unfold kvL at h
  rw [List.getElem?_map] at h
  cases e : ks[i]? with
  | none => rw [e] at h; cases h
  | some k => rw [e] at h; exact ⟨k, rfl, (Option.some.inj h).symm⟩
def spWA (K : PySem.W.Frag) : Sp := fun vs H Q _ => ∃ (v : V) (p : Pr) (l : Addr) (ks : List (List Nat)), vs = [v, .ref l] ∧ IsPr K H v p ∧ SqL K H l (kvL ks) ∧ ks.length ≤ 1000 ∧ ∀ H', Same H H' → Q (.bl (allW ks p)) H'
theorem SqL.same {H H' : Hp} {a : Addr} {xs : List V} (s : Same H H') (h : SqL K H a xs) : SqL K H' a xs := by
  rcases h with (h | ⟨o, h⟩) | h
  · exact .inl (.inl (s _ _ h))
  · exact .inl (.inr ⟨o, s _ _ h⟩)
  · exact .inr h
abbrev nWA : List Str := ["pair", "kinds", "one", "other", "kind"]
theorem sc_wa : FnScope nWA ["pair", "kinds"] (defScope (top iWonAll)) := ⟨rfl, rfl, rfl, by decide +kernel, rfl, by decide +kernel, by decide +kernel⟩

theorem g_wa (T : Txt K mg) (A : Al K) : ∃ fd, FnP K "within_on_all" iWonAll (He.ga K "within_on_all") fd ∧ FnOk P w K mg base CX0 26 (He.ga K "within_on_all") fd ["pair", "kinds"] (spWA K) ∧ Binds K fd ["pair", "kinds"] [] := by
  obtain ⟨fdN, FN, GN, BN⟩ := g_won (P := P) (w := w) (base := base) T A
  obtain ⟨fd, F⟩ := A.def "within_on_all" iWonAll
  refine ⟨fd, F, ?_, F.bindsN fun _ _ _ _ _ _ us hl => match us, hl with | [_, _], _ => rfl⟩
  refine F.ok sc_wa (fun vs H Q E h => ?_) (fun cdv A outer s H vs Q E hr h => ?_)
  · obtain ⟨v, p, l, ks, rfl, _⟩ := h
    rfl
  · obtain ⟨v, p, l, ks, rfl, ⟨u, x, y, rfl, hu, hx, hy, dx, dy⟩, hl, hks, q⟩ := h
    have nd := sc_wa.nd
    refine ⟨_, PSs.nox (pss_cons (ps_asg (pv 0) (pg_tup (by rfl) (pgs_cons (pg_name (i := 2) nd rfl (.inr rfl)) (pgs_cons (pg_name (i := 3) nd rfl (.inr rfl)) pgs_nil)))) (pss_one (ps_ret (pe_callB (cr_all rfl) (by rfl) (T.fr "all") (by decide +kernel) (pa_cons (pe_lc (own := [("kind", 4)]) (g := gName 4) (by rfl) nd (pi_list (pv 1)) (blkOk_by (own := [("kind", 4)]) (N := nWA) (sc := defScope (top iWonAll)) (by decide +kernel)) (fun _ _ _ _ _ => pg_name (i := 4) nd rfl (Or.inl rfl)) (fun _ _ _ _ _ => pts_nil) (fun _ _ _ _ _ => pe_call GN hr (by rfl) (T.df "within_on" iWon) FN.kp BN .nil pass0 (pa_cons (pv 2) (pa_cons (pv 3) (pa_cons (pv 4) pa_nil))))) pa_nil))))), ?_⟩
    refine ⟨_, rfl, u, _, rfl, hu, rfl, _, _, rfl, _, _, rfl, rfl, ?_⟩
    refine ⟨_, rfl, l, rfl, ⟨_, hl⟩, fun D hD => lc_it (walk_list (K := K) (a := l) (xs := kvL ks)) (fun i H' => Same H H' ∧ H' D = some (.lst (((ks.take i).map fun k => won k p).map V.bl))) ⟨same_new hD, upd_same⟩ (fun i H' _ z => SqL.same z.1 hl) ?_ ?_⟩
    · rintro i v H1 H2 hi ⟨sm, hDl⟩ ⟨rfl, hv⟩
      obtain ⟨k, hk, rfl⟩ := kvL_at hv
      refine ⟨rfl, yes_if ?_⟩
      refine ⟨_, rfl, _, rfl, _, rfl, x, y, p.1, p.2, k, rfl, hx.same sm, hy.same sm, dx, dy, fun H3 s3 => ⟨_, s3 _ _ hDl, lt_line (by simp only [List.length_map]; have := List.length_take_le' i ks; omega), Same.grow (sm.trans s3) hD, ?_⟩⟩
      rw [upd_same, take_more (g := fun k => won k p) hk, List.map_append]
      rfl
    · rintro H1 ⟨sm, hDl⟩
      have e : (kvL ks).length = ks.length := by simp [kvL]
      rw [e, List.take_length] at hDl
      refine ⟨D, _, rfl, SqL.of hDl, ?_⟩
      have := q _ sm
      unfold allW at this
      rw [List.all_map]
      exact this
/-! ### open_kinds -/
theorem filt_yes {α : Type} {xs : List α} {i : Nat} {x : α} {c : α → Bool} (h : xs[i]? = some x) (hc : c x = true) : (xs.take (i + 1)).filter c = (xs.take i).filter c ++ [x] := by
  rw [List.take_succ, h, List.filter_append]
  simp [hc]
theorem filt_no {α : Type} {xs : List α} {i : Nat} {x : α} {c : α → Bool} (h : xs[i]? = some x) (hc : c x = false) : (xs.take (i + 1)).filter c = (xs.take i).filter c := by
  rw [List.take_succ, h, List.filter_append]
  simp [hc]
theorem kinds_len : kindV.length = kinds.length := rfl
theorem kvL_len {ks : List (List Nat)} : (kvL ks).length = ks.length := by simp [kvL]
theorem filt_le {c : List Nat → Bool} {i : Nat} : ((kinds.take i).filter c).length ≤ 9 := Nat.le_trans (List.length_filter_le _ _) (List.length_take_le' _ _)
def spOK : Sp := fun vs H Q _ => ∃ (d : Addr) (kvs : List (Key × V)) (g : List Nat → V), vs = [.ref d] ∧ H d = some (.dK kvs) ∧ (∀ k ∈ kinds, valV kvs (.inr (kS k)) = some (g k)) ∧
  ∀ H' l, Same H H' → H l = none → H' l = some (.lst (kvL (kinds.filter fun k => decide (g k = .non)))) → Q (.ref l) H'
abbrev nOK : List Str := ["paper", "kind"]
theorem sc_ok : FnScope nOK ["paper"] (defScope (top iOpenK)) := ⟨rfl, rfl, rfl, by decide +kernel, rfl, by decide +kernel, by decide +kernel⟩

theorem g_ok (T : Txt K mg) (A : Al K) : ∃ fd, FnP K "open_kinds" iOpenK (He.ga K "open_kinds") fd ∧ FnOk P w K mg base CX0 1 (He.ga K "open_kinds") fd ["paper"] spOK ∧ Binds K fd ["paper"] [] := by
  obtain ⟨fd, F⟩ := A.def "open_kinds" iOpenK
  refine ⟨fd, F, ?_, F.bindsN fun _ _ _ _ _ _ us hl => match us, hl with | [_], _ => rfl⟩
  refine F.ok sc_ok (fun vs H Q E h => ?_) (fun cdv A outer s H vs Q E hr h => ?_)
  · obtain ⟨d, kvs, g, rfl, _⟩ := h
    rfl
  · obtain ⟨d, kvs, g, rfl, hd, hg, q⟩ := h
    have nd := sc_ok.nd
    have hu := hu_of hr
    refine ⟨_, PSs.nox (pss_one (ps_ret (pe_lc (own := [("kind", 1)]) (g := gName 1) (by rfl) nd (pi_tup (pe_glob (v := .ref (He.ga K "KINDS")) (by rfl) T.kinds rfl)) (blkOk_by (own := [("kind", 1)]) (N := nOK) (sc := defScope (top iOpenK)) (by decide +kernel)) (fun _ _ _ _ _ => pg_name (i := 1) nd rfl (Or.inl rfl)) (fun _ _ _ _ _ => pts_one (pt_cmpR op_isN (pe_dget hu (pv 0) (pv 1) (fun _ _ => rfl)) pe_non (nomark _))) (fun _ _ _ _ _ => pv 1)))), ?_⟩
    refine ⟨_, rfl, ⟨_, T.ktup _⟩, fun D hD => lc_it (walk_tup (K := K) (a := He.ga K "KINDS") (xs := kindV)) (fun i H' => Same H H' ∧ H' D = some (.lst (kvL ((kinds.take i).filter fun k => decide (g k = .non))))) ⟨same_new hD, upd_same⟩ (fun i H' _ _ => T.ktup H') ?_ ?_⟩
    · rintro i v H1 H2 hi ⟨sm, hDl⟩ ⟨rfl, hv⟩
      obtain ⟨k, hk, rfl⟩ := kind_at hv
      have get : DGet H2 d (.str (kS k)) (some (g k)) := by
        have := DGet.k (k := Sum.inr (kS k)) (sm _ _ hd)
        rw [hg k (List.mem_of_getElem? hk)] at this
        exact this
      refine ⟨rfl, _, rfl, _, rfl, d, _, rfl, get, rfl, _, rfl, ?_⟩
      refine ite2 (fun h => ?_) (fun h => ?_)
      · refine ⟨_, rfl, _, hDl, lt_line (by rw [kvL_len]; exact Nat.le_trans filt_le (by decide)), Same.grow sm hD, ?_⟩
        rw [upd_same, filt_yes (c := fun k => decide (g k = .non)) hk h]
        simp only [kvL, List.map_append]
        rfl
      · refine ⟨sm, ?_⟩
        rw [filt_no (c := fun k => decide (g k = .non)) hk (Bool.eq_false_iff.mpr h)]
        exact hDl
    · rintro H1 ⟨sm, hDl⟩
      exact q _ _ sm hD hDl
end
end KF

set_option Elab.async false
set_option linter.all false
set_option maxRecDepth 100000
set_option maxHeartbeats 4000000
/-! # o.m(..) within a try; o.m(.., k = v) -/
namespace VX
open PySem PySem.Spec PyProof.Rows L2
section
variable {X : Cx} {CX : CXT} {k n : Nat} {f C : Addr} {fd : FuncData} {ps ks : List Str} {sp : Sp} {E : XK} {m : Str} {pos apos : Pos} {o e : Expr} {es : List Expr} {kws : List Keyword} {ta : TE} {t tk : TA} {g : List Value → List Value → List Value} {gV : List V → List V → List V}
def tMethT (C : Addr) (m : Str) (sp : Sp) (E : L2.St → XK) (ta : TE) (t : TA) : TE := fun σ H Q => ta σ H fun x H1 => ∃ a dx fs, x = .ref a ∧ H1 a = some (.ins C dx fs) ∧ fs.lookup m = none ∧ t σ H1 fun vs H2 => sp (x :: vs) H2 Q (E σ)
theorem pe_methT {pl : Sem Bool} {E : L2.St → XK} (he : PE X o ta) (c : Cls X.K C) (hm : Meth X.K C m f) (F : FnOk X.prog X.w X.K X.mg X.base CX k f fd ps sp) (hr : Room k X.A) (hb : Binds X.K fd ps []) (hx : ∀ σ, PassesAt CX X σ (E σ)) (ha : PA X (e :: es) t)
    (hst : starEach (e :: es) X.env = (false, eval e X.env) :: starEach es X.env := by rfl) (hpl : (backTo pos (starEach es X.env)).any (·.1) = false := by rfl)
    (ht : eval (.Call (.Attribute o m apos) (e :: es) [] pos) X.env = (do
      let ov ← eval o X.env
      standAt apos.atName
      let (f, first) ← holding [ov] (getMethod ov m pl)
      callWith pos f first (backTo pos (starEach (e :: es) X.env)) (backToKw pos (keywordEach [] X.env))) := by rfl) :
    PE X (.Call (.Attribute o m apos) (e :: es) [] pos) (tMethT C m sp E ta t) := by
  refine ⟨fun pins s σ H Q I h => ?_⟩
  refine PySem.W.methodCall_KW (pl := pl) (thn (he.run pins s σ H _ I h) fun u s1 ⟨x, H1, I1, rx, a, dx, fs, ex, ea, l, q⟩ => ?_) ht
  subst ex
  obtain rfl : u = Value.ref a := rx
  refine getmeth_ok I1 ea c hm l ?_
  refine PySem.W.callWith_K (first := [.ref a]) (h₀ := X.base) I.ok.mod.kin hm.kp (thn (ha.run pos pins s1 σ H1 _ I1 q) fun us s2 ⟨vs, H2, I2, r, q2⟩ => ⟨I2.kIn, ?_⟩) hst hpl
  exact run_fnS (us := .ref a :: us) (vs := .ref a :: vs) F hr hb (hx σ) I2 (.cons rfl r) q2
def tMethN (C : Addr) (m : Str) (n l : Nat) (sp : Sp) (gV : List V → List V → List V) (E : XK) (ta : TE) (t tk : TA) : TE := fun σ H Q => ta σ H fun x H1 => ∃ a dx fs, x = .ref a ∧ H1 a = some (.ins C dx fs) ∧ fs.lookup m = none ∧
  t σ H1 fun vs H2 => tk σ H2 fun zs H3 => vs.length = n ∧ zs.length = l ∧ sp (gV (x :: vs) zs) H3 Q E
/-- o.m(e, .., k = v, ..) -/
theorem pe_methN {pl : Sem Bool} (he : PE X o ta) (c : Cls X.K C) (hm : Meth X.K C m f) (F : FnOk X.prog X.w X.K X.mg X.base CX k f fd ps sp) (hr : Room k X.A) (hb : KBn X.K fd ps (n + 1) ks g gV) (hx : Passes CX X E) (ha : PA X (e :: es) t) (hkw : PK X kws tk)
    (hall : (backToKw pos (keywordEach kws X.env)).all (·.1.isSome) = true := by rfl) (hks : (backToKw pos (keywordEach kws X.env)).filterMap (·.1) = ks := by rfl)
    (hst : starEach (e :: es) X.env = (false, eval e X.env) :: starEach es X.env := by rfl) (hpl : ((backTo pos (starEach (e :: es) X.env)).any (·.1) || (backToKw pos (keywordEach kws X.env)).any (·.1.isNone)) = false := by rfl)
    (ht : eval (.Call (.Attribute o m apos) (e :: es) kws pos) X.env = (do
      let ov ← eval o X.env
      standAt apos.atName
      let (f, first) ← holding [ov] (getMethod ov m pl)
      callWith pos f first (backTo pos (starEach (e :: es) X.env)) (backToKw pos (keywordEach kws X.env))) := by rfl) :
    PE X (.Call (.Attribute o m apos) (e :: es) kws pos) (tMethN C m n ks.length sp gV E ta t tk) := by
  refine ⟨fun pins s σ H Q I h => ?_⟩
  refine PySem.W.methodCall_KW (pl := pl) (thn (he.run pins s σ H _ I h) fun u s1 ⟨x, H1, I1, rx, a, dx, fs, ex, ea, l, q⟩ => ?_) ht
  subst ex
  obtain rfl : u = Value.ref a := rx
  refine getmeth_ok I1 ea c hm l ?_
  refine PySem.W.callWith_KW (first := [.ref a]) (h₀ := X.base) I.ok.mod.kin hm.kp hall (thn (ha.run pos pins s1 σ H1 _ I1 q) fun us s2 ⟨vs, H2, I2, r, q2⟩ => ?_) hpl hst
  refine thn (hkw.run pos pins s2 σ H2 _ I2 q2) fun ws s3 ⟨zs, H3, I3, rz, l1, l2, q3⟩ => ⟨I3.kIn, ?_⟩
  rw [hks]
  exact run_fnN (us := .ref a :: us) (vs := .ref a :: vs) F hr hb hx I3 (.cons rfl r) rz (by rw [List.length_cons, l1]) l2 q3
/-- o.m(k = v, ..) -/
theorem pe_methN0 {pl : Sem Bool} (he : PE X o ta) (c : Cls X.K C) (hm : Meth X.K C m f) (F : FnOk X.prog X.w X.K X.mg X.base CX k f fd ps sp) (hr : Room k X.A) (hb : KBn X.K fd ps 1 ks g gV) (hx : Passes CX X E) (hkw : PK X kws tk)
    (hall : (backToKw pos (keywordEach kws X.env)).all (·.1.isSome) = true := by rfl) (hks : (backToKw pos (keywordEach kws X.env)).filterMap (·.1) = ks := by rfl)
    (hpl : ((backTo pos (starEach [] X.env)).any (·.1) || (backToKw pos (keywordEach kws X.env)).any (·.1.isNone)) = false := by rfl)
    (ht : eval (.Call (.Attribute o m apos) [] kws pos) X.env = (do
      let ov ← eval o X.env
      standAt apos.atName
      let (f, first) ← holding [ov] (getMethod ov m pl)
      callWith pos f first (backTo pos (starEach [] X.env)) (backToKw pos (keywordEach kws X.env))) := by rfl) :
    PE X (.Call (.Attribute o m apos) [] kws pos) (tMethN C m 0 ks.length sp gV E ta tNil tk) := by
  refine ⟨fun pins s σ H Q I h => ?_⟩
  refine PySem.W.methodCall_KW (pl := pl) (thn (he.run pins s σ H _ I h) fun u s1 ⟨x, H1, I1, rx, a, dx, fs, ex, ea, l, q⟩ => ?_) ht
  subst ex
  obtain rfl : u = Value.ref a := rx
  refine getmeth_ok I1 ea c hm l ?_
  refine PySem.W.callWith_KW0 (first := [.ref a]) (h₀ := X.base) I.ok.mod.kin hm.kp hall ?_ hpl
  refine thn (hkw.run pos pins s1 σ H1 _ I1 q) fun ws s3 ⟨zs, H3, I3, rz, l1, l2, q3⟩ => ⟨I3.kIn, ?_⟩
  rw [hks]
  exact run_fnN (us := [.ref a]) (vs := [.ref a]) F hr hb hx I3 (.cons rfl .nil) rz (by rfl) l2 q3
end
end VX
namespace VX
open PySem PySem.Spec PyProof.Rows L2
/-! ### rules whose reading names K, not X.K: for a comprehension's element -/
section
variable {X : Cx} {e : Expr} {f : Str} {pos : Pos} {ta : TE}
theorem pe_fldK (K : PySem.W.Frag) (he : PE X e ta) (hb : attributeBase e f X.env (eval e X.env) = eval e X.env) (hK : X.K = K := by rfl) : PE X (.Attribute e f pos) (tFld K ta f) := by
  subst hK
  exact pe_fld he hb
def rLenS (K : PySem.W.Frag) : List V → Hp → VK → Prop := fun xs H Q => ∃ p ys, xs = [.ref p] ∧ (SqL K H p ys ∨ SqT K H p ys) ∧ Q (.int ys.length) H
theorem call_lenK (K : PySem.W.Frag) (hK : X.K = K := by rfl) : CallR X (.builtin "len") (rLenS K) := by
  subst hK
  exact call_len_seq
theorem op_inK (K : PySem.W.Frag) (hK : X.K = K := by rfl) : OpR X (compareOp .In) (rIn K false) := by
  subst hK
  exact op_in_seq
theorem op_notInK (K : PySem.W.Frag) (hK : X.K = K := by rfl) : OpR X (compareOp .NotIn) (rIn K true) := by
  subst hK
  exact op_notIn_seq
end
end VX
namespace VX
open PySem PySem.Spec PyProof.Rows L2
/-- tuple(e) of a list or a tuple, as one word -/
structure RTup (K : PySem.W.Frag) (vs : List V) (H : Hp) (Q : VK) : Prop where
  h : ∃ p ys, vs = [.ref p] ∧ ((SqL K H p ys ∧ ∀ l, H l = none → Q (.ref l) (upd H l (.tup ys))) ∨ (SqT K H p ys ∧ Q (.ref p) H))
theorem call_tupK {X : Cx} (K : PySem.W.Frag) (hK : X.K = K := by rfl) : CallR X (.type "tuple") (RTup K) := by
  subst hK
  intro pins s σ H xs us Q I r h
  exact call_tuple_of pins s σ H xs us Q I r h.h
theorem sqT_same {K : PySem.W.Frag} {H H' : Hp} {a : Addr} {xs : List V} (s : Same H H') (h : SqT K H a xs) : SqT K H' a xs := by
  rcases h with (h | ⟨o, h⟩) | h
  · exact .inl (.inl (s _ _ h))
  · exact .inl (.inr ⟨o, s _ _ h⟩)
  · exact .inr h
theorem sqL_same {K : PySem.W.Frag} {H H' : Hp} {a : Addr} {xs : List V} (s : Same H H') (h : SqL K H a xs) : SqL K H' a xs := by
  rcases h with (h | ⟨o, h⟩) | h
  · exact .inl (.inl (s _ _ h))
  · exact .inl (.inr ⟨o, s _ _ h⟩)
  · exact .inr h
theorem tup_use {K : PySem.W.Frag} {H : Hp} {a : Addr} {vs : List V} {Q : VK} (h : SqL K H a vs ∨ SqT K H a vs) (k : ∀ t H', Same H H' → SqT K H' t vs → Q (.ref t) H') : RTup K [.ref a] H Q :=
  ⟨a, vs, rfl, h.elim (fun h => .inl ⟨h, fun l hl => k _ _ (same_new hl) (SqT.of upd_same)⟩) (fun h => .inr ⟨h, k _ _ (Same.refl _) h⟩)⟩
end VX

set_option Elab.async false
set_option linter.all false
set_option maxRecDepth 100000
set_option maxHeartbeats 4000000
/-! # facts.py: Facts -/
namespace KF
open PySem PySem.Spec PyProof.Rows L2 VX KW
section
variable {P : Program} {w : World} {K : PySem.W.Frag} {mg : Str → Option Value} {base : Heap} {f : Addr} {fd : FuncData}
/-- the facts at x -/
def IsFa (K : PySem.W.Frag) (H : Hp) (x : Addr) (ps qs : List Pr) : Prop := ∃ dx a b xs us, H x = some (.ins (fC K) dx [("_within", .ref a), ("_not_within", .ref b)]) ∧ SqT K H a xs ∧ IsPrs K H xs ps ∧ SqT K H b us ∧ IsPrs K H us qs ∧ ps.length ≤ 100 ∧ qs.length ≤ 100
theorem IsFa.same {H H' : Hp} (s : Same H H') {x : Addr} {ps qs : List Pr} (h : IsFa K H x ps qs) : IsFa K H' x ps qs := by
  obtain ⟨dx, a, b, xs, us, h1, h2, h3, h4, h5, h6⟩ := h
  exact ⟨dx, a, b, xs, us, s _ _ h1, SqT.same s h2, h3.same s, SqT.same s h4, h5.same s, h6⟩
theorem IsFa.keep {H H' : Hp} {b x : Addr} {o : HO} (hb : H b = some o) (l : Lse o) (k : Kept b H H') {ps qs : List Pr} (h : IsFa K H x ps qs) : IsFa K H' x ps qs := by
  obtain ⟨dx, a, c, xs, us, h1, h2, h3, h4, h5, h6⟩ := h
  exact ⟨dx, a, c, xs, us, k _ _ h1 (by rintro rfl; rw [hb] at h1; cases l <;> cases h1), keepT hb l k h2, h3.keep hb l k, keepT hb l k h4, h5.keep hb l k, h6⟩
theorem keepL {H H' : Hp} {b a : Addr} {C dx : Addr} {fs : List (Str × V)} {xs : List V} (hb : H b = some (.ins C dx fs)) (k : Kept b H H') (h : SqL K H a xs) : SqL K H' a xs := seqL_keep hb k h
/-! ### Facts.__init__ -/
def spFI (K : PySem.W.Frag) : Sp := fun vs H Q _ => ∃ (x a b dx : Addr) (xs us : List V) (ps qs : List Pr), vs = [.ref x, .ref a, .ref b] ∧ H x = some (.ins (fC K) dx []) ∧ (SqL K H a xs ∨ SqT K H a xs) ∧ IsPrs K H xs ps ∧ (SqL K H b us ∨ SqT K H b us) ∧ IsPrs K H us qs ∧ ps.length ≤ 100 ∧ qs.length ≤ 100 ∧
  ∀ H', Kept x H H' → IsFa K H' x ps qs → Q .non H'
abbrev nIni : List Str := ["self", "within", "not_within"]
theorem sc_ini : FnScope nIni ["self", "within", "not_within"] (defScope (sF 0)) := ⟨rfl, rfl, rfl, by decide +kernel, rfl, by decide +kernel, by decide +kernel⟩

theorem ok_fi {da db : V} (F : FunD K "__init__" "Facts.__init__" (defArgs (sF 0)) (defBody (sF 0)) (defScope (sF 0)) [] [("within", da), ("not_within", db)] f fd) (T : Txt K mg) : FnOk P w K mg base CX0 1 f fd ["self", "within", "not_within"] (spFI K) := by
  refine F.ok sc_ini (fun vs H Q E h => ?_) (fun cdv A outer s H vs Q E hr h => ?_)
  · obtain ⟨x, a, b, dx, xs, us, ps, qs, rfl, _⟩ := h
    rfl
  · obtain ⟨x, a, b, dx, xs, us, ps, qs, rfl, hx, ha, hp, hb, hq, lp, lq, q⟩ := h
    refine ⟨_, PSs.nox (pss_cons (ps_fld (pv 0) (pe_callTy (call_tupK K) (by rfl) (T.fr "tuple") (by decide +kernel) (pa_cons (pv 1) pa_nil)) rfl) (pss_one (ps_fld (pv 0) (pe_callTy (call_tupK K) (by rfl) (T.fr "tuple") (by decide +kernel) (pa_cons (pv 2) pa_nil)) rfl))), ?_⟩
    refine ⟨_, rfl, ?_⟩
    refine tup_use ha fun t1 H1 s1 h1 => ?_
    refine ⟨_, rfl, x, _, dx, [], rfl, s1 _ _ hx, T.fcls, T.ffw, by decide, ?_⟩
    have x2 : upd H1 x (.ins (fC K) dx (putF "_within" (V.ref t1) [])) x = some (.ins (fC K) dx [("_within", .ref t1)]) := upd_same
    have k2 : Kept x H1 (upd H1 x (.ins (fC K) dx (putF "_within" (V.ref t1) []))) := fun c o z ne => by rw [upd_ne ne]; exact z
    have kb : Kept x H (upd H1 x (.ins (fC K) dx (putF "_within" (V.ref t1) []))) := fun c o z ne => k2 c o (s1 _ _ z) ne
    have t1b := keepT (s1 _ _ hx) (.raw _ _) k2 h1
    generalize upd H1 x (.ins (fC K) dx (putF "_within" (V.ref t1) [])) = H2 at x2 k2 kb t1b
    have hb2 : SqL K H2 b us ∨ SqT K H2 b us := hb.elim (fun h => .inl (keepL hx kb h)) (fun h => .inr (keepT hx (.raw _ _) kb h))
    refine ⟨_, rfl, ?_⟩
    refine tup_use hb2 fun t2 H3 s3 h3 => ?_
    refine ⟨_, rfl, x, _, dx, _, rfl, s3 _ _ x2, T.fcls, T.ffn, (by show 1 < 1000; decide), ?_⟩
    have k4 : Kept x H3 (upd H3 x (.ins (fC K) dx (putF "_not_within" (V.ref t2) [("_within", V.ref t1)]))) := fun c o z ne => by rw [upd_ne ne]; exact z
    have k5 : Kept x H (upd H3 x (.ins (fC K) dx (putF "_not_within" (V.ref t2) [("_within", V.ref t1)]))) := fun c o z ne => k4 c o (s3 _ _ (kb c o z ne)) ne
    have x3 := s3 _ _ x2
    exact q _ k5 ⟨dx, t1, t2, xs, us, upd_same, keepT x3 (.one _ _ _) k4 (SqT.same s3 t1b), hp.keep hx (.raw _ _) k5, keepT x3 (.one _ _ _) k4 h3, hq.keep hx (.raw _ _) k5, lp, lq⟩
/-! ### _paper -/
def papK (ps : List Pr) : List Nat → V := fun k => optN (brK ps k)
def spPap (K : PySem.W.Frag) : Sp := fun vs H Q _ => ∃ (x : Addr) (ps qs : List Pr), vs = [.ref x] ∧ IsFa K H x ps qs ∧ ∀ H' d, Same H H' → H d = none → H' d = some (.dK (dictK (papK ps))) → Q (.ref d) H'
abbrev nPap : List Str := ["self", "kind"]
theorem sc_pap : FnScope nPap ["self"] (defScope (sF 13)) := ⟨rfl, rfl, rfl, by decide +kernel, rfl, by decide +kernel, by decide +kernel⟩

theorem g_pap (T : Txt K mg) (A : Al K) : Meth K (fC K) "_paper" (He.ma K (fC K) "_paper") ∧ ∃ fd, FnOk P w K mg base CX0 27 (He.ma K (fC K) "_paper") fd ["self"] (spPap K) ∧ Binds K fd ["self"] [] := by
  obtain ⟨fdB, FB, GB, BB⟩ := g_fb (P := P) (w := w) (base := base) T A
  obtain ⟨M, fd, F⟩ := A.met "_paper" 13
  refine ⟨M, fd, ?_, F.bindsN fun _ _ _ _ _ _ us hl => match us, hl with | [_], _ => rfl⟩
  refine F.ok sc_pap (fun vs H Q E h => ?_) (fun cdv A outer s H vs Q E hr h => ?_)
  · obtain ⟨x, ps, qs, rfl, _⟩ := h
    rfl
  · obtain ⟨x, ps, qs, rfl, hx, q⟩ := h
    obtain ⟨dx, a, b, xs, us, h1, h2, h3, _⟩ := id hx
    have nd := sc_pap.nd
    refine ⟨_, PSs.nox (pss_one (ps_ret (pe_dc (own := [("kind", 1)]) (g := gName 1) (tt := tYes) rfl nd (pi_tup (pe_glob (v := .ref (He.ga K "KINDS")) (by rfl) T.kinds rfl)) (blkOk_by (own := [("kind", 1)]) (N := nPap) (sc := defScope (sF 13)) (by decide +kernel)) (fun _ _ _ _ _ => pg_name (i := 1) nd rfl (Or.inl rfl)) (fun _ _ _ _ _ => pts_nil) (fun _ _ _ _ _ => pv 1) (fun _ _ _ _ _ => pe_call GB hr (by rfl) (T.df "first_breach" iFirstB) FB.kp BB .nil pass0 (pa_cons (pe_fldK K (pv 0) rfl) (pa_cons (pv 1) pa_nil)))))), ?_⟩
    refine ⟨_, rfl, ⟨_, T.ktup _⟩, fun D hD => dc_tup (K := K) (xs := kindV) (fun i H' => Same H H' ∧ H' D = some (.dK ((dictK (papK ps)).take i))) ⟨same_new hD, upd_same⟩ (fun i H' _ _ => T.ktup H') ?_ ?_⟩
    · rintro i v H1 hv ⟨sm, hDl⟩
      obtain ⟨k, hk, rfl⟩ := kind_at hv
      refine ⟨rfl, yes_if ?_⟩
      refine ⟨_, rfl, _, rfl, x, _, dx, _, .ref a, rfl, sm _ _ h1, T.fcls, T.ffw, rfl, _, rfl, a, xs, ps, k, rfl, SqT.same sm h2, h3.same sm, fun H2 s2 => ⟨_, Sum.inr (kS k), rfl, s2 _ _ hDl, lt_line (Nat.le_trans (List.length_take_le' _ _) (by show 9 ≤ 100000; decide)), Same.grow (sm.trans s2) hD, ?_⟩⟩
      rw [upd_same]
      exact congrArg (fun z => some (HO.dK z)) (dictK_put (papK ps) hk)
    · rintro H1 ⟨sm, hDl⟩
      exact q _ _ sm hD hDl
theorem pap_get {ps : List Pr} : ∀ k ∈ kinds, valV (dictK (papK ps)) (.inr (kS k)) = some (papK ps k) := fun k hk => by
  obtain ⟨i, hi⟩ := List.mem_iff_getElem?.mp hk
  exact dictK_get _ hi
theorem pap_op {ps : List Pr} : (kinds.filter fun k => decide (papK ps k = .non)) = opK ps := by
  unfold opK
  refine List.filter_congr fun k _ => ?_
  unfold papK
  rw [optN_non, brK_ok]
/-! ### kinds -/
def spKnd (K : PySem.W.Frag) : Sp := fun vs H Q _ => ∃ (x : Addr) (ps qs : List Pr), vs = [.ref x] ∧ IsFa K H x ps qs ∧ ∀ H' l, Same H H' → H l = none → H' l = some (.lst (kvL (opK ps))) → Q (.ref l) H'
abbrev nKnd : List Str := ["self"]
theorem sc_knd : FnScope nKnd ["self"] (defScope (sF 3)) := ⟨rfl, rfl, rfl, by decide +kernel, rfl, by decide +kernel, by decide +kernel⟩

theorem g_knd (T : Txt K mg) (A : Al K) : Meth K (fC K) "kinds" (He.ma K (fC K) "kinds") ∧ ∃ fd, FnOk P w K mg base CX0 28 (He.ma K (fC K) "kinds") fd ["self"] (spKnd K) ∧ Binds K fd ["self"] [] := by
  obtain ⟨MP, fdP, GP, BP⟩ := g_pap (P := P) (w := w) (base := base) T A
  obtain ⟨fdO, FO, GO, BO⟩ := g_ok (P := P) (w := w) (base := base) T A
  obtain ⟨M, fd, F⟩ := A.met "kinds" 3
  refine ⟨M, fd, ?_, F.bindsN fun _ _ _ _ _ _ us hl => match us, hl with | [_], _ => rfl⟩
  refine F.ok sc_knd (fun vs H Q E h => ?_) (fun cdv A outer s H vs Q E hr h => ?_)
  · obtain ⟨x, ps, qs, rfl, _⟩ := h
    rfl
  · obtain ⟨x, ps, qs, rfl, hx, q⟩ := h
    obtain ⟨dx, a, b, xs, us, h1, h2, h3, _⟩ := id hx
    have hr1 : Room 1 _ := hr.mono (by decide)
    refine ⟨_, PSs.nox (pss_one (ps_ret (pe_call GO hr1 (by rfl) (T.df "open_kinds" iOpenK) FO.kp BO .nil pass0 (pa_cons (pe_meth0 (pv 0) T.fcls MP GP hr BP .nil pass0) pa_nil)))), ?_⟩
    refine ⟨_, rfl, x, dx, _, rfl, h1, rfl, x, ps, qs, rfl, hx, fun H1 d s1 hd hdd => ⟨d, _, papK ps, rfl, hdd, pap_get, fun H2 l s2 hl hll => ?_⟩⟩
    rw [pap_op] at hll
    exact q _ _ (s1.trans s2) (s1.free hl) hll
/-! ### clash_reason, clashes -/
def IsCR (H H' : Hp) (v : V) (ps : List Pr) : Option Nat → Prop
  | none => v = .non
  | some i => ∃ t d, v = .ref t ∧ H t = none ∧ H' t = some (.tup [.int i, .ref d]) ∧ H d = none ∧ H' d = some (.dK (dictK (papK ps))) ∧ t ≠ d
def spCr (K : PySem.W.Frag) : Sp := fun vs H Q _ => ∃ (x : Addr) (ps qs : List Pr), vs = [.ref x] ∧ IsFa K H x ps qs ∧ ∀ H' v, Same H H' → IsCR H H' v ps (clK ps qs) → Q v H'
abbrev nCr : List Str := ["self", "paper", "left", "at", "pair"]
theorem sc_cr : FnScope nCr ["self"] (defScope (sF 8)) := ⟨rfl, rfl, rfl, by decide +kernel, rfl, by decide +kernel, by decide +kernel⟩

theorem g_cr (T : Txt K mg) (A : Al K) : Meth K (fC K) "clash_reason" (He.ma K (fC K) "clash_reason") ∧ ∃ fd, FnOk P w K mg base CX0 28 (He.ma K (fC K) "clash_reason") fd ["self"] (spCr K) ∧ Binds K fd ["self"] [] := by
  obtain ⟨MP, fdP, GP, BP⟩ := g_pap (P := P) (w := w) (base := base) T A
  obtain ⟨fdO, FO, GO, BO⟩ := g_ok (P := P) (w := w) (base := base) T A
  obtain ⟨fdA, FA, GA, BA⟩ := g_wa (P := P) (w := w) (base := base) T A
  obtain ⟨M, fd, F⟩ := A.met "clash_reason" 8
  refine ⟨M, fd, ?_, F.bindsN fun _ _ _ _ _ _ us hl => match us, hl with | [_], _ => rfl⟩
  refine F.ok sc_cr (fun vs H Q E h => ?_) (fun cdv A outer s H vs Q E hr h => ?_)
  · obtain ⟨x, ps, qs, rfl, _⟩ := h
    rfl
  · obtain ⟨x, ps, qs, rfl, hx, q⟩ := h
    obtain ⟨dx, a, b, xs, us, h1, h2, h3, h4, h5, _⟩ := id hx
    have hr1 : Room 1 _ := hr.mono (by decide)
    have hr2 : Room 26 _ := hr.mono (by decide)
    have nd := sc_cr.nd
    have l9 : (opK ps).length ≤ 1000 := Nat.le_trans (List.length_filter_le _ _) (by decide)
    refine ⟨_, PSs.nox (pss_cons (ps_set (i := 1) nd rfl (.inl rfl) (pe_meth0 (pv 0) T.fcls MP GP hr BP .nil pass0)) (pss_cons (ps_set (i := 2) nd rfl (.inl rfl) (pe_call GO hr1 (by rfl) (T.df "open_kinds" iOpenK) FO.kp BO .nil pass0 (pa_cons (pv 1) pa_nil))) (pss_cons (ps_for PassesOwn.never rfl (pi_enumT (by rfl) (T.fr "enumerate") (pa_cons (pe_fld (pv 0) rfl) pa_nil)) (pg_tup (by rfl) (pgs_cons (pg_name (i := 3) nd rfl (.inl rfl)) (pgs_cons (pg_name (i := 4) nd rfl (.inl rfl)) pgs_nil))) (pss_one (ps_if (pt_val (pe_call GA hr2 (by rfl) (T.df "within_on_all" iWonAll) FA.kp BA .nil pass0 (pa_cons (pv 4) (pa_cons (pv 2) pa_nil)))) (pss_one (ps_ret (pe_tup (pa_cons (pv 3) (pa_cons (pv 1) pa_nil))))) pss_nil))) (pss_one (ps_ret pe_non))))), ?_⟩
    refine ⟨_, rfl, x, dx, _, rfl, h1, rfl, x, ps, qs, rfl, hx, fun H1 d s1 hd hdd => ?_⟩
    refine ⟨_, rfl, d, _, papK ps, rfl, hdd, pap_get, fun H2 l s2 hl hll => ?_⟩
    rw [pap_op] at hll
    have s12 := s1.trans s2
    refine ⟨_, rfl, x, _, dx, _, .ref b, rfl, s12 _ _ h1, T.fcls, T.ffn, rfl, b, _, rfl, SqT.same s12 h4, for_it walk_enumT (fun i σ H' => (∃ y1 y2, σ = [some (V.ref x), some (V.ref d), some (V.ref l), y1, y2]) ∧ Same H2 H' ∧ ∀ j, j < i → ∀ p, qs[j]? = some p → allW (opK ps) p = false) ⟨⟨none, none, rfl⟩, Same.refl _, fun j hj => absurd hj (Nat.not_lt_zero j)⟩ (fun i σ H' _ z => SqT.same (s12.trans z.2.1) h4) ?_ ?_⟩
    · rintro i v σ Ha Hb hi ⟨⟨y1, y2, rfl⟩, sm, hn⟩ ⟨T', x', y', rfl, hT, rfl, e1, e2⟩
      obtain rfl : V.int (i : Nat) = x' := Option.some.inj e1
      obtain ⟨p, hpi, hpr⟩ := h5.at e2
      have s3 : Same H2 (upd Ha T' (.tup [.int (i : Nat), y'])) := sm.trans (same_new hT)
      refine ⟨T', _, rfl, SqT.of upd_same, rfl, _, _, rfl, _, _, rfl, rfl, ?_⟩
      refine ⟨_, rfl, _, rfl, y', p, l, opK ps, rfl, hpr.same (s12.trans s3), SqL.of (s3 _ _ hll), l9, fun H3 s4 => ⟨_, rfl, ?_⟩⟩
      have s5 := s3.trans s4
      cases hw : allW (opK ps) p with
      | true =>
        refine iteT ⟨_, rfl, _, rfl, (by show 2 ≤ sizeLine; decide), fun t ht => ?_⟩
        have e : clK ps qs = some i := fi_at hpi hw hn
        rw [e] at q
        have hd3 : H3 d = some (.dK (dictK (papK ps))) := s5 _ _ (s2 _ _ hdd)
        exact q _ _ ((s12.trans s5).trans (same_new ht)) ⟨t, d, rfl, (s12.trans s5).free ht, upd_same, hd, (by rw [upd_ne (ne_of_none hd3 ht)]; exact hd3), Ne.symm (ne_of_none hd3 ht)⟩
      | false =>
        refine iteF ⟨⟨_, _, rfl⟩, s5, fun j hj p2 hp2 => ?_⟩
        by_cases e : j = i
        · subst e
          rw [hpi] at hp2
          cases hp2
          exact hw
        · exact hn j (by omega) p2 hp2
    · rintro σ Ha ⟨⟨y1, y2, rfl⟩, sm, hn⟩
      have e : clK ps qs = none := fi_no fun i p hpi => hn i (by
        obtain ⟨hi, _⟩ := List.getElem?_eq_some_iff.mp hpi
        rw [h5.1]
        exact hi) p hpi
      rw [e] at q
      exact q _ _ (s12.trans sm) rfl
def spCl (K : PySem.W.Frag) : Sp := fun vs H Q _ => ∃ (x : Addr) (ps qs : List Pr), vs = [.ref x] ∧ IsFa K H x ps qs ∧ ∀ H', Same H H' → Q (.bl (clB ps qs)) H'
theorem cr_non {H H' : Hp} {v : V} {ps : List Pr} {o : Option Nat} (h : IsCR H H' v ps o) : decide (v = .non) = o.isNone := by
  cases o with
  | none => obtain rfl : v = .non := h; rfl
  | some i => obtain ⟨t, d, rfl, _⟩ := h; rfl
abbrev nCl : List Str := ["self"]
theorem sc_cl : FnScope nCl ["self"] (defScope (sF 4)) := ⟨rfl, rfl, rfl, by decide +kernel, rfl, by decide +kernel, by decide +kernel⟩

theorem g_cl (T : Txt K mg) (A : Al K) : Meth K (fC K) "clashes" (He.ma K (fC K) "clashes") ∧ ∃ fd, FnOk P w K mg base CX0 29 (He.ma K (fC K) "clashes") fd ["self"] (spCl K) ∧ Binds K fd ["self"] [] := by
  obtain ⟨MC, fdC, GC, BC⟩ := g_cr (P := P) (w := w) (base := base) T A
  obtain ⟨M, fd, F⟩ := A.met "clashes" 4
  refine ⟨M, fd, ?_, F.bindsN fun _ _ _ _ _ _ us hl => match us, hl with | [_], _ => rfl⟩
  refine F.ok sc_cl (fun vs H Q E h => ?_) (fun cdv A outer s H vs Q E hr h => ?_)
  · obtain ⟨x, ps, qs, rfl, _⟩ := h
    rfl
  · obtain ⟨x, ps, qs, rfl, hx, q⟩ := h
    obtain ⟨dx, a, b, xs, us, h1, h2, h3, _⟩ := id hx
    refine ⟨_, PSs.nox (pss_one (ps_ret (pe_cmpR op_notN (pe_meth0 (pv 0) T.fcls MC GC hr BC .nil pass0) pe_non (nomark _)))), ?_⟩
    refine ⟨_, rfl, x, dx, _, rfl, h1, rfl, x, ps, qs, rfl, hx, fun H1 v s1 hv => ⟨rfl, ?_⟩⟩
    rw [cr_non hv]
    have := q H1 s1
    rw [← clK_none] at this
    cases hk : clK ps qs with
    | none => rw [hk] at this; exact this
    | some i => rw [hk] at this; exact this
end
end KF

set_option Elab.async false
set_option linter.all false
set_option maxRecDepth 100000
set_option maxHeartbeats 4000000
/-! # facts.py: models, verdicts -/
namespace KF
open PySem PySem.Spec PyProof.Rows L2 VX KW
section
variable {P : Program} {w : World} {K : PySem.W.Frag} {mg : Str → Option Value} {base : Heap} {f : Addr} {fd : FuncData}
/-! ### _check -/
def spCk (K : PySem.W.Frag) : Sp := fun vs H Q E => ∃ (x : Addr) (ps qs : List Pr), vs = [.ref x] ∧ IsFa K H x ps qs ∧ (clB ps qs = true → ∀ H', Same H H' → E (.ref (cC K)) none H') ∧ (clB ps qs = false → ∀ H', Same H H' → Q .non H')
abbrev nCk : List Str := ["self"]
theorem sc_ck : FnScope nCk ["self"] (defScope (sF 12)) := ⟨rfl, rfl, rfl, by decide +kernel, rfl, by decide +kernel, by decide +kernel⟩

theorem g_ck (T : Txt K mg) (A : Al K) : Meth K (fC K) "_check" (He.ma K (fC K) "_check") ∧ ∃ fd, FnOk P w K mg base (L2.CX P w) 30 (He.ma K (fC K) "_check") fd ["self"] (spCk K) ∧ Binds K fd ["self"] [] := by
  obtain ⟨MC, fdC, GC, BC⟩ := g_cl (P := P) (w := w) (base := base) T A
  obtain ⟨M, fd, F⟩ := A.met "_check" 12
  refine ⟨M, fd, ?_, F.bindsN fun _ _ _ _ _ _ us hl => match us, hl with | [_], _ => rfl⟩
  refine F.ok sc_ck (fun vs H Q E h => ?_) (fun cdv A outer s H vs Q E hr h => ?_)
  · obtain ⟨x, ps, qs, rfl, _⟩ := h
    rfl
  · obtain ⟨x, ps, qs, rfl, hx, kE, k⟩ := h
    obtain ⟨dx, a, b, xs, us, h1, _⟩ := id hx
    refine ⟨_, (pss_one (ps_if (pt_val (pe_meth0 (pv 0) T.fcls MC GC hr BC .nil pass0)) (pss_one (ps_raise rfl (takes_of rfl rfl rfl rfl) (pmk_own0 PySem.F.excBase_ValueError T.cx T.clash T.ck (raises_own T.cb T.ct) (by rfl)))) pss_nil)), ?_⟩
    refine ⟨_, rfl, x, dx, _, rfl, h1, rfl, x, ps, qs, rfl, hx, fun H1 s1 => ⟨_, rfl, ?_⟩⟩
    cases hc : clB ps qs with
    | true => exact iteT (kE hc H1 s1)
    | false => exact iteF (k hc H1 s1)
/-! ### _supposed -/
def supP (ps : List Pr) (p : Pr) (b : Bool) : List Pr := if b = true then ps ++ [p] else ps
theorem fa_kb (A : Al K) : ∃ fd, (∀ {P : Program} {w : World} {mg : Str → Option Value} {base : Heap}, Txt K mg → FnOk P w K mg base CX0 1 (He.ma K (fC K) "__init__") fd ["self", "within", "not_within"] (spFI K)) ∧
    KBn K fd ["self", "within", "not_within"] 1 ["within", "not_within"] (fun us ws => us ++ ws) (fun vs zs => vs ++ zs) ∧
    KBn K fd ["self", "within", "not_within"] 1 ["not_within", "within"] (fun us ws => us ++ ws.reverse) (fun vs zs => vs ++ zs.reverse) ∧
    ∃ a b ds, Vals [V.ref a, V.ref b] ds ∧ Binds K fd ["self", "within", "not_within"] ds ∧ (∀ H, SqT K H a []) ∧ ∀ H, SqT K H b [] := by
  obtain ⟨fd, a, b, F, ha, hb⟩ := A.fi
  refine ⟨fd, fun T => ok_fi F T, ?_, ?_, ?_⟩
  · obtain ⟨mv, h⟩ := F.kbinds0 (ps := ["self", "within", "not_within"]) 1 ["within", "not_within"] [] (fun vs mz zs => vs ++ zs) (by simp) (fun q hq => nomatch hq) (fun r1 _ r3 => r1.append r3) fun D doc pm an cdv ct us mv ws h1 h2 h3 => by
      match us, mv, ws, h1, h2, h3 with
      | [u], [], [w1, w2], _, _, _ => rfl
    exact h
  · obtain ⟨mv, h⟩ := F.kbinds0 (ps := ["self", "within", "not_within"]) 1 ["not_within", "within"] [] (fun vs mz zs => vs ++ zs.reverse) (by simp) (fun q hq => nomatch hq) (fun {vs mz zs us mv ws} r1 _ r3 => by
        refine r1.append ?_
        exact r3.reverse) fun D doc pm an cdv ct us mv ws h1 h2 h3 => by
      match us, mv, ws, h1, h2, h3 with
      | [u], [], [w1, w2], _, _, _ => rfl
    exact h
  · obtain ⟨ds, h1, h2⟩ := F.binds0 (ps := ["self", "within", "not_within"]) 1 (by simp) rfl fun D doc pm an cdv ct us ks h1 h2 => by
      match us, ks, h1, h2 with
      | [u], [k1, k2], _, _ => exact ⟨_, _, _, _, _, _, rfl, rfl, _, _, _, _, _, _, rfl, rfl, rfl⟩
    exact ⟨a, b, ds, h1, h2, ha, hb⟩
def spSup (K : PySem.W.Frag) : Sp := fun vs H Q _ => ∃ (x y z : Addr) (b : Bool) (ps qs : List Pr) (p : Pr), vs = [.ref x, .ref y, .ref z, .bl b] ∧ IsFa K H x ps qs ∧ IsTr K H y p.1 ∧ IsTr K H z p.2 ∧ dep p.1 ≤ 20 ∧ dep p.2 ≤ 20 ∧ ps.length ≤ 50 ∧ qs.length ≤ 50 ∧
  ∀ H' u, Same H H' → IsFa K H' u (supP ps p b) (supP qs p (!b)) → Q (.ref u) H'
abbrev nSup : List Str := ["self", "one", "other", "inside"]
theorem sc_sup : FnScope nSup ["self", "one", "other", "inside"] (defScope (sF 11)) := ⟨rfl, rfl, rfl, by decide +kernel, rfl, by decide +kernel, by decide +kernel⟩

theorem g_sup (T : Txt K mg) (A : Al K) : Meth K (fC K) "_supposed" (He.ma K (fC K) "_supposed") ∧ ∃ fd, FnOk P w K mg base CX0 3 (He.ma K (fC K) "_supposed") fd ["self", "one", "other", "inside"] (spSup K) ∧ Binds K fd ["self", "one", "other", "inside"] [] := by
  obtain ⟨fdI, GI', KB, _, _⟩ := fa_kb A
  have GI : FnOk P w K mg base CX0 1 (He.ma K (fC K) "__init__") fdI ["self", "within", "not_within"] (spFI K) := GI' T
  obtain ⟨M, fd, F⟩ := A.met "_supposed" 11
  refine ⟨M, fd, ?_, F.bindsN fun _ _ _ _ _ _ us hl => match us, hl with | [_, _, _, _], _ => rfl⟩
  refine F.ok sc_sup (fun vs H Q E h => ?_) (fun cdv A outer s H vs Q E hr h => ?_)
  · obtain ⟨x, y, z, b, ps, qs, p, rfl, _⟩ := h
    rfl
  · obtain ⟨x, y, z, b, ps, qs, p, rfl, hx, hy, hz, d1, d2, l1, l2, k⟩ := h
    obtain ⟨dx, a, c, xs, us, h1, h2, h3, h4, h5, _⟩ := id hx
    have hr2 : Room (1 + 1) _ := hr
    refine ⟨_, PSs.nox (pss_cons (ps_if (pt_val (pv 3)) (pss_one (ps_ret (pe_makeK0 T.fmk GI hr2 (by rfl) T.facts KB pass0 (pk_cons (pe_lst (StX.pa_star (pe_fld (pv 0) rfl) (pa_cons (pe_tup (pa_cons (pv 1) (pa_cons (pv 2) pa_nil))) pa_nil))) (pk_cons (pe_fld (pv 0) rfl) pk_nil))))) pss_nil) (pss_one (ps_ret (pe_makeK0 T.fmk GI hr2 (by rfl) T.facts KB pass0 (pk_cons (pe_fld (pv 0) rfl) (pk_cons (pe_lst (StX.pa_star (pe_fld (pv 0) rfl) (pa_cons (pe_tup (pa_cons (pv 1) (pa_cons (pv 2) pa_nil))) pa_nil))) pk_nil)))))), ?_⟩
    have e1 := h3.1
    have e2 := h5.1
    cases b with
    | true =>
      refine ⟨_, rfl, _, rfl, ?_⟩
      refine iteT ⟨_, rfl, x, _, dx, _, .ref a, rfl, h1, T.fcls, T.ffw, rfl, a, xs, rfl, .inl h2, _, rfl, _, rfl, (by show 2 ≤ sizeLine; decide), fun t ht => ⟨(by rw [List.length_append]; exact Nat.le_trans (by show xs.length + 1 ≤ 100000; omega) (by decide)), fun l hl => ?_⟩⟩
      have s1 : Same H (upd H t (.tup [.ref y, .ref z])) := same_new ht
      have s2 : Same (upd H t (.tup [.ref y, .ref z])) (upd (upd H t (.tup [.ref y, .ref z])) l (.lst (xs ++ [.ref t]))) := same_new hl
      refine ⟨_, rfl, x, _, dx, _, .ref c, rfl, s2 _ _ (s1 _ _ h1), T.fcls, T.ffn, rfl, rfl, rfl, fun u du hu hdu ne => ?_⟩
      have ht2 : upd (upd H t (.tup [.ref y, .ref z])) l (.lst (xs ++ [.ref t])) t = some (.tup [.ref y, .ref z]) := s2 _ _ upd_same
      have hl2 : upd (upd H t (.tup [.ref y, .ref z])) l (.lst (xs ++ [.ref t])) l = some (.lst (xs ++ [.ref t])) := upd_same
      have s12 := s1.trans s2
      generalize upd (upd H t (.tup [.ref y, .ref z])) l (.lst (xs ++ [.ref t])) = H2 at hu hdu ht2 hl2 s12
      have s3 : Same H2 (upd (upd H2 du (.own u)) u (.ins (fC K) du [])) := same_two hdu (by rw [upd_ne (Ne.symm ne)]; exact hu)
      have s13 := s12.trans s3
      refine ⟨u, l, c, du, xs ++ [.ref t], us, ps ++ [p], qs, rfl, upd_same, .inl (SqL.of (s3 _ _ hl2)), (h3.same s13).add ⟨t, y, z, rfl, SqT.of (s3 _ _ ht2), hy.same s13, hz.same s13, d1, d2⟩, .inr (SqT.same s13 h4), h5.same s13, by simp; omega, by omega, fun H4 k4 f4 => ⟨rfl, ?_⟩⟩
      exact k H4 u (fun b o q => k4 b o (s13 _ _ q) (ne_of_none (s12 _ _ q) hu)) f4
    | false =>
      refine ⟨_, rfl, _, rfl, ?_⟩
      refine iteF ⟨_, rfl, x, _, dx, _, .ref a, rfl, h1, T.fcls, T.ffw, rfl, _, rfl, x, _, dx, _, .ref c, rfl, h1, T.fcls, T.ffn, rfl, c, us, rfl, .inl h4, _, rfl, _, rfl, (by show 2 ≤ sizeLine; decide), fun t ht => ⟨(by rw [List.length_append]; exact Nat.le_trans (by show us.length + 1 ≤ 100000; omega) (by decide)), fun l hl => ?_⟩⟩
      have s1 : Same H (upd H t (.tup [.ref y, .ref z])) := same_new ht
      have s2 : Same (upd H t (.tup [.ref y, .ref z])) (upd (upd H t (.tup [.ref y, .ref z])) l (.lst (us ++ [.ref t]))) := same_new hl
      refine ⟨rfl, rfl, fun u du hu hdu ne => ?_⟩
      have ht2 : upd (upd H t (.tup [.ref y, .ref z])) l (.lst (us ++ [.ref t])) t = some (.tup [.ref y, .ref z]) := s2 _ _ upd_same
      have hl2 : upd (upd H t (.tup [.ref y, .ref z])) l (.lst (us ++ [.ref t])) l = some (.lst (us ++ [.ref t])) := upd_same
      have s12 := s1.trans s2
      generalize upd (upd H t (.tup [.ref y, .ref z])) l (.lst (us ++ [.ref t])) = H2 at hu hdu ht2 hl2 s12
      have s3 : Same H2 (upd (upd H2 du (.own u)) u (.ins (fC K) du [])) := same_two hdu (by rw [upd_ne (Ne.symm ne)]; exact hu)
      have s13 := s12.trans s3
      refine ⟨u, a, l, du, xs, us ++ [.ref t], ps, qs ++ [p], rfl, upd_same, .inr (SqT.same s13 h2), h3.same s13, .inl (SqL.of (s3 _ _ hl2)), (h5.same s13).add ⟨t, y, z, rfl, SqT.of (s3 _ _ ht2), hy.same s13, hz.same s13, d1, d2⟩, by omega, by simp; omega, fun H4 k4 f4 => ⟨rfl, ?_⟩⟩
      exact k H4 u (fun b o q => k4 b o (s13 _ _ q) (ne_of_none (s12 _ _ q) hu)) f4
/-! ### model -/
theorem kS_inj {k q : List Nat} : kS k = kS q ↔ k = q := by
  constructor
  · intro h
    have := congrArg (fun s : Str => s.cps.toList) h
    simpa [kS] using this
  · rintro rfl; rfl
theorem in_kv {k : List Nat} : ∀ ks : List (List Nat), inV (.str (kS k)) (kvL ks) = decide (k ∈ ks)
  | [] => rfl
  | q :: ks => by
    show ((kS q == kS k) || inV (.str (kS k)) (kvL ks)) = _
    rw [in_kv ks, Bool.eq_iff_iff]
    simp only [Bool.or_eq_true, beq_iff_eq, decide_eq_true_eq, List.mem_cons, kS_inj]
    exact ⟨fun h => h.elim (fun e => .inl e.symm) .inr, fun h => h.elim (fun e => .inl e.symm) .inr⟩
theorem kv_flat : ∀ ks : List (List Nat), (kvL ks).all flatV = true
  | [] => rfl
  | q :: ks => by
    show (flatV (.str (kS q)) && (kvL ks).all flatV) = true
    rw [kv_flat ks]
    rfl
def modK (ps : List Pr) : List Nat → V := fun k => .int (if okK ps k = true then 1 else 0)
theorem op_mem {ps : List Pr} {k : List Nat} (h : k ∈ kinds) : decide (k ∈ opK ps) = okK ps k := by
  rw [Bool.eq_iff_iff, decide_eq_true_eq]
  unfold opK
  rw [List.mem_filter]
  exact ⟨fun z => z.2, fun z => ⟨h, z⟩⟩
def spMo (K : PySem.W.Frag) : Sp := fun vs H Q E => ∃ (x y z : Addr) (b : Bool) (ps qs : List Pr) (p : Pr), vs = [.ref x, .ref y, .ref z, .bl b] ∧ IsFa K H x ps qs ∧ IsTr K H y p.1 ∧ IsTr K H z p.2 ∧ dep p.1 ≤ 20 ∧ dep p.2 ≤ 20 ∧ ps.length ≤ 50 ∧ qs.length ≤ 50 ∧
  (clB ps qs = true → ∀ H', Same H H' → E (.ref (cC K)) none H') ∧
  (clB ps qs = false → clB (supP ps p b) (supP qs p (!b)) = true → ∀ H', Same H H' → Q .non H') ∧
  (clB ps qs = false → clB (supP ps p b) (supP qs p (!b)) = false → ∀ H' d, Same H H' → H d = none → H' d = some (.dK (dictK (modK (supP ps p b)))) → Q (.ref d) H')
abbrev nMo : List Str := ["self", "one", "other", "inside", "more", "allowed", "kind"]
theorem sc_mo : FnScope nMo ["self", "one", "other", "inside"] (defScope (sF 6)) := ⟨rfl, rfl, rfl, by decide +kernel, rfl, by decide +kernel, by decide +kernel⟩

theorem g_mo (T : Txt K mg) (A : Al K) : Meth K (fC K) "model" (He.ma K (fC K) "model") ∧ ∃ fd, MtP K "model" 6 (He.ma K (fC K) "model") fd ∧ FnOk P w K mg base (L2.CX P w) 31 (He.ma K (fC K) "model") fd ["self", "one", "other", "inside"] (spMo K) ∧ Binds K fd ["self", "one", "other", "inside"] [] := by
  obtain ⟨MC, fdC, GC, BC⟩ := g_cl (P := P) (w := w) (base := base) T A
  obtain ⟨MK, fdK, GK, BK⟩ := g_ck (P := P) (w := w) (base := base) T A
  obtain ⟨MS, fdS, GS, BS⟩ := g_sup (P := P) (w := w) (base := base) T A
  obtain ⟨MN, fdN, GN, BN⟩ := g_knd (P := P) (w := w) (base := base) T A
  obtain ⟨M, fd, F⟩ := A.met "model" 6
  refine ⟨M, fd, F, ?_, F.bindsN fun _ _ _ _ _ _ us hl => match us, hl with | [_, _, _, _], _ => rfl⟩
  refine F.ok sc_mo (fun vs H Q E h => ?_) (fun cdv A outer s H vs Q E hr h => ?_)
  · obtain ⟨x, y, z, b, ps, qs, p, rfl, _⟩ := h
    rfl
  · obtain ⟨x, y, z, b, ps, qs, p, rfl, hx, hy, hz, d1, d2, l1, l2, kE, k0, k1⟩ := h
    obtain ⟨dx, a, c, xs, us, h1, _⟩ := id hx
    have nd := sc_mo.nd
    have hrs : Room 3 _ := hr.mono (by decide)
    have hrc : Room 29 _ := hr.mono (by decide)
    have hrn : Room 28 _ := hr.mono (by decide)
    refine ⟨_, (pss_cons (ps_expr (pe_meth0 (pv 0) T.fcls MK GK hr BK .nil (passes_call (takes_of rfl rfl rfl rfl) (fun _ _ _ _ h => h)))) (pss_cons (ps_set (i := 4) nd rfl (.inl rfl) (pe_meth (pv 0) T.fcls MS GS hrs BS .nil pass0 (pa_cons (pv 1) (pa_cons (pv 2) (pa_cons (pv 3) pa_nil))))) (pss_cons (ps_if (pt_val (pe_meth0 (pv 4) T.fcls MC GC hrc BC .nil pass0)) (pss_one (ps_ret pe_non)) pss_nil) (pss_cons (ps_set (i := 5) nd rfl (.inr rfl) (pe_meth0 (pv 4) T.fcls MN GN hrn BN .nil pass0)) (pss_one (ps_ret (pe_dc (own := [("kind", 6)]) (g := gName 6) (tt := tYes) rfl nd (pi_tup (pe_glob (v := .ref (He.ga K "KINDS")) (by rfl) T.kinds rfl)) (blkOk_by (own := [("kind", 6)]) (N := nMo) (sc := defScope (sF 6)) (by decide +kernel)) (fun _ _ _ _ _ => pg_name (i := 6) nd rfl (Or.inl rfl)) (fun _ _ _ _ _ => pts_nil) (fun _ _ _ _ _ => pv 6) (fun _ _ _ _ _ => pe_callTy call_int1 (by rfl) (T.fr "int") boot_int (pa_cons (pe_cmpR (op_inK K) (pv 6) (pv 5) (by rfl)) pa_nil))))))))), ?_⟩
    refine ⟨_, rfl, x, dx, _, rfl, h1, rfl, x, ps, qs, rfl, hx, kE, fun hc H1 s1 => ?_⟩
    have k0 := k0 hc
    have k1 := k1 hc
    refine ⟨_, rfl, x, dx, _, rfl, s1 _ _ h1, rfl, _, rfl, _, rfl, _, rfl, x, y, z, b, ps, qs, p, rfl, hx.same s1, hy.same s1, hz.same s1, d1, d2, l1, l2, fun H2 u s2 hu => ?_⟩
    have s12 := s1.trans s2
    obtain ⟨du, a', c', xs', us', h1', _⟩ := id hu
    refine ⟨_, rfl, u, du, _, rfl, h1', rfl, u, _, _, rfl, hu, fun H3 s3 => ⟨_, rfl, ?_⟩⟩
    cases hc2 : clB (supP ps p b) (supP qs p (!b)) with
    | true => exact iteT (k0 hc2 H3 (s12.trans s3))
    | false =>
      refine iteF ⟨_, rfl, u, du, _, rfl, s3 _ _ h1', rfl, u, _, _, rfl, hu.same s3, fun H4 l s4 hl hll => ?_⟩
      have s14 := (s12.trans s3).trans s4
      refine ⟨_, rfl, ⟨_, T.ktup _⟩, fun D hD => dc_tup (K := K) (xs := kindV) (fun i H' => Same H4 H' ∧ H' D = some (.dK ((dictK (modK (supP ps p b))).take i))) ⟨same_new hD, upd_same⟩ (fun i H' _ _ => T.ktup H') ?_ ?_⟩
      · rintro i v Ha hv ⟨sm, hDl⟩
        obtain ⟨k, hk, rfl⟩ := kind_at hv
        refine ⟨rfl, yes_if ?_⟩
        refine ⟨_, rfl, _, rfl, _, rfl, l, _, rfl, .inl (SqL.of (sm _ _ hll)), rfl, kv_flat _, .inr ⟨_, rfl, ?_⟩⟩
        refine ⟨_, Sum.inr (kS k), rfl, hDl, lt_line (Nat.le_trans (List.length_take_le' _ _) (by show 9 ≤ 100000; decide)), Same.grow sm hD, ?_⟩
        simp only [Bool.false_eq_true, if_false, in_kv, op_mem (List.mem_of_getElem? hk)]
        rw [upd_same]
        exact congrArg (fun z => some (HO.dK z)) (dictK_put (modK (supP ps p b)) hk)
      · rintro Ha ⟨sm, hDl⟩
        exact k1 hc2 _ _ (s14.trans sm) (s14.free hD) hDl
end
end KF

set_option Elab.async false
set_option linter.all false
set_option maxRecDepth 100000
set_option maxHeartbeats 4000000
/-! # == and != of lists of flat things -/
namespace VX
open PySem PySem.Spec PyProof.Rows L2
def eqLV : List V → List V → Bool
  | [], [] => true
  | x :: xs, y :: ys => eqV x y && eqLV xs ys
  | _, _ => false
def eF (xs ys : List V) (j : Nat) : Bool := match xs[j]?, ys[j]? with
  | some x, some y => eqV x y
  | _, _ => true
theorem eF_all : ∀ {xs ys : List V}, xs.length = ys.length → (List.range xs.length).all (eF xs ys) = eqLV xs ys
  | [], [], _ => rfl
  | x :: xs, y :: ys, h => by
    rw [List.length_cons, List.range_succ_eq_map, List.all_cons, List.all_map]
    have ih := eF_all (xs := xs) (ys := ys) (by simpa using h)
    show (eqV x y && (List.range xs.length).all (eF (x :: xs) (y :: ys) ∘ Nat.succ)) = (eqV x y && eqLV xs ys)
    rw [← ih]
    rfl
theorem eqLV_len : ∀ {xs ys : List V}, xs.length ≠ ys.length → eqLV xs ys = false
  | [], [], h => absurd rfl h
  | [], _ :: _, _ => rfl
  | _ :: _, [], _ => rfl
  | x :: xs, y :: ys, h => by
    show (eqV x y && eqLV xs ys) = false
    rw [eqLV_len (by simpa using h), Bool.and_false]
theorem eqLV_nil : ∀ xs : List V, eqLV xs [] = xs.isEmpty
  | [] => rfl
  | _ :: _ => rfl
theorem flat_at {A : Around} {s : Shared} : ∀ {xs ys : List V} {us ws : List Value}, Vals xs us → Vals ys ws → xs.all flatV = true → ys.all flatV = true → ∀ j (h1 : j < us.length) (h2 : j < ws.length), SeqAt.EqAt A s us[j] ws[j] (eF xs ys j)
  | [], _, _, _, .nil, _, _, _, j, h1, _ => absurd h1 (Nat.not_lt_zero j)
  | _ :: _, [], _, _, _, .nil, _, _, j, _, h2 => absurd h2 (Nat.not_lt_zero j)
  | x :: xs, y :: ys, _, _, .cons a b, .cons a' b', f, f', 0, _, _ => by
    rw [List.all_cons, Bool.and_eq_true] at f f'
    exact eqAt_V a a' f.1 f'.1
  | x :: xs, y :: ys, _, _, .cons a b, .cons a' b', f, f', j + 1, h1, h2 => by
    rw [List.all_cons, Bool.and_eq_true] at f f'
    exact flat_at b b' f.2 f'.2 j (Nat.lt_of_succ_lt_succ h1) (Nat.lt_of_succ_lt_succ h2)
def rEqF (K : PySem.W.Frag) (b : Bool) : R2 := fun x y H Q => ∃ p q xs ys, x = .ref p ∧ y = .ref q ∧ SqL K H p xs ∧ SqL K H q ys ∧ xs.all flatV = true ∧ ys.all flatV = true ∧ Q (.bl (if b = true then eqLV xs ys else !eqLV xs ys)) H
theorem op_eqF {X : Cx} (K : PySem.W.Frag) (hu : X.A.units < cLine) (hK : X.K = K := by rfl) : OpR X (compareOp .Eq) (rEqF K true) := by
  subst hK
  intro pins s σ H x y v u Q I rx ry h
  obtain ⟨p, q, xs, ys, rfl, rfl, hp, hq, fx, fy, hQ⟩ := h
  cases (show v = Value.ref p from rx)
  cases (show u = Value.ref q from ry)
  obtain ⟨us, r1, p1, _⟩ := I.list hp
  obtain ⟨ws, r2, p2, _⟩ := I.list hq
  by_cases hl : xs.length = ys.length
  · have hsz : us.toArray.size = ws.toArray.size := by
      rw [List.size_toArray, List.size_toArray, ← r1.length, ← r2.length, hl]
    refine SeqAt.RcAt.lists (e := eF xs ys) p1.isList p2.isList hsz hu (fun j h1 h2 => ?_) _ _ _ _ ?_
    · have k := flat_at (A := X.A.in1) (s := s) r1 r2 fx fy j (by simpa using h1) (by simpa using h2)
      simpa using k
    · rw [show us.toArray.size = xs.length by rw [List.size_toArray, ← r1.length], eF_all hl]
      exact ⟨.bl _, H, I, rfl, hQ⟩
  · refine SeqAt.RcAt.lists_lengths p1.isList p2.isList (by rw [List.size_toArray, List.size_toArray, ← r1.length, ← r2.length]; simpa using hl) hu _ _ _ _ ?_
    rw [if_pos rfl, eqLV_len hl] at hQ
    exact ⟨.bl false, H, I, rfl, hQ⟩
theorem op_neF {X : Cx} (K : PySem.W.Frag) (hu : X.A.units < cLine) (hK : X.K = K := by rfl) : OpR X (compareOp .NotEq) (rEqF K false) := by
  subst hK
  intro pins s σ H x y v u Q I rx ry h
  obtain ⟨p, q, xs, ys, rfl, rfl, hp, hq, fx, fy, hQ⟩ := h
  cases (show v = Value.ref p from rx)
  cases (show u = Value.ref q from ry)
  obtain ⟨us, r1, p1, _⟩ := I.list hp
  obtain ⟨ws, r2, p2, _⟩ := I.list hq
  rw [if_neg Bool.false_ne_true] at hQ
  by_cases hl : xs.length = ys.length
  · have hsz : us.toArray.size = ws.toArray.size := by
      rw [List.size_toArray, List.size_toArray, ← r1.length, ← r2.length, hl]
    refine SeqAt.RcNeAt.lists (e := eF xs ys) p1.isList p2.isList hsz hu (fun j h1 h2 => ?_) _ _ _ _ ?_
    · have k := flat_at (A := X.A.in1) (s := s) r1 r2 fx fy j (by simpa using h1) (by simpa using h2)
      simpa using k
    · rw [show us.toArray.size = xs.length by rw [List.size_toArray, ← r1.length], eF_all hl]
      exact ⟨.bl _, H, I, rfl, hQ⟩
  · refine SeqAt.RcNeAt.lists_lengths p1.isList p2.isList (by rw [List.size_toArray, List.size_toArray, ← r1.length, ← r2.length]; simpa using hl) hu _ _ _ _ ?_
    rw [eqLV_len hl] at hQ
    exact ⟨.bl true, H, I, rfl, hQ⟩
theorem eqLV_strs : ∀ {a b : List Str}, eqLV (a.map V.str) (b.map V.str) = decide (a = b)
  | [], [] => rfl
  | [], _ :: _ => rfl
  | _ :: _, [] => rfl
  | x :: a, y :: b => by
    show ((x == y) && eqLV (a.map V.str) (b.map V.str)) = _
    rw [eqLV_strs, Bool.eq_iff_iff]
    simp
end VX
namespace VX
open PySem PySem.Spec PyProof.Rows L2
/-- a list == [] -/
def rEqN (K : PySem.W.Frag) (b : Bool) : R2 := fun x y H Q => ∃ p q xs, x = .ref p ∧ y = .ref q ∧ SqL K H p xs ∧ SqL K H q [] ∧ Q (.bl (if b = true then xs.isEmpty else !xs.isEmpty)) H
theorem op_eqN {X : Cx} (K : PySem.W.Frag) (hu : X.A.units < cLine) (hK : X.K = K := by rfl) : OpR X (compareOp .Eq) (rEqN K true) := by
  subst hK
  intro pins s σ H x y v u Q I rx ry h
  obtain ⟨p, q, xs, rfl, rfl, hp, hq, hQ⟩ := h
  cases (show v = Value.ref p from rx)
  cases (show u = Value.ref q from ry)
  obtain ⟨us, r1, p1, _⟩ := I.list hp
  obtain ⟨ws, r2, p2, _⟩ := I.list hq
  cases r2
  cases xs with
  | nil =>
    cases r1
    refine SeqAt.RcAt.lists (e := fun _ => true) p1.isList p2.isList rfl hu (fun j h1 h2 => absurd h1 (Nat.not_lt_zero j)) _ _ _ _ ?_
    exact ⟨.bl true, H, I, rfl, hQ⟩
  | cons x xs =>
    cases r1
    refine SeqAt.RcAt.lists_lengths p1.isList p2.isList (by simp) hu _ _ _ _ ?_
    exact ⟨.bl false, H, I, rfl, hQ⟩
theorem op_neN {X : Cx} (K : PySem.W.Frag) (hu : X.A.units < cLine) (hK : X.K = K := by rfl) : OpR X (compareOp .NotEq) (rEqN K false) := by
  subst hK
  intro pins s σ H x y v u Q I rx ry h
  obtain ⟨p, q, xs, rfl, rfl, hp, hq, hQ⟩ := h
  cases (show v = Value.ref p from rx)
  cases (show u = Value.ref q from ry)
  obtain ⟨us, r1, p1, _⟩ := I.list hp
  obtain ⟨ws, r2, p2, _⟩ := I.list hq
  cases r2
  cases xs with
  | nil =>
    cases r1
    refine SeqAt.RcNeAt.lists (e := fun _ => true) p1.isList p2.isList rfl hu (fun j h1 h2 => absurd h1 (Nat.not_lt_zero j)) _ _ _ _ ?_
    exact ⟨.bl false, H, I, rfl, hQ⟩
  | cons x xs =>
    cases r1
    refine SeqAt.RcNeAt.lists_lengths p1.isList p2.isList (by simp) hu _ _ _ _ ?_
    exact ⟨.bl true, H, I, rfl, hQ⟩
end VX

set_option Elab.async false
set_option linter.all false
set_option maxRecDepth 100000
set_option maxHeartbeats 4000000
/-! # law: pairs drawn, words -/
namespace KF
open PySem PySem.Spec PyProof.Rows L2 VX KW
section
variable {P : Program} {w : World} {K : PySem.W.Frag} {mg : Str → Option Value} {base : Heap} {f : Addr} {fd : FuncData}
/-! ### pairs of trees -/
theorem IsTT.keep {H H' : Hp} {b : Addr} {o : HO} (hb : H b = some o) (l : Lse o) (k : Kept b H H') : ∀ {t : Tr} {v : V}, IsTT H v t → IsTT H' v t
  | .lf c, _, h => by
    obtain ⟨j, a, e, h1⟩ := h
    exact ⟨j, a, e, k _ _ h1 (by rintro rfl; rw [hb] at h1; cases l <;> cases h1)⟩
  | .nd c l2 r, _, h => by
    obtain ⟨j, a, u, z, e, h1, h2, h3⟩ := h
    exact ⟨j, a, u, z, e, k _ _ h1 (by rintro rfl; rw [hb] at h1; cases l <;> cases h1), h2.keep hb l k, h3.keep hb l k⟩
def IsTP (H : Hp) (v : V) (p : Pr) : Prop := ∃ a u z, v = .ref a ∧ H a = some (.tup [u, z]) ∧ IsTT H u p.1 ∧ IsTT H z p.2 ∧ dep p.1 ≤ 10 ∧ dep p.2 ≤ 10
def IsTPs (H : Hp) (vs : List V) (ps : List Pr) : Prop := vs.length = ps.length ∧ ∀ (i : Nat) v p, vs[i]? = some v → ps[i]? = some p → IsTP H v p
theorem IsTP.same {H H' : Hp} (s : Same H H') {v : V} {p : Pr} (h : IsTP H v p) : IsTP H' v p := by
  obtain ⟨a, u, z, e, h1, h2, h3, h4⟩ := h
  exact ⟨a, u, z, e, s _ _ h1, h2.same s, h3.same s, h4⟩
theorem IsTPs.same {H H' : Hp} (s : Same H H') {vs : List V} {ps : List Pr} (h : IsTPs H vs ps) : IsTPs H' vs ps := ⟨h.1, fun i v p h1 h2 => (h.2 i v p h1 h2).same s⟩
theorem IsTP.keep {H H' : Hp} {b : Addr} {o : HO} (hb : H b = some o) (l : Lse o) (k : Kept b H H') {v : V} {p : Pr} (h : IsTP H v p) : IsTP H' v p := by
  obtain ⟨a, u, z, e, h1, h2, h3, h4⟩ := h
  exact ⟨a, u, z, e, k _ _ h1 (by rintro rfl; rw [hb] at h1; cases l <;> cases h1), h2.keep hb l k, h3.keep hb l k, h4⟩
theorem IsTPs.keep {H H' : Hp} {b : Addr} {o : HO} (hb : H b = some o) (l : Lse o) (k : Kept b H H') {vs : List V} {ps : List Pr} (h : IsTPs H vs ps) : IsTPs H' vs ps := ⟨h.1, fun i v p h1 h2 => (h.2 i v p h1 h2).keep hb l k⟩
theorem box_lse {H : Hp} {b : Addr} {N : Nat} (h : BoxK H b N) : ∃ o, H b = some o ∧ Lse o := by
  obtain ⟨xs, hx⟩ := h.at
  exact ⟨_, hx, .lst xs⟩
theorem IsTPs.nil {H : Hp} : IsTPs H [] [] := ⟨rfl, fun i v p h => by simp at h⟩
theorem IsTPs.add {H : Hp} {vs : List V} {ps : List Pr} {v : V} {p : Pr} (h : IsTPs H vs ps) (q : IsTP H v p) : IsTPs H (vs ++ [v]) (ps ++ [p]) := by
  refine ⟨by simp [h.1], fun i u r h1 h2 => ?_⟩
  rw [List.getElem?_append] at h1 h2
  rw [← h.1] at h2
  by_cases c : i < vs.length
  · rw [if_pos c] at h1 h2
    exact h.2 i u r h1 h2
  · rw [if_neg c] at h1 h2
    by_cases z : i - vs.length = 0
    · rw [z] at h1 h2
      cases h1
      cases h2
      exact q
    · obtain ⟨m, e⟩ : ∃ m, i - vs.length = m + 1 := ⟨i - vs.length - 1, by omega⟩
      rw [e] at h1
      cases h1
theorem IsTPs.app {H : Hp} {vs us : List V} {ps qs : List Pr} (h : IsTPs H vs ps) (q : IsTPs H us qs) : IsTPs H (vs ++ us) (ps ++ qs) := by
  refine ⟨by simp [h.1, q.1], fun i u r h1 h2 => ?_⟩
  rw [List.getElem?_append] at h1 h2
  rw [← h.1] at h2
  by_cases c : i < vs.length
  · rw [if_pos c] at h1 h2
    exact h.2 i u r h1 h2
  · rw [if_neg c] at h1 h2
    exact q.2 _ u r h1 h2
theorem IsTPs.at {H : Hp} {vs : List V} {ps : List Pr} (h : IsTPs H vs ps) {i : Nat} {v : V} (hv : vs[i]? = some v) : ∃ p, ps[i]? = some p ∧ IsTP H v p := by
  obtain ⟨hi, _⟩ := List.getElem?_eq_some_iff.mp hv
  have hp : ps[i]? = some (ps[i]'(by rw [← h.1]; exact hi)) := List.getElem?_eq_getElem _
  exact ⟨_, hp, h.2 i v _ hv hp⟩
/-! ### the law's defs, as callers have them -/
theorem g_take (T : Txt K mg) (A : Al K) : ∃ fd, FnP K "_law_take" iTake (He.ga K "_law_take") fd ∧ FnOk P w K mg base CX0 1 (He.ga K "_law_take") fd ["_law_box_here", "_law_many"] spTake ∧ Binds K fd ["_law_box_here", "_law_many"] [] := by
  obtain ⟨fd, F⟩ := A.def "_law_take" iTake
  exact ⟨fd, F, ok_take F T, F.bindsN fun _ _ _ _ _ _ us hl => match us, hl with | [_, _], _ => rfl⟩
theorem g_tree (T : Txt K mg) (A : Al K) : ∃ fd, FnP K "_law_tree" iTree (He.ga K "_law_tree") fd ∧ FnOk P w K mg base CX0 10 (He.ga K "_law_tree") fd ["_law_box_here", "_law_size"] (spTree 8) ∧ Binds K fd ["_law_box_here", "_law_size"] [] := by
  obtain ⟨fd, F⟩ := A.def "_law_tree" iTree
  obtain ⟨fdT, FT⟩ := A.def "_law_take" iTake
  exact ⟨fd, F, ok_tree F T FT 8, F.bindsN fun _ _ _ _ _ _ us hl => match us, hl with | [_, _], _ => rfl⟩
theorem g_lword (T : Txt K mg) (A : Al K) : ∃ fd, FnP K "_law_word" iLWord (He.ga K "_law_word") fd ∧ FnOk P w K mg base CX0 24 (He.ga K "_law_word") fd ["_law_tree_here"] (spLWord K 20) ∧ Binds K fd ["_law_tree_here"] [] := by
  obtain ⟨fd, F⟩ := A.def "_law_word" iLWord
  obtain ⟨fdf, Ff⟩ := A.def "fits" iFits
  obtain ⟨fdI, a, FI, ha⟩ := A.wi
  exact ⟨fd, F, ok_lword F T ⟨FI, Ff, a, rfl, ha⟩ 20, F.bindsN fun _ _ _ _ _ _ us hl => match us, hl with | [_], _ => rfl⟩
theorem g_lwithin (T : Txt K mg) (A : Al K) : ∃ fd, FnP K "_law_within" iLWithin (He.ga K "_law_within") fd ∧ FnOk P w K mg base CX0 23 (He.ga K "_law_within") fd ["_law_here", "_law_there", "_law_kind"] spLWithin ∧ Binds K fd ["_law_here", "_law_there", "_law_kind"] [] := by
  obtain ⟨fd, F⟩ := A.def "_law_within" iLWithin
  obtain ⟨fdM, FM⟩ := A.def "_law_mark" iLMark
  exact ⟨fd, F, ok_lwithin F T FM, F.bindsN fun _ _ _ _ _ _ us hl => match us, hl with | [_, _, _], _ => rfl⟩
/-! ### _law_drawn -/
def spDr : Sp := fun vs H Q _ => ∃ (b : Addr) (N : Nat), vs = [.ref b, .int 3] ∧ BoxK H b N ∧ N ≤ 500000 ∧ ∀ H' l xs ps, Kept b H H' → BoxK H' b (N + 100) → H' l = some (.lst xs) → IsTPs H' xs ps → ps.length ≤ 3 → l ≠ b → Q (.ref l) H'
abbrev nDr : List Str := ["_law_box_here", "_law_most", "_law_found", "_law_k"]
theorem sc_dr : FnScope nDr ["_law_box_here", "_law_most"] (defScope (top iDrawn)) := ⟨rfl, rfl, rfl, by decide +kernel, rfl, by decide +kernel, by decide +kernel⟩

theorem g_dr (T : Txt K mg) (A : Al K) : ∃ fd, FnP K "_law_drawn" iDrawn (He.ga K "_law_drawn") fd ∧ FnOk P w K mg base CX0 11 (He.ga K "_law_drawn") fd ["_law_box_here", "_law_most"] spDr ∧ Binds K fd ["_law_box_here", "_law_most"] [] := by
  obtain ⟨fdT, FT, GT, BT⟩ := g_take (P := P) (w := w) (base := base) T A
  obtain ⟨fdR, FR, GR, BR⟩ := g_tree (P := P) (w := w) (base := base) T A
  obtain ⟨fd, F⟩ := A.def "_law_drawn" iDrawn
  refine ⟨fd, F, ?_, F.bindsN fun _ _ _ _ _ _ us hl => match us, hl with | [_, _], _ => rfl⟩
  refine F.ok sc_dr (fun vs H Q E h => ?_) (fun cdv A outer s H vs Q E hr h => ?_)
  · obtain ⟨b, N, rfl, _⟩ := h
    rfl
  · obtain ⟨b, N, rfl, hb, hN, q⟩ := h
    have nd := sc_dr.nd
    have hr1 : Room 1 _ := hr.mono (by decide)
    have hrt : Room 10 _ := hr
    refine ⟨_, PSs.nox (pss_cons (ps_set (i := 2) nd rfl (.inl rfl) (pe_lst pa_nil)) (pss_cons (ps_for PassesOwn.never rfl (pi_range1 (by rfl) (T.fr "range") (pa_cons (pe_call GT hr1 (by rfl) (T.df "_law_take" iTake) FT.kp BT .nil pass0 (pa_cons (pv 0) (pa_cons (pe_op op_add (pv 1) pe_int) pa_nil))) pa_nil)) (pg_name (i := 3) nd rfl (.inl rfl)) (pss_one (ps_expr (pe_bm PySem.F.plainAttrs_list PySem.F.slot_list_append PySem.F.type_list_append mt_append (pv 2) (pa_cons (pe_tup (pa_cons (pe_call GR hrt (by rfl) (T.df "_law_tree" iTree) FR.kp BR .nil pass0 (pa_cons (pv 0) (pa_cons (pe_op op_add pe_int (pe_call GT hr1 (by rfl) (T.df "_law_take" iTake) FT.kp BT .nil pass0 (pa_cons (pv 0) (pa_cons pe_int pa_nil)))) pa_nil))) (pa_cons (pe_call GR hrt (by rfl) (T.df "_law_tree" iTree) FR.kp BR .nil pass0 (pa_cons (pv 0) (pa_cons (pe_op op_add pe_int (pe_call GT hr1 (by rfl) (T.df "_law_take" iTake) FT.kp BT .nil pass0 (pa_cons (pv 0) (pa_cons pe_int pa_nil)))) pa_nil))) pa_nil))) pa_nil))))) (pss_one (ps_ret (pv 2))))), ?_⟩
    refine ⟨(by show 0 ≤ sizeLine; decide), fun l hl => ?_⟩
    have s0 := same_new (o := .lst []) hl
    have lb : l ≠ b := fun e => by obtain ⟨xs, hx⟩ := hb.at; rw [e, hx] at hl; cases hl
    refine ⟨_, rfl, _, rfl, _, _, rfl, rfl, ?_⟩
    dsimp -proj only [tCons, tC, tNil, List.append_nil]
    refine take_use (m := 3 + 1) (hb.same s0) (by omega) (by decide) (by decide) fun d H1 d0 d1 k1 b1 _ => ?_
    refine ⟨d, rfl, by omega, by omega, for_it (walk_range (lo := 0) (n := d.toNat)) (fun i σ H' => (∃ y, σ = [some (V.ref b), some (V.int 3), some (V.ref l), y]) ∧ Kept b H H' ∧ BoxK H' b (N + 1 + 24 * i) ∧ ∃ xs ps, H' l = some (.lst xs) ∧ IsTPs H' xs ps ∧ xs.length = i)
      ⟨⟨none, rfl⟩, (Kept.of s0).trans k1, b1.mono (by omega), [], [], k1 _ _ upd_same lb, .nil, rfl⟩ (fun _ _ _ _ _ => trivial) ?_ ?_⟩
    · rintro i v σ Ha Hb hi ⟨⟨y, rfl⟩, k2, b2, xs, ps, hls, hps, hlen⟩ ⟨rfl, rfl⟩
      refine ⟨_, rfl, .inl ⟨rfl, _, SqL.of hls⟩, _, rfl, _, rfl, ?_⟩
      dsimp -proj only [tCons, tC, tNil, List.append_nil]
      refine take_use (m := 4) b2 (by omega) (by decide) (by decide) fun e H3 e0 e1 k3 b3 _ => ?_
      obtain ⟨e, rfl⟩ : ∃ n : Nat, e = (n : Int) := ⟨e.toNat, by omega⟩
      refine ⟨_, _, rfl, rfl, b, _, e + 1, ?_, b3, by omega, by omega, by omega, by omega, fun H4 a1 t1 k4 b4 ht1 hd1 => ?_⟩
      · show [V.ref b, V.int (1 + (e : Int))] = _
        rw [show (1 + (e : Int)) = ((e + 1 : Nat) : Int) by omega]
      refine ⟨_, rfl, _, rfl, ?_⟩
      dsimp -proj only [tCons, tC, tNil, List.append_nil]
      refine take_use (m := 4) b4 (by omega) (by decide) (by decide) fun g H5 g0 g1 k5 b5 _ => ?_
      obtain ⟨g, rfl⟩ : ∃ n : Nat, g = (n : Int) := ⟨g.toNat, by omega⟩
      refine ⟨_, _, rfl, rfl, b, _, g + 1, ?_, b5, by omega, by omega, by omega, by omega, fun H6 a2 t2 k6 b6 ht2 hd2 => ?_⟩
      · show [V.ref b, V.int (1 + (g : Int))] = _
        rw [show (1 + (g : Int)) = ((g + 1 : Nat) : Int) by omega]
      refine ⟨(by show 2 ≤ sizeLine; decide), fun p hp => ?_⟩
      have s7 := same_new (o := .tup [.ref a1, .ref a2]) hp
      have k26 := k3.trans (k4.trans (k5.trans k6))
      have k27 := k26.trans (Kept.of s7)
      have hl7 := k27 _ _ hls lb
      obtain ⟨o2, ho2, lo2⟩ := box_lse b2
      obtain ⟨o4, ho4, lo4⟩ := box_lse b4
      refine ⟨l, _, _, rfl, rfl, hl7, lt_line (by omega), ⟨⟨_, rfl⟩, fun c u hc ne => ?_, ?_, xs ++ [.ref p], ps ++ [(t1, t2)], upd_same, ?_, by simp [hlen]⟩⟩
      · have h7 := k27 _ _ (k2 _ _ hc ne) ne
        rw [upd_ne (ne_of_none hc hl)]
        exact h7
      · refine BoxK.mono (N := N + 1 + 24 * i + 1 + (3 * (e + 1) - 2) + 1 + (3 * (g + 1) - 2)) ?_ (by omega)
        obtain ⟨x, y2, z, hbb, r⟩ := b6.same s7
        exact ⟨x, y2, z, by rw [upd_ne (Ne.symm lb)]; exact hbb, r⟩
      · have kl : Kept l (upd H6 p (.tup [.ref a1, .ref a2])) (upd (upd H6 p (.tup [.ref a1, .ref a2])) l (.lst (xs ++ [.ref p]))) := fun c u hc ne => by rw [upd_ne ne]; exact hc
        exact ((hps.keep ho2 lo2 k27).keep hl7 (.lst _) kl).add ⟨p, .ref a1, .ref a2, rfl, kl _ _ upd_same (by rintro rfl; rw [upd_same] at hl7; cases hl7), ((ht1.keep ho4 lo4 (k5.trans k6)).same s7).keep hl7 (.lst _) kl, (ht2.same s7).keep hl7 (.lst _) kl, by show dep t1 ≤ 10; omega, by show dep t2 ≤ 10; omega⟩
    · rintro σ Ha ⟨⟨y, rfl⟩, k2, b2, xs, ps, hls, hps, hlen⟩
      exact ⟨_, rfl, q Ha l xs ps k2 (b2.mono (by omega)) hls hps (by rw [← hps.1]; omega) lb⟩
/-! ### _law_words, _law_kinds -/
def spWo (K : PySem.W.Frag) : Sp := fun vs H Q _ => ∃ (l : Addr) (xs : List V) (ps : List Pr), vs = [.ref l] ∧ H l = some (.lst xs) ∧ IsTPs H xs ps ∧ ps.length ≤ 1000 ∧ ∀ H' l' us, Same H H' → H l' = none → H' l' = some (.lst us) → IsPrs K H' us ps → Q (.ref l') H'
abbrev nWo : List Str := ["_law_pairs", "_law_low", "_law_high"]
theorem sc_wo : FnScope nWo ["_law_pairs"] (defScope (top iWords)) := ⟨rfl, rfl, rfl, by decide +kernel, rfl, by decide +kernel, by decide +kernel⟩

theorem g_wo (T : Txt K mg) (A : Al K) : ∃ fd, FnP K "_law_words" iWords (He.ga K "_law_words") fd ∧ FnOk P w K mg base CX0 25 (He.ga K "_law_words") fd ["_law_pairs"] (spWo K) ∧ Binds K fd ["_law_pairs"] [] := by
  obtain ⟨fdW, FW, GW, BW⟩ := g_lword (P := P) (w := w) (base := base) T A
  obtain ⟨fd, F⟩ := A.def "_law_words" iWords
  refine ⟨fd, F, ?_, F.bindsN fun _ _ _ _ _ _ us hl => match us, hl with | [_], _ => rfl⟩
  refine F.ok sc_wo (fun vs H Q E h => ?_) (fun cdv A outer s H vs Q E hr h => ?_)
  · obtain ⟨l, xs, ps, rfl, _⟩ := h
    rfl
  · obtain ⟨l, xs, ps, rfl, hl, hps, hle, q⟩ := h
    have nd := sc_wo.nd
    refine ⟨_, PSs.nox (pss_one (ps_ret (pe_lc (own := [("_law_low", 1), ("_law_high", 2)]) (g := gTup K 2 (gCons (gName 1) (gCons (gName 2) gNil))) (by rfl) nd (pi_list (pv 0)) (blkOk_by (own := [("_law_low", 1), ("_law_high", 2)]) (N := nWo) (sc := defScope (top iWords)) (by decide +kernel)) (fun _ _ _ _ _ => pg_tup (by rfl) (pgs_cons (pg_name (i := 1) nd rfl (Or.inl rfl)) (pgs_cons (pg_name (i := 2) nd rfl (Or.inl rfl)) pgs_nil))) (fun _ _ _ _ _ => pts_nil) (fun _ _ _ _ _ => pe_tup (pa_cons (pe_call GW hr (by rfl) (T.df "_law_word" iLWord) FW.kp BW .nil pass0 (pa_cons (pv 1) pa_nil)) (pa_cons (pe_call GW hr (by rfl) (T.df "_law_word" iLWord) FW.kp BW .nil pass0 (pa_cons (pv 2) pa_nil)) pa_nil)))))), ?_⟩
    refine ⟨_, rfl, l, rfl, ⟨_, SqL.of hl⟩, fun D hD => lc_it (walk_list (K := K) (a := l) (xs := xs)) (fun i H' => Same H H' ∧ ∃ us, H' D = some (.lst us) ∧ us.length = i ∧ IsPrs K H' us (ps.take i)) ⟨same_new hD, [], upd_same, rfl, .nil⟩ (fun i H' _ z => SqL.of (z.1 _ _ hl)) ?_ ?_⟩
    · rintro i v H1 H2 hi ⟨sm, us, hDl, hul, hus⟩ ⟨rfl, hv⟩
      obtain ⟨p, hpi, a, u, z, rfl, ha, hu, hz, d1, d2⟩ := hps.at hv
      refine ⟨a, _, rfl, SqT.of (sm _ _ ha), rfl, _, _, rfl, _, _, rfl, rfl, rfl, yes_if ?_⟩
      refine ⟨_, rfl, u, p.1, rfl, hu.same sm, by omega, fun H3 x s3 tx => ?_⟩
      refine ⟨_, rfl, z, p.2, rfl, (hz.same sm).same s3, by omega, fun H4 y s4 ty => ?_⟩
      refine ⟨(by show 2 ≤ sizeLine; decide), fun t ht => ?_⟩
      have s5 := same_new (o := .tup [.ref x, .ref y]) ht
      have s35 := s3.trans (s4.trans s5)
      have hD5 := s35 _ _ hDl
      refine ⟨us, hD5, lt_line (by have := hps.1; omega), Same.grow (sm.trans s35) hD, us ++ [.ref t], upd_same, by simp [hul], ?_⟩
      have kl : Kept D (upd H4 t (.tup [.ref x, .ref y])) (upd (upd H4 t (.tup [.ref x, .ref y])) D (.lst (us ++ [.ref t]))) := fun c u hc ne => by rw [upd_ne ne]; exact hc
      rw [take_one hpi]
      exact ((hus.same s35).keep hD5 (.lst _) kl).add ⟨t, x, y, rfl, keepT hD5 (.lst _) kl (SqT.of upd_same), (tx.same (s4.trans s5)).keep hD5 (.lst _) kl, (ty.same s5).keep hD5 (.lst _) kl, by omega, by omega⟩
    · rintro H1 ⟨sm, us, hDl, hul, hus⟩
      rw [hps.1, List.take_length] at hus
      exact q _ _ us sm hD hDl hus
theorem kvL_kinds : kvL kinds = kindV := rfl
def spKi : Sp := fun vs H Q _ => vs = [] ∧ ∀ l, H l = none → Q (.ref l) (upd H l (.lst (kvL kinds)))
abbrev nKi : List Str := []
theorem sc_ki : FnScope nKi [] (defScope (top iKinds)) := ⟨rfl, rfl, rfl, by decide +kernel, rfl, by decide +kernel, by decide +kernel⟩

theorem g_ki (T : Txt K mg) (A : Al K) : ∃ fd, FnP K "_law_kinds" iKinds (He.ga K "_law_kinds") fd ∧ FnOk P w K mg base CX0 1 (He.ga K "_law_kinds") fd [] spKi ∧ Binds K fd [] [] := by
  obtain ⟨fd, F⟩ := A.def "_law_kinds" iKinds
  refine ⟨fd, F, ?_, F.bindsN fun _ _ _ _ _ _ us hl => match us, hl with | [], _ => rfl⟩
  refine F.ok sc_ki (fun vs H Q E h => ?_) (fun cdv A outer s H vs Q E hr h => ?_)
  · obtain ⟨rfl, _⟩ := h
    rfl
  · obtain ⟨rfl, q⟩ := h
    refine ⟨_, PSs.nox (pss_one (ps_ret (pe_lst (pa_cons pe_str (pa_cons pe_str (pa_cons pe_str (pa_cons pe_str (pa_cons pe_str (pa_cons pe_str (pa_cons pe_str (pa_cons pe_str (pa_cons pe_str pa_nil)))))))))))), ?_⟩
    exact ⟨(by show 9 ≤ sizeLine; decide), fun l hl => q l hl⟩
end
end KF

set_option Elab.async false
set_option linter.all false
set_option maxRecDepth 100000
set_option maxHeartbeats 4000000
/-! # law: what pairs break, lack, tell -/
namespace KF
open PySem PySem.Spec PyProof.Rows L2 VX KW
section
variable {P : Program} {w : World} {K : PySem.W.Frag} {mg : Str → Option Value} {base : Heap} {f : Addr} {fd : FuncData}
/-! ### indices -/
def nV (i : Nat) : V := .int i
theorem rg_yes {c : Nat → Bool} {i : Nat} (h : c i = true) : (List.range (i + 1)).filter c = (List.range i).filter c ++ [i] := by
  rw [List.range_succ, List.filter_append]
  simp [h]
theorem rg_no {c : Nat → Bool} {i : Nat} (h : c i = false) : (List.range (i + 1)).filter c = (List.range i).filter c := by
  rw [List.range_succ, List.filter_append]
  simp [h]
def cB (ps : List Pr) (k : List Nat) (i : Nat) : Bool := match ps[i]? with | some p => !won k p | none => false
def cL (qs : List Pr) (ks : List (List Nat)) (i : Nat) : Bool := match qs[i]? with | some q => allW ks q | none => false
theorem brL_def {ps : List Pr} {k : List Nat} : brL ps k = (List.range ps.length).filter (cB ps k) := rfl
theorem lackL_def {qs : List Pr} {ks : List (List Nat)} : lackL qs ks = (List.range qs.length).filter (cL qs ks) := rfl
theorem cB_at {ps : List Pr} {k : List Nat} {i : Nat} {p : Pr} (h : ps[i]? = some p) : cB ps k i = !won k p := by
  unfold cB
  rw [h]
theorem cL_at {qs : List Pr} {ks : List (List Nat)} {i : Nat} {q : Pr} (h : qs[i]? = some q) : cL qs ks i = allW ks q := by
  unfold cL
  rw [h]
theorem rg_len {c : Nat → Bool} {i : Nat} : ((List.range i).filter c).length ≤ i := Nat.le_trans (List.length_filter_le _ _) (by rw [List.length_range]; exact Nat.le_refl _)
/-! ### _law_broken -/
def spBr (K : PySem.W.Frag) : Sp := fun vs H Q _ => ∃ (l : Addr) (xs : List V) (ps : List Pr) (k : List Nat), vs = [.ref l, .str (kS k)] ∧ SqL K H l xs ∧ IsTPs H xs ps ∧ ps.length ≤ 1000 ∧ ∀ H' l', Same H H' → H l' = none → H' l' = some (.lst ((brL ps k).map nV)) → Q (.ref l') H'
abbrev nBr : List Str := ["_law_pairs", "_law_kind", "_law_k"]
theorem sc_br : FnScope nBr ["_law_pairs", "_law_kind"] (defScope (top iBroken)) := ⟨rfl, rfl, rfl, by decide +kernel, rfl, by decide +kernel, by decide +kernel⟩

theorem g_br (T : Txt K mg) (A : Al K) : ∃ fd, FnP K "_law_broken" iBroken (He.ga K "_law_broken") fd ∧ FnOk P w K mg base CX0 24 (He.ga K "_law_broken") fd ["_law_pairs", "_law_kind"] (spBr K) ∧ Binds K fd ["_law_pairs", "_law_kind"] [] := by
  obtain ⟨fdI, FI, GI, BI⟩ := g_lwithin (P := P) (w := w) (base := base) T A
  obtain ⟨fd, F⟩ := A.def "_law_broken" iBroken
  refine ⟨fd, F, ?_, F.bindsN fun _ _ _ _ _ _ us hl => match us, hl with | [_, _], _ => rfl⟩
  refine F.ok sc_br (fun vs H Q E h => ?_) (fun cdv A outer s H vs Q E hr h => ?_)
  · obtain ⟨l, xs, ps, k, rfl, _⟩ := h
    rfl
  · obtain ⟨l, xs, ps, k, rfl, hl, hps, hle, q⟩ := h
    have nd := sc_br.nd
    have hrw : Room 23 _ := hr
    have hln := hps.1
    refine ⟨_, PSs.nox (pss_one (ps_ret (pe_lc (own := [("_law_k", 2)]) (g := gName 2) (by rfl) nd (pi_range1 (by rfl) (T.fr "range") (pa_cons (pe_callB call_len_seq (by rfl) (T.fr "len") boot_len (pa_cons (pv 0) pa_nil)) pa_nil)) (blkOk_by (own := [("_law_k", 2)]) (N := nBr) (sc := defScope (top iBroken)) (by decide +kernel)) (fun _ _ _ _ _ => pg_name (i := 2) nd rfl (Or.inl rfl)) (fun _ _ _ _ _ => pts_one (pt_not (pt_val (pe_call GI hrw (by rfl) (T.df "_law_within" iLWithin) FI.kp BI .nil pass0 (pa_cons (pe_ix (r := rIxT K) ix_tup (pe_ix (r := rIxL K) ix_list (pv 0) (pv 2) (fun _ _ => rfl)) pe_int (fun _ _ => rfl)) (pa_cons (pe_ix (r := rIxT K) ix_tup (pe_ix (r := rIxL K) ix_list (pv 0) (pv 2) (fun _ _ => rfl)) pe_int (fun _ _ => rfl)) (pa_cons (pv 1) pa_nil))))))) (fun _ _ _ _ _ => pv 2)))), ?_⟩
    refine ⟨_, rfl, l, xs, rfl, .inl hl, _, rfl, by omega, by omega, fun D hD => lc_it (walk_range (lo := 0) (n := ((xs.length : Nat) : Int).toNat)) (fun i H' => Same H H' ∧ H' D = some (.lst (((List.range i).filter (cB ps k)).map nV))) ⟨same_new hD, upd_same⟩ (fun _ _ _ _ => trivial) ?_ ?_⟩
    · rintro i v H1 H2 hi ⟨sm, hDl⟩ ⟨rfl, rfl⟩
      have hi' : i < xs.length := by omega
      have hv : xs[i]? = some xs[i] := List.getElem?_eq_getElem hi'
      obtain ⟨p, hpi, a, u, z, e, ha, hu, hz, d1, d2⟩ := hps.at hv
      rw [e] at hv
      have hat : atI xs (0 + (i : Int)) = some (.ref a) := by rw [Int.zero_add]; exact atI_nat hv
      have hl2 := SqL.same sm hl
      refine ⟨rfl, _, rfl, _, rfl, l, xs, 0 + (i : Int), .ref a, rfl, rfl, hl2, hat, a, _, 0, _, rfl, rfl, SqT.of (sm _ _ ha), rfl, _, rfl, _, rfl, l, xs, 0 + (i : Int), .ref a, rfl, rfl, hl2, hat, a, _, 1, _, rfl, rfl, SqT.of (sm _ _ ha), rfl, _, rfl, u, z, p.1, p.2, k, rfl, hu.same sm, hz.same sm, by omega, by omega, fun H3 s3 => ⟨_, rfl, ?_⟩⟩
      rw [liW_eq hu.wf hz.wf]
      have c := cB_at (k := k) hpi
      cases hw : isW (mk k p.1) (mk k p.2) with
      | false =>
        rw [show won k p = false from hw] at c
        refine iteT ⟨_, rfl, _, s3 _ _ hDl, lt_line (by rw [List.length_map]; exact Nat.le_trans rg_len (by omega)), Same.grow (sm.trans s3) hD, ?_⟩
        rw [upd_same, rg_yes c, List.map_append]
        show some (HO.lst (_ ++ [V.int (0 + (i : Int))])) = _
        rw [Int.zero_add]
        rfl
      | true =>
        rw [show won k p = true from hw] at c
        refine iteF ⟨sm.trans s3, ?_⟩
        rw [rg_no c]
        exact s3 _ _ hDl
    · rintro H1 ⟨sm, hDl⟩
      rw [show ((xs.length : Nat) : Int).toNat = ps.length by omega, ← brL_def] at hDl
      exact q _ _ sm hD hDl
/-! ### _law_left -/
def spLe (K : PySem.W.Frag) : Sp := fun vs H Q _ => ∃ (l : Addr) (xs : List V) (ps : List Pr), vs = [.ref l] ∧ SqL K H l xs ∧ IsTPs H xs ps ∧ ps.length ≤ 1000 ∧ ∀ H' l', Same H H' → H l' = none → H' l' = some (.lst (kvL (opK ps))) → Q (.ref l') H'
abbrev nLe : List Str := ["_law_pairs", "_law_kind"]
theorem sc_le : FnScope nLe ["_law_pairs"] (defScope (top iLeft)) := ⟨rfl, rfl, rfl, by decide +kernel, rfl, by decide +kernel, by decide +kernel⟩

theorem g_le (T : Txt K mg) (A : Al K) : ∃ fd, FnP K "_law_left" iLeft (He.ga K "_law_left") fd ∧ FnOk P w K mg base CX0 25 (He.ga K "_law_left") fd ["_law_pairs"] (spLe K) ∧ Binds K fd ["_law_pairs"] [] := by
  obtain ⟨fdB, FB, GB, BB⟩ := g_br (P := P) (w := w) (base := base) T A
  obtain ⟨fdK, FK, GK, BK⟩ := g_ki (P := P) (w := w) (base := base) T A
  obtain ⟨fd, F⟩ := A.def "_law_left" iLeft
  refine ⟨fd, F, ?_, F.bindsN fun _ _ _ _ _ _ us hl => match us, hl with | [_], _ => rfl⟩
  refine F.ok sc_le (fun vs H Q E h => ?_) (fun cdv A outer s H vs Q E hr h => ?_)
  · obtain ⟨l, xs, ps, rfl, _⟩ := h
    rfl
  · obtain ⟨l, xs, ps, rfl, hl, hps, hle, q⟩ := h
    have nd := sc_le.nd
    have hrk : Room 1 _ := hr.mono (by decide)
    have hu0 := hr.units0
    refine ⟨_, PSs.nox (pss_one (ps_ret (pe_lc (own := [("_law_kind", 1)]) (g := gName 1) (by rfl) nd (pi_list (pe_call0 GK hrk (by rfl) (T.df "_law_kinds" iKinds) FK.kp BK .nil pass0)) (blkOk_by (own := [("_law_kind", 1)]) (N := nLe) (sc := defScope (top iLeft)) (by decide +kernel)) (fun _ _ _ _ _ => pg_name (i := 1) nd rfl (Or.inl rfl)) (fun _ _ _ _ _ => pts_one (pt_cmpR (op_eqN K hu0) (pe_call GB hr (by rfl) (T.df "_law_broken" iBroken) FB.kp BB .nil pass0 (pa_cons (pv 0) (pa_cons (pv 1) pa_nil))) (pe_lst pa_nil) (nomark _))) (fun _ _ _ _ _ => pv 1)))), ?_⟩
    refine ⟨rfl, fun lk hlk => ⟨lk, rfl, ⟨_, SqL.of upd_same⟩, fun D hD => ?_⟩⟩
    have s0 := same_new (o := .lst (kvL kinds)) hlk
    have hk0 : upd H lk (.lst (kvL kinds)) lk = some (.lst (kvL kinds)) := upd_same
    have hDH : H D = none := s0.free hD
    generalize upd H lk (.lst (kvL kinds)) = H0 at hD s0 hk0
    refine lc_it (walk_list (K := K) (a := lk) (xs := kvL kinds)) (fun i H' => Same H0 H' ∧ H' D = some (.lst (kvL ((kinds.take i).filter (okK ps))))) ⟨same_new hD, upd_same⟩ (fun i H' _ z => SqL.of (z.1 _ _ hk0)) ?_ ?_
    · rintro i v H1 H2 hi ⟨sm, hDl⟩ ⟨rfl, hv⟩
      obtain ⟨k, hk, rfl⟩ := kvL_at hv
      have s1 := s0.trans sm
      refine ⟨rfl, _, rfl, _, rfl, l, xs, ps, k, rfl, SqL.same s1 hl, hps.same s1, hle, fun H3 lb s3 hlb hlbb => ⟨(by show 0 ≤ sizeLine; decide), fun e he => ?_⟩⟩
      have s4 := same_new (o := .lst []) he
      have s34 := s3.trans s4
      refine ⟨lb, e, _, rfl, rfl, SqL.of (s4 _ _ hlbb), SqL.of upd_same, _, rfl, ?_⟩
      simp only [if_true, List.isEmpty_map, brL_nil]
      refine ite2 (fun h => ?_) (fun h => ?_)
      · refine ⟨_, rfl, _, s34 _ _ hDl, lt_line (by rw [kvL_len]; exact Nat.le_trans filt_le (by decide)), Same.grow (sm.trans s34) hD, ?_⟩
        rw [upd_same, filt_yes (c := okK ps) hk h]
        simp only [kvL, List.map_append]
        rfl
      · refine ⟨sm.trans s34, ?_⟩
        rw [filt_no (c := okK ps) hk (Bool.eq_false_iff.mpr h)]
        exact s34 _ _ hDl
    · rintro H1 ⟨sm, hDl⟩
      exact q _ _ (s0.trans sm) hDH hDl
/-! ### _law_lacking -/
def notW (q : Pr) (k : List Nat) : Bool := !won k q
theorem notW_nil {ks : List (List Nat)} {q : Pr} : (ks.filter (notW q)).isEmpty = allW ks q := by
  rw [Bool.eq_iff_iff, List.isEmpty_iff, List.filter_eq_nil_iff]
  unfold allW notW
  rw [List.all_eq_true]
  exact ⟨fun h k hk => by simpa using h k hk, fun h k hk => by simpa using h k hk⟩
theorem filt_le2 {ks : List (List Nat)} {c : List Nat → Bool} {i : Nat} : ((ks.take i).filter c).length ≤ ks.length := Nat.le_trans (List.length_filter_le _ _) (List.length_take_le' _ _)
def spLa (K : PySem.W.Frag) : Sp := fun vs H Q _ => ∃ (l lk : Addr) (xs : List V) (qs : List Pr) (ks : List (List Nat)), vs = [.ref l, .ref lk] ∧ SqL K H l xs ∧ IsTPs H xs qs ∧ qs.length ≤ 1000 ∧ SqL K H lk (kvL ks) ∧ ks.length ≤ 1000 ∧ ∀ H' l', Same H H' → H l' = none → H' l' = some (.lst ((lackL qs ks).map nV)) → Q (.ref l') H'
abbrev nLa : List Str := ["_law_pairs", "_law_kinds_here", "_law_found", "_law_k", "_law_kind"]
theorem sc_la : FnScope nLa ["_law_pairs", "_law_kinds_here"] (defScope (top iLack)) := ⟨rfl, rfl, rfl, by decide +kernel, rfl, by decide +kernel, by decide +kernel⟩

theorem g_la (T : Txt K mg) (A : Al K) : ∃ fd, FnP K "_law_lacking" iLack (He.ga K "_law_lacking") fd ∧ FnOk P w K mg base CX0 24 (He.ga K "_law_lacking") fd ["_law_pairs", "_law_kinds_here"] (spLa K) ∧ Binds K fd ["_law_pairs", "_law_kinds_here"] [] := by
  obtain ⟨fdI, FI, GI, BI⟩ := g_lwithin (P := P) (w := w) (base := base) T A
  obtain ⟨fd, F⟩ := A.def "_law_lacking" iLack
  refine ⟨fd, F, ?_, F.bindsN fun _ _ _ _ _ _ us hl => match us, hl with | [_, _], _ => rfl⟩
  refine F.ok sc_la (fun vs H Q E h => ?_) (fun cdv A outer s H vs Q E hr h => ?_)
  · obtain ⟨l, lk, xs, qs, ks, rfl, _⟩ := h
    rfl
  · obtain ⟨l, lk, xs, qs, ks, rfl, hl, hqs, hle, hk, hkl, q⟩ := h
    have nd := sc_la.nd
    have hrw : Room 23 _ := hr
    have hu0 := hr.units0
    have hln := hqs.1
    refine ⟨_, PSs.nox (pss_cons (ps_set (i := 2) nd rfl (.inl rfl) (pe_lst pa_nil)) (pss_cons (ps_for PassesOwn.never rfl (pi_range1 (by rfl) (T.fr "range") (pa_cons (pe_callB call_len_seq (by rfl) (T.fr "len") boot_len (pa_cons (pv 0) pa_nil)) pa_nil)) (pg_name (i := 3) nd rfl (.inr rfl)) (pss_one (ps_if (pt_cmpR (op_eqN K hu0) (pe_lc (own := [("_law_kind", 4)]) (g := gName 4) (by rfl) nd (pi_list (pv 1)) (blkOk_by (own := [("_law_kind", 4)]) (N := nLa) (sc := defScope (top iLack)) (by decide +kernel)) (fun _ _ _ _ _ => pg_name (i := 4) nd rfl (Or.inl rfl)) (fun _ _ _ _ _ => pts_one (pt_not (pt_val (pe_call GI hrw (by rfl) (T.df "_law_within" iLWithin) FI.kp BI .nil pass0 (pa_cons (pe_ix (r := rIxT K) ix_tup (pe_ix (r := rIxL K) ix_list (pv 0) (pv 3) (fun _ _ => rfl)) pe_int (fun _ _ => rfl)) (pa_cons (pe_ix (r := rIxT K) ix_tup (pe_ix (r := rIxL K) ix_list (pv 0) (pv 3) (fun _ _ => rfl)) pe_int (fun _ _ => rfl)) (pa_cons (pv 4) pa_nil))))))) (fun _ _ _ _ _ => pv 4)) (pe_lst pa_nil) (nomark _)) (pss_one (ps_expr (pe_bm PySem.F.plainAttrs_list PySem.F.slot_list_append PySem.F.type_list_append mt_append (pv 2) (pa_cons (pv 3) pa_nil)))) pss_nil))) (pss_one (ps_ret (pv 2))))), ?_⟩
    refine ⟨(by show 0 ≤ sizeLine; decide), fun lf hlf => ?_⟩
    have s0 := same_new (o := .lst []) hlf
    refine ⟨_, rfl, l, xs, rfl, .inl (SqL.same s0 hl), _, rfl, by omega, by omega, for_it (walk_range (lo := 0) (n := ((xs.length : Nat) : Int).toNat)) (fun i σ H' => (∃ y1 y2, σ = [some (V.ref l), some (V.ref lk), some (V.ref lf), y1, y2]) ∧ Same H H' ∧ H' lf = some (.lst (((List.range i).filter (cL qs ks)).map nV))) ⟨⟨none, none, rfl⟩, s0, upd_same⟩ (fun _ _ _ _ _ => trivial) ?_ ?_⟩
    · rintro i v σ Ha Hb hi ⟨⟨y1, y2, rfl⟩, sm, hf⟩ ⟨rfl, rfl⟩
      have hi' : i < xs.length := by omega
      have hv : xs[i]? = some xs[i] := List.getElem?_eq_getElem hi'
      obtain ⟨p, hpi, a, u, z, e, ha, hu, hz, d1, d2⟩ := hqs.at hv
      rw [e] at hv
      have hat : atI xs (0 + (i : Int)) = some (.ref a) := by rw [Int.zero_add]; exact atI_nat hv
      have c := cL_at (ks := ks) hpi
      refine ⟨_, rfl, lk, rfl, ⟨_, SqL.same sm hk⟩, fun D hD => lc_it (walk_list (K := K) (a := lk) (xs := kvL ks)) (fun j H' => Same Hb H' ∧ H' D = some (.lst (kvL ((ks.take j).filter (notW p))))) ⟨same_new hD, upd_same⟩ (fun j H' _ z => SqL.same (sm.trans z.1) hk) ?_ ?_⟩
      · rintro j v H1 H2 hj ⟨sj, hDl⟩ ⟨rfl, hv2⟩
        obtain ⟨k, hkk, rfl⟩ := kvL_at hv2
        have s1 := sm.trans sj
        have hl2 := SqL.same s1 hl
        refine ⟨rfl, _, rfl, _, rfl, l, xs, 0 + (i : Int), .ref a, rfl, rfl, hl2, hat, a, _, 0, _, rfl, rfl, SqT.of (s1 _ _ ha), rfl, _, rfl, _, rfl, l, xs, 0 + (i : Int), .ref a, rfl, rfl, hl2, hat, a, _, 1, _, rfl, rfl, SqT.of (s1 _ _ ha), rfl, _, rfl, u, z, p.1, p.2, k, rfl, hu.same s1, hz.same s1, by omega, by omega, fun H3 s3 => ⟨_, rfl, ?_⟩⟩
        rw [liW_eq hu.wf hz.wf]
        cases hw : isW (mk k p.1) (mk k p.2) with
        | false =>
          have cn : notW p k = true := by show (!isW (mk k p.1) (mk k p.2)) = true; rw [hw]; rfl
          refine iteT ⟨_, rfl, _, s3 _ _ hDl, lt_line (by rw [kvL_len]; exact Nat.le_trans filt_le2 (by omega)), Same.grow (sj.trans s3) hD, ?_⟩
          rw [upd_same, filt_yes (c := notW p) hkk cn]
          simp only [kvL, List.map_append]
          rfl
        | true =>
          have cn : notW p k = false := by show (!isW (mk k p.1) (mk k p.2)) = false; rw [hw]; rfl
          refine iteF ⟨sj.trans s3, ?_⟩
          rw [filt_no (c := notW p) hkk cn]
          exact s3 _ _ hDl
      · rintro H1 ⟨sj, hDl⟩
        rw [kvL_len, List.take_length] at hDl
        refine ⟨(by show 0 ≤ sizeLine; decide), fun e he => ?_⟩
        have s4 := same_new (o := .lst []) he
        refine ⟨D, e, _, rfl, rfl, SqL.of (s4 _ _ hDl), SqL.of upd_same, _, rfl, ?_⟩
        have em : (kvL (ks.filter (notW p))).isEmpty = allW ks p := by
          unfold kvL
          rw [List.isEmpty_map, notW_nil]
        simp only [if_true, em]
        have hf4 := s4 _ _ (sj _ _ hf)
        have s5 := (sm.trans sj).trans s4
        refine ite2 (fun h => ?_) (fun h => ?_)
        · rw [h] at c
          refine ⟨_, rfl, .inl ⟨rfl, _, SqL.of hf4⟩, _, rfl, lf, _, _, rfl, rfl, hf4, lt_line (by rw [List.length_map]; exact Nat.le_trans rg_len (by omega)), ⟨_, _, rfl⟩, Same.grow s5 hlf, ?_⟩
          rw [upd_same, rg_yes c, List.map_append, Int.zero_add]
          rfl
        · rw [Bool.eq_false_iff.mpr h] at c
          refine ⟨⟨_, _, rfl⟩, s5, ?_⟩
          rw [rg_no c]
          exact hf4
    · rintro σ Ha ⟨⟨y1, y2, rfl⟩, sm, hf⟩
      rw [show ((xs.length : Nat) : Int).toNat = qs.length by omega, ← lackL_def] at hf
      exact ⟨_, rfl, q _ _ sm hlf hf⟩
/-! ### _law_verdict -/
def vdS : Vd → Str
  | .clash => "clash"
  | .sure => "sure"
  | .opn => "open"
  | .barred => "barred"
theorem eqLV_kv : ∀ {a b : List (List Nat)}, eqLV (kvL a) (kvL b) = decide (a = b)
  | [], [] => rfl
  | [], _ :: _ => rfl
  | _ :: _, [] => rfl
  | x :: a, y :: b => by
    show ((kS x == kS y) && eqLV (kvL a) (kvL b)) = _
    rw [eqLV_kv, Bool.eq_iff_iff]
    simp [kS_inj]
theorem clB_lack {ps qs : List Pr} : clB ps qs = !(lackL qs (opK ps)).isEmpty := by
  rw [lackL_nil, Bool.not_not]
  rfl
def spVe (K : PySem.W.Frag) : Sp := fun vs H Q _ => ∃ (l lf : Addr) (xs us : List V) (ps qs : List Pr) (v u : V) (p : Pr), vs = [.ref l, .ref lf, v, u] ∧ SqL K H l xs ∧ IsTPs H xs ps ∧ ps.length ≤ 1000 ∧ SqL K H lf us ∧ IsTPs H us qs ∧ qs.length ≤ 1000 ∧ IsTT H v p.1 ∧ IsTT H u p.2 ∧ dep p.1 ≤ 20 ∧ dep p.2 ≤ 20 ∧ ∀ H', Same H H' → Q (.str (vdS (vd ps qs p))) H'
abbrev nVe : List Str := ["_law_near", "_law_far", "_law_low", "_law_high", "_law_kinds_here", "_law_kept", "_law_kind"]
theorem sc_ve : FnScope nVe ["_law_near", "_law_far", "_law_low", "_law_high"] (defScope (top iVerd)) := ⟨rfl, rfl, rfl, by decide +kernel, rfl, by decide +kernel, by decide +kernel⟩

theorem g_ve (T : Txt K mg) (A : Al K) : ∃ fd, FnP K "_law_verdict" iVerd (He.ga K "_law_verdict") fd ∧ FnOk P w K mg base CX0 26 (He.ga K "_law_verdict") fd ["_law_near", "_law_far", "_law_low", "_law_high"] (spVe K) ∧ Binds K fd ["_law_near", "_law_far", "_law_low", "_law_high"] [] := by
  obtain ⟨fdI, FI, GI, BI⟩ := g_lwithin (P := P) (w := w) (base := base) T A
  obtain ⟨fdL, FL, GL, BL⟩ := g_le (P := P) (w := w) (base := base) T A
  obtain ⟨fdC, FC, GC, BC⟩ := g_la (P := P) (w := w) (base := base) T A
  obtain ⟨fd, F⟩ := A.def "_law_verdict" iVerd
  refine ⟨fd, F, ?_, F.bindsN fun _ _ _ _ _ _ us hl => match us, hl with | [_, _, _, _], _ => rfl⟩
  refine F.ok sc_ve (fun vs H Q E h => ?_) (fun cdv A outer s H vs Q E hr h => ?_)
  · obtain ⟨l, lf, xs, us, ps, qs, v, u, p, rfl, _⟩ := h
    rfl
  · obtain ⟨l, lf, xs, us, ps, qs, v, u, p, rfl, hl, hps, hpl, hf, hqs, hql, hv, hu, d1, d2, q⟩ := h
    have nd := sc_ve.nd
    have hrw : Room 23 _ := hr.mono (by decide)
    have hrl : Room 25 _ := hr
    have hrc : Room 24 _ := hr.mono (by decide)
    have hu0 := hr.units0
    have l9 : (opK ps).length ≤ 1000 := Nat.le_trans (List.length_filter_le _ _) (by decide)
    refine ⟨_, PSs.nox (pss_cons (ps_set (i := 4) nd rfl (.inl rfl) (pe_call GL hrl (by rfl) (T.df "_law_left" iLeft) FL.kp BL .nil pass0 (pa_cons (pv 0) pa_nil))) (pss_cons (ps_if (pt_cmpR (op_neN K hu0) (pe_call GC hrc (by rfl) (T.df "_law_lacking" iLack) FC.kp BC .nil pass0 (pa_cons (pv 1) (pa_cons (pv 4) pa_nil))) (pe_lst pa_nil) (nomark _)) (pss_one (ps_ret pe_str)) pss_nil) (pss_cons (ps_setLc (i := 5) (own := [("_law_kind", 6)]) (g := gName 6) (by rfl) nd rfl rfl (sw_true rfl rfl rfl (by decide +kernel)) (pi_list (pv 4)) (blkOk_by (own := [("_law_kind", 6)]) (N := nVe) (sc := defScope (top iVerd)) (by decide +kernel)) (fun _ _ _ _ _ => pg_name (i := 6) nd rfl (Or.inl rfl)) (fun _ _ _ _ _ => pts_one (pt_val (pe_call GI hrw (by rfl) (T.df "_law_within" iLWithin) FI.kp BI .nil pass0 (pa_cons (pv 2) (pa_cons (pv 3) (pa_cons (pv 6) pa_nil)))))) (fun _ _ _ _ _ => pv 6)) (pss_cons (ps_if (pt_cmpR (op_eqF K hu0) (pv 5) (pv 4) (nomark _)) (pss_one (ps_ret pe_str)) pss_nil) (pss_one (ps_ret (pe_ifExp (pt_cmpR (op_eqN K hu0) (pe_call GC hrc (by rfl) (T.df "_law_lacking" iLack) FC.kp BC .nil pass0 (pa_cons (pv 1) (pa_cons (pv 5) pa_nil))) (pe_lst pa_nil) (nomark _)) pe_str pe_str))))))), ?_⟩
    refine ⟨_, rfl, l, xs, ps, rfl, hl, hps, hpl, fun H1 lk s1 hlk hlkk => ?_⟩
    refine ⟨_, rfl, _, rfl, lf, lk, us, qs, opK ps, rfl, SqL.same s1 hf, hqs.same s1, hql, SqL.of hlkk, l9, fun H2 lc s2 hlc hlcc => ⟨(by show 0 ≤ sizeLine; decide), fun e he => ?_⟩⟩
    have s3 := same_new (o := .lst []) he
    refine ⟨lc, e, _, rfl, rfl, SqL.of (s3 _ _ hlcc), SqL.of upd_same, _, rfl, ?_⟩
    simp only [Bool.false_eq_true, if_false, List.isEmpty_map, ← clB_lack]
    have s13 := s1.trans (s2.trans s3)
    unfold vd at q
    refine ite2 (fun h => ?_) (fun h => ?_)
    · rw [if_pos h] at q
      exact q _ s13
    · rw [if_neg h] at q
      have hk3 := s3 _ _ (s2 _ _ hlkk)
      generalize upd H2 e (.lst []) = H3 at s13 hk3
      refine ⟨_, rfl, lk, rfl, ⟨_, SqL.of hk3⟩, fun D hD => lc_it (walk_list (K := K) (a := lk) (xs := kvL (opK ps))) (fun j H' => Same H3 H' ∧ H' D = some (.lst (kvL (((opK ps).take j).filter fun k => won k p)))) ⟨same_new hD, upd_same⟩ (fun j H' _ z => SqL.of (z.1 _ _ hk3)) ?_ ?_⟩
      · rintro j v1 Ha Hb hj ⟨sj, hDl⟩ ⟨rfl, hv2⟩
        obtain ⟨k, hkk, rfl⟩ := kvL_at hv2
        have s4 := s13.trans sj
        refine ⟨rfl, _, rfl, _, rfl, _, rfl, v, u, p.1, p.2, k, rfl, hv.same s4, hu.same s4, d1, d2, fun H5 s5 => ⟨_, rfl, ?_⟩⟩
        rw [liW_eq hv.wf hu.wf]
        refine ite2 (fun h => ?_) (fun h => ?_)
        · refine ⟨_, rfl, _, s5 _ _ hDl, lt_line (by rw [kvL_len]; exact Nat.le_trans filt_le2 (by omega)), Same.grow (sj.trans s5) hD, ?_⟩
          rw [upd_same, filt_yes (c := fun k => won k p) hkk h]
          simp only [kvL, List.map_append]
          rfl
        · refine ⟨sj.trans s5, ?_⟩
          rw [filt_no (c := fun k => won k p) hkk (Bool.eq_false_iff.mpr h)]
          exact s5 _ _ hDl
      · rintro Ha ⟨sj, hDl⟩
        rw [kvL_len, List.take_length] at hDl
        have hDl : Ha D = some (.lst (kvL (keptK (opK ps) p))) := hDl
        refine ⟨_, rfl, _, rfl, D, lk, _, _, rfl, rfl, SqL.of hDl, SqL.of (sj _ _ hk3), kv_flat _, kv_flat _, _, rfl, ?_⟩
        simp only [if_true, eqLV_kv]
        have s4 := s13.trans sj
        have k9 : (keptK (opK ps) p).length ≤ 1000 := Nat.le_trans (List.length_filter_le _ _) l9
        by_cases ha : allW (opK ps) p = true
        · rw [decide_eq_true (keptK_all.mp ha)]
          rw [if_pos ha] at q
          exact iteT (q _ s4)
        · rw [decide_eq_false (fun e => ha (keptK_all.mpr e))]
          rw [if_neg ha] at q
          refine iteF ⟨_, rfl, _, rfl, lf, D, us, qs, keptK (opK ps) p, rfl, SqL.same s4 hf, hqs.same s4, hql, SqL.of hDl, k9, fun H6 lc2 s6 hlc2 hlcc2 => ⟨(by show 0 ≤ sizeLine; decide), fun e2 he2 => ?_⟩⟩
          have s7 := same_new (o := .lst []) he2
          refine ⟨lc2, e2, _, rfl, rfl, SqL.of (s7 _ _ hlcc2), SqL.of upd_same, _, rfl, ?_⟩
          simp only [if_true, List.isEmpty_map]
          have s8 := s4.trans (s6.trans s7)
          refine ite2 (fun h => ?_) (fun h => ?_)
          · rw [if_pos h] at q
            exact q _ s8
          · rw [if_neg h] at q
            exact q _ s8
end
end KF

set_option Elab.async false
set_option linter.all false
set_option maxRecDepth 100000
set_option maxHeartbeats 4000000
/-! # law: the question -/
namespace KF
open PySem PySem.Spec PyProof.Rows L2 VX KW
section
variable {P : Program} {w : World} {K : PySem.W.Frag} {mg : Str → Option Value} {base : Heap} {f : Addr} {fd : FuncData}
/-! ### _law_question -/
/-- the pair of trees at v that is asked about -/
def IsQ (H : Hp) (v : V) (p : Pr) : Prop := ∃ a u z, v = .ref a ∧ H a = some (.tup [u, z]) ∧ IsTT H u p.1 ∧ IsTT H z p.2 ∧ dep p.1 ≤ 20 ∧ dep p.2 ≤ 20
theorem IsTPs.mem {H : Hp} {vs : List V} {ps : List Pr} (h : IsTPs H vs ps) {v : V} (hv : v ∈ vs) : ∃ p, IsTP H v p := by
  obtain ⟨i, hi⟩ := List.mem_iff_getElem?.mp hv
  obtain ⟨p, _, hp⟩ := h.at hi
  exact ⟨p, hp⟩
def spQu : Sp := fun vs H Q _ => ∃ (b ln lf : Addr) (N : Nat) (xs us : List V) (ps qs : List Pr), vs = [.ref b, .ref ln, .ref lf] ∧ BoxK H b N ∧ N ≤ 500000 ∧ H ln = some (.lst xs) ∧ IsTPs H xs ps ∧ H lf = some (.lst us) ∧ IsTPs H us qs ∧ ps.length ≤ 10 ∧ qs.length ≤ 10 ∧
  ∀ H' v p, Kept b H H' → BoxK H' b (N + 100) → IsQ H' v p → Q v H'
abbrev nQu : List Str := ["_law_box_here", "_law_near", "_law_far", "_law_pairs", "_law_way", "_law_low", "_law_high"]
theorem sc_qu : FnScope nQu ["_law_box_here", "_law_near", "_law_far"] (defScope (top iQuest)) := ⟨rfl, rfl, rfl, by decide +kernel, rfl, by decide +kernel, by decide +kernel⟩

theorem g_qu (T : Txt K mg) (A : Al K) : ∃ fd, FnP K "_law_question" iQuest (He.ga K "_law_question") fd ∧ FnOk P w K mg base CX0 11 (He.ga K "_law_question") fd ["_law_box_here", "_law_near", "_law_far"] spQu ∧ Binds K fd ["_law_box_here", "_law_near", "_law_far"] [] := by
  obtain ⟨fdT, FT, GT, BT⟩ := g_take (P := P) (w := w) (base := base) T A
  obtain ⟨fdR, FR, GR, BR⟩ := g_tree (P := P) (w := w) (base := base) T A
  obtain ⟨fd, F⟩ := A.def "_law_question" iQuest
  refine ⟨fd, F, ?_, F.bindsN fun _ _ _ _ _ _ us hl => match us, hl with | [_, _, _], _ => rfl⟩
  refine F.ok sc_qu (fun vs H Q E h => ?_) (fun cdv A outer s H vs Q E hr h => ?_)
  · obtain ⟨b, ln, lf, N, xs, us, ps, qs, rfl, _⟩ := h
    rfl
  · obtain ⟨b, ln, lf, N, xs, us, ps, qs, rfl, hb, hN, hn, hps, hf, hqs, lp1, lq1, q⟩ := h
    have nd := sc_qu.nd
    have hr1 : Room 1 _ := hr.mono (by decide)
    have hrt : Room 10 _ := hr
    have hu0 := hr.units0
    have e1 := hps.1
    have e2 := hqs.1
    refine ⟨_, PSs.nox (pss_cons (ps_set (i := 3) nd rfl (.inl rfl) (pe_op op_cat (pv 1) (pv 2))) (pss_cons (ps_set (i := 4) nd rfl (.inl rfl) (pe_call GT hr1 (by rfl) (T.df "_law_take" iTake) FT.kp BT .nil pass0 (pa_cons (pv 0) (pa_cons pe_int pa_nil)))) (pss_cons (ps_cut (ps_if (PW.pt (pw_and (pt_cmpR op_eq (pv 4) pe_int (nomark _)) (pw_and1 (pt_cmpR (op_neN K hu0) (pv 3) (pe_lst pa_nil) (nomark _))))) (pss_one (ps_ret (pe_ix ix_list (pv 3) (pe_call GT hr1 (by rfl) (T.df "_law_take" iTake) FT.kp BT .nil pass0 (pa_cons (pv 0) (pa_cons (pe_callB call_len_seq (by rfl) (T.fr "len") boot_len (pa_cons (pv 3) pa_nil)) pa_nil))) (fun _ _ => rfl)))) pss_nil)) (pss_cons (ps_cut (ps_if (PW.pt (pw_and (pt_cmpR op_eq (pv 4) pe_int (nomark _)) (pw_and1 (pt_cmpR (op_neN K hu0) (pv 3) (pe_lst pa_nil) (nomark _))))) (pss_cons (ps_asg (pe_ix ix_list (pv 3) (pe_call GT hr1 (by rfl) (T.df "_law_take" iTake) FT.kp BT .nil pass0 (pa_cons (pv 0) (pa_cons (pe_callB call_len_seq (by rfl) (T.fr "len") boot_len (pa_cons (pv 3) pa_nil)) pa_nil))) (fun _ _ => rfl)) (pg_tup (by rfl) (pgs_cons (pg_name (i := 5) nd rfl (.inl rfl)) (pgs_cons (pg_name (i := 6) nd rfl (.inl rfl)) pgs_nil)))) (pss_one (ps_ret (pe_tup (pa_cons (pe_tup (pa_cons pe_str (pa_cons (pv 5) (pa_cons (pe_call GR hrt (by rfl) (T.df "_law_tree" iTree) FR.kp BR .nil pass0 (pa_cons (pv 0) (pa_cons (pe_op op_add pe_int (pe_call GT hr1 (by rfl) (T.df "_law_take" iTake) FT.kp BT .nil pass0 (pa_cons (pv 0) (pa_cons pe_int pa_nil)))) pa_nil))) pa_nil)))) (pa_cons (pv 6) pa_nil)))))) pss_nil)) (pss_one (ps_ret (pe_tup (pa_cons (pe_call GR hrt (by rfl) (T.df "_law_tree" iTree) FR.kp BR .nil pass0 (pa_cons (pv 0) (pa_cons (pe_op op_add pe_int (pe_call GT hr1 (by rfl) (T.df "_law_take" iTake) FT.kp BT .nil pass0 (pa_cons (pv 0) (pa_cons pe_int pa_nil)))) pa_nil))) (pa_cons (pe_call GR hrt (by rfl) (T.df "_law_tree" iTree) FR.kp BR .nil pass0 (pa_cons (pv 0) (pa_cons (pe_op op_add pe_int (pe_call GT hr1 (by rfl) (T.df "_law_take" iTake) FT.kp BT .nil pass0 (pa_cons (pv 0) (pa_cons pe_int pa_nil)))) pa_nil))) pa_nil))))))))), ?_⟩
    refine ⟨_, rfl, _, rfl, ln, lf, xs, us, rfl, rfl, hn, hf, Nat.le_of_lt (lt_line (by omega)), fun lp hlp => ?_⟩
    have s0 := same_new (o := .lst (xs ++ us)) hlp
    have lb : lp ≠ b := fun e => by obtain ⟨z, hz⟩ := hb.at; rw [e, hz] at hlp; cases hlp
    refine ⟨_, rfl, ?_⟩
    dsimp -proj only [tCons, tC, tNil, List.append_nil]
    refine take_use (m := 4) (hb.same s0) (by omega) (by decide) (by decide) fun d H1 d0 d1 k1 b1 _ => ?_
    obtain ⟨o0, ho0, lo0⟩ := box_lse (hb.same s0)
    have hp1 : H1 lp = some (.lst (xs ++ us)) := k1 _ _ upd_same lb
    have hall : IsTPs H1 (xs ++ us) (ps ++ qs) := ((hps.same s0).app (hqs.same s0)).keep ho0 lo0 k1
    have k01 : Kept b H H1 := (Kept.of s0).trans k1
    have pick : ∀ {H2 : Hp} {Q' : VK}, Same H1 H2 → (xs ++ us) ≠ [] → (∀ (H3 : Hp) (a : Addr) (u z : V) (p : Pr), Kept b H1 H3 → BoxK H3 b (N + 1 + 1) → H3 a = some (.tup [u, z]) → IsTT H3 u p.1 → IsTT H3 z p.2 → dep p.1 ≤ 10 → dep p.2 ≤ 10 → Q' (.ref a) H3) →
        spTake [.ref b, .int ((xs ++ us).length : Nat)] H2 (fun y H3 => rIxL K (.ref lp) y H3 Q') E0 := fun {H2 Q'} s2 hne kq => by
      have hpos : 0 < (xs ++ us).length := List.length_pos_iff.mpr hne
      refine take_use (m := ((xs ++ us).length : Nat)) (b1.same s2) (by omega) (by omega) (by rw [List.length_append]; omega) fun e H3 e0 e3 k3 b3 _ => ?_
      obtain ⟨v, hv, hm⟩ := atI_ex (xs := xs ++ us) e0 e3
      obtain ⟨o1, ho1, lo1⟩ := box_lse (b1.same s2)
      obtain ⟨p, a, u, z, rfl, h1, h2, h3, h4, h5⟩ := ((hall.same s2).keep ho1 lo1 k3).mem hm
      exact ⟨lp, _, e, _, rfl, rfl, SqL.of (k3 _ _ (s2 _ _ hp1) lb), hv, kq H3 a u z p ((Kept.of s2).trans k3) b3 h1 h2 h3 h4 h5⟩
    refine ⟨fun σ' H' => σ' = [some (V.ref b), some (V.ref ln), some (V.ref lf), some (V.ref lp), some (V.int d), none, none] ∧ Same H1 H', ?_, ?_⟩
    · refine ⟨_, rfl, rfl, _, rfl, ite2 (fun _ => ?_) (fun _ => ⟨rfl, Same.refl _⟩)⟩
      refine ⟨_, rfl, (by show 0 ≤ sizeLine; decide), fun e he => ?_⟩
      have s2 := same_new (o := .lst []) he
      refine ⟨lp, e, _, rfl, rfl, SqL.of (s2 _ _ hp1), SqL.of upd_same, _, rfl, ?_⟩
      simp only [Bool.false_eq_true, if_false]
      refine ite2 (fun hne => ?_) (fun _ => ⟨rfl, s2⟩)
      have hne' : xs ++ us ≠ [] := fun e => by rw [e] at hne; cases hne
      refine ⟨_, rfl, _, rfl, _, rfl, lp, _, rfl, .inl (SqL.of (s2 _ _ hp1)), ?_⟩
      exact pick s2 hne' fun H3 a u z p k3 b3 h1 h2 h3 h4 h5 => q H3 _ p (k01.trans k3) (b3.mono (by omega)) ⟨a, u, z, rfl, h1, h2, h3, by omega, by omega⟩
    · rintro σ' Ha ⟨rfl, sA⟩
      refine ⟨fun σ' H' => σ' = [some (V.ref b), some (V.ref ln), some (V.ref lf), some (V.ref lp), some (V.int d), none, none] ∧ Same H1 H', ?_, ?_⟩
      · refine ⟨_, rfl, rfl, _, rfl, ite2 (fun _ => ?_) (fun _ => ⟨rfl, sA⟩)⟩
        refine ⟨_, rfl, (by show 0 ≤ sizeLine; decide), fun e he => ?_⟩
        have s2 := sA.trans (same_new (o := .lst []) he)
        refine ⟨lp, e, _, rfl, rfl, SqL.of (s2 _ _ hp1), SqL.of upd_same, _, rfl, ?_⟩
        simp only [Bool.false_eq_true, if_false]
        refine ite2 (fun hne => ?_) (fun _ => ⟨rfl, s2⟩)
        have hne' : xs ++ us ≠ [] := fun e => by rw [e] at hne; cases hne
        refine ⟨_, rfl, _, rfl, _, rfl, lp, _, rfl, .inl (SqL.of (s2 _ _ hp1)), ?_⟩
        refine pick s2 hne' fun H3 a u z p k3 b3 h1 h2 h3 h4 h5 => ?_
        refine ⟨a, _, rfl, SqT.of h1, rfl, _, _, rfl, _, _, rfl, rfl, ?_⟩
        refine ⟨_, rfl, _, rfl, _, rfl, ?_⟩
        dsimp -proj only [tCons, tC, tNil, List.append_nil]
        refine take_use (m := 2) b3 (by omega) (by decide) (by decide) fun g H4 g0 g1 k4 b4 _ => ?_
        obtain ⟨g, rfl⟩ : ∃ n : Nat, g = (n : Int) := ⟨g.toNat, by omega⟩
        refine ⟨_, _, rfl, rfl, b, _, g + 1, ?_, b4, by omega, by omega, by omega, by omega, fun H5 a1 t1 k5 b5 ht1 hd1 => ?_⟩
        · show [V.ref b, V.int (1 + (g : Int))] = _
          rw [show (1 + (g : Int)) = ((g + 1 : Nat) : Int) by omega]
        obtain ⟨o3, ho3, lo3⟩ := box_lse b3
        have k35 := k4.trans k5
        have u5 := h2.keep ho3 lo3 k35
        have z5 := h3.keep ho3 lo3 k35
        refine ⟨(by show 3 ≤ sizeLine; decide), fun t ht => ?_⟩
        have s6 := same_new (o := .tup [.str "&", u, .ref a1]) ht
        refine ⟨_, rfl, (by show 2 ≤ sizeLine; decide), fun t2 ht2 => ?_⟩
        have s7 := same_new (o := .tup [.ref t, z]) ht2
        have s67 := s6.trans s7
        refine q _ _ (.nd 38 p.1 t1, p.2) (k01.trans (k3.trans (k35.trans (Kept.of s67)))) ((b5.same s67).mono (by omega)) ⟨t2, .ref t, z, rfl, upd_same, ⟨rfl, t, u, .ref a1, rfl, s7 _ _ upd_same, u5.same s67, ht1.same s67⟩, z5.same s67, ?_, by show dep p.2 ≤ 20; omega⟩
        simp only [dep]
        omega
      · rintro σ' Hc ⟨rfl, sC⟩
        refine ⟨_, rfl, _, rfl, ?_⟩
        dsimp -proj only [tCons, tC, tNil, List.append_nil]
        refine take_use (m := 4) (b1.same sC) (by omega) (by decide) (by decide) fun e H3 e0 e1 k3 b3 _ => ?_
        obtain ⟨e, rfl⟩ : ∃ n : Nat, e = (n : Int) := ⟨e.toNat, by omega⟩
        refine ⟨_, _, rfl, rfl, b, _, e + 1, ?_, b3, by omega, by omega, by omega, by omega, fun H4 a1 t1 k4 b4 ht1 hd1 => ?_⟩
        · show [V.ref b, V.int (1 + (e : Int))] = _
          rw [show (1 + (e : Int)) = ((e + 1 : Nat) : Int) by omega]
        refine ⟨_, rfl, _, rfl, ?_⟩
        dsimp -proj only [tCons, tC, tNil, List.append_nil]
        refine take_use (m := 4) b4 (by omega) (by decide) (by decide) fun g H5 g0 g1 k5 b5 _ => ?_
        obtain ⟨g, rfl⟩ : ∃ n : Nat, g = (n : Int) := ⟨g.toNat, by omega⟩
        refine ⟨_, _, rfl, rfl, b, _, g + 1, ?_, b5, by omega, by omega, by omega, by omega, fun H6 a2 t2 k6 b6 ht2 hd2 => ?_⟩
        · show [V.ref b, V.int (1 + (g : Int))] = _
          rw [show (1 + (g : Int)) = ((g + 1 : Nat) : Int) by omega]
        refine ⟨(by show 2 ≤ sizeLine; decide), fun p hp => ?_⟩
        have s7 := same_new (o := .tup [.ref a1, .ref a2]) hp
        obtain ⟨o4, ho4, lo4⟩ := box_lse b4
        exact q _ _ (t1, t2) (k01.trans ((Kept.of sC).trans (k3.trans (k4.trans (k5.trans (k6.trans (Kept.of s7))))))) ((b6.same s7).mono (by omega)) ⟨p, _, _, rfl, upd_same, (ht1.keep ho4 lo4 (k5.trans k6)).same s7, ht2.same s7, by show dep t1 ≤ 20; omega, by show dep t2 ≤ 20; omega⟩
end
end KF

set_option Elab.async false
set_option linter.all false
set_option maxRecDepth 100000
set_option maxHeartbeats 4000000
/-! # k37: texts of words -/
namespace KF
open PySem PySem.Spec PyProof.Rows L2 VX KW
section
variable {P : Program} {w : World} {K : PySem.W.Frag} {mg : Str → Option Value} {base : Heap} {f : Addr} {fd : FuncData}
abbrev sTxt : Stmt := inClass (top iWord) 8
def enc (b : Bool) (s : Str) : Str := if b = true then Str.empty ++ "(" ++ s ++ ")" else s
def sgn : Tr → Nat
  | .lf c => c
  | .nd c _ _ => c
def tx : Tr → Str
  | .lf c => one c
  | .nd c l r => Str.empty ++ enc (c == 38 && sgn l == 43) (tx l) ++ " " ++ one c ++ " " ++ enc (sgn r == 43 || sgn r == c) (tx r)
structure Txm (K : PySem.W.Frag) (fdT fdP fdg : FuncData) : Prop where
  mt : Meth K (wC K) "text" (He.ma K (wC K) "text")
  fT : FunD K "text" "Word.text" (defArgs sTxt) (defBody sTxt) (defScope sTxt) [] [] (He.ma K (wC K) "text") fdT
  fP : FnP K "part_text" iPText (He.ga K "part_text") fdP
  fg : FunD K "sign" "Word.sign" (defArgs sSg) (defBody sSg) (defScope sSg) [] [] (propG K "sign") fdg
def depT : Tr → Nat
  | .lf _ => 1
  | .nd _ l r => max (depT l) (depT r) + 1
def spText (K : PySem.W.Frag) (n : Nat) : Sp := fun vs H Q _ => ∃ (x : Addr) (t : Tr), vs = [.ref x] ∧ IsTr K H x t ∧ depT t ≤ n ∧ (tx t).length ≤ sizeLine ∧ ∀ H', Same H H' → Q (.str (tx t)) H'
def spTextL (K : PySem.W.Frag) : Nat → Sp
  | 0 => fun _ _ _ _ => False
  | n + 1 => spText K (n + 1)
def spPText (K : PySem.W.Frag) (n : Nat) : Sp := fun vs H Q _ => ∃ (x : Addr) (t : Tr) (b : Bool), vs = [.ref x, .bl b] ∧ IsTr K H x t ∧ depT t ≤ n ∧ (enc b (tx t)).length ≤ sizeLine ∧ ∀ H', Same H H' → Q (.str (enc b (tx t))) H'
theorem sc_ptext : FnScope ["part", "enclosed"] ["part", "enclosed"] (defScope (top iPText)) := ⟨rfl, rfl, rfl, by decide +kernel, rfl, by decide +kernel, by decide +kernel⟩
theorem depT_pos : ∀ t : Tr, 1 ≤ depT t
  | .lf _ => Nat.le_refl _
  | .nd _ _ _ => by simp only [depT]; omega
theorem app_len (x y : Str) : (x ++ y).length = x.length + y.length := PySem.strLen_append x y
theorem enc_len (b : Bool) (s : Str) : s.length ≤ (enc b s).length := by
  unfold enc
  split
  · rw [app_len, app_len]; omega
  · exact Nat.le_refl _
theorem IsTr.wd {H : Hp} {x : Addr} : ∀ {t : Tr}, IsTr K H x t → ∃ xs, IsWd K H x (sgn t) xs
  | .lf _, h => ⟨_, h.2⟩
  | .nd _ _ _, h => by obtain ⟨_, y, z, h1, _⟩ := h; exact ⟨_, h1⟩
theorem sl1 {k : Nat} (h : k ≤ sizeLine) : k ≤ sizeLine := h
theorem ok_ptext {fdT fdP fdg : FuncData} (T : Txt K mg) (Y : Txm K fdT fdP fdg) (n k : Nat) (GTx : FnOk P w K mg base CX0 k (He.ma K (wC K) "text") fdT ["self"] (spTextL K n)) : FnOk P w K mg base CX0 (k + 1) (He.ga K "part_text") fdP ["part", "enclosed"] (spPText K n) := by
  have BTx : Binds K fdT ["self"] [] := Y.fT.bindsN fun _ _ _ _ _ _ us hl => match us, hl with | [_], _ => rfl
  refine Y.fP.ok sc_ptext (fun vs H Q E h => ?_) (fun cdv A outer s H vs Q E hr h => ?_)
  · obtain ⟨x, t, b, rfl, _⟩ := h
    rfl
  · obtain ⟨x, t, b, rfl, hx, hd, hl, q⟩ := h
    have nd := sc_ptext.nd
    refine ⟨_, PSs.nox (pss_one (ps_ret (pe_ifExp (pt_val (pv 1)) (pe_joined (PJ.cons pe_str (PJ.cons (pe_fmt (pe_meth0 (pv 0) T.cls Y.mt GTx hr BTx .nil pass0)) (PJ.cons pe_str PJ.nil)))) (pe_meth0 (pv 0) T.cls Y.mt GTx hr BTx .nil pass0)))), ?_⟩
    have p1 := depT_pos t
    obtain ⟨m, rfl⟩ : ∃ m, n = m + 1 := ⟨n - 1, by omega⟩
    have tl := enc_len b (tx t)
    obtain ⟨xs, dx, a, h1, h2⟩ := hx.wd
    cases b with
    | false => exact ⟨_, rfl, _, rfl, iteF ⟨_, rfl, x, dx, _, rfl, h1, rfl, x, t, rfl, hx, hd, by omega, fun H1 s1 => q _ s1⟩⟩
    | true =>
      have hl2 : (Str.empty ++ ("(" : Str) ++ tx t ++ (")" : Str)).length ≤ sizeLine := hl
      rw [app_len, app_len] at hl2
      refine ⟨_, rfl, _, rfl, iteT ⟨_, rfl, sl1 (by omega), _, rfl, x, dx, _, rfl, h1, rfl, x, t, rfl, hx, hd, by omega, fun H1 s1 => .inl ⟨_, rfl, sl1 (by omega), _, rfl, sl1 (by rw [app_len]; omega), _, rfl, sl1 (by rw [app_len, app_len]; exact hl2), q _ s1⟩⟩⟩
abbrev nTx : List Str := ["self", "first", "second", "left", "right"]
theorem sc_text : FnScope nTx ["self"] (defScope sTxt) := ⟨rfl, rfl, rfl, by decide +kernel, rfl, by decide +kernel, by decide +kernel⟩
theorem ok_text1 {fdg fdT fdP : FuncData} (T : Txt K mg) (Y : Txm K fdT fdP fdg) (n k : Nat) (hk : 2 ≤ k) (GTx : FnOk P w K mg base CX0 k (He.ma K (wC K) "text") fdT ["self"] (spTextL K n)) : FnOk P w K mg base CX0 (k + 2) (He.ma K (wC K) "text") fdT ["self"] (spText K (n + 1)) := by
  have FP := Y.fP
  have GPt : FnOk P w K mg base CX0 (k + 1) _ fdP ["part", "enclosed"] (spPText K n) := ok_ptext T Y n k GTx
  have BPt : Binds K fdP ["part", "enclosed"] [] := FP.bindsN fun _ _ _ _ _ _ us hl => match us, hl with | [_, _], _ => rfl
  have GSg : FnOk P w K mg base CX0 1 _ fdg ["self"] (spGetS K) := ok_gets Y.fg T
  have BSg : Binds K fdg ["self"] [] := Y.fg.bindsN fun _ _ _ _ _ _ us hl => match us, hl with | [_], _ => rfl
  refine Y.fT.ok sc_text (fun vs H Q E h => ?_) (fun cdv A outer s H vs Q E hr h => ?_)
  · obtain ⟨x, t, rfl, _⟩ := h
    rfl
  · obtain ⟨x, t, rfl, hx, hd, hl, q⟩ := h
    have nd := sc_text.nd
    have hr2 : Room 2 _ := hr.mono (by omega)
    refine ⟨_, PSs.nox (pss_cons (ps_if (pt_cmpR op_eq (pe_callB call_len_seq (by rfl) (T.fr "len") boot_len (pa_cons (pe_fld (pv 0) rfl) pa_nil)) pe_int (nomark _)) (pss_one (ps_ret (pe_fld (pv 0) rfl))) pss_nil) (pss_cons (ps_asg (pe_fld (pv 0) rfl) (pg_tup (by rfl) (pgs_cons (pg_name (i := 1) nd rfl (.inl rfl)) (pgs_cons (pg_name (i := 2) nd rfl (.inl rfl)) pgs_nil)))) (pss_cons (ps_set (i := 3) nd rfl (.inl rfl) (pe_call GPt hr (by rfl) (T.df "part_text" iPText) FP.kp BPt .nil pass0 (pa_cons (pv 1) (pa_cons (pe_cut (pe_and (pe_cmpR op_eq (pe_fld (pv 0) rfl) pe_str (nomark _)) (pe_one (pe_cmpR op_eq (pe_prop (pv 1) T.cls T.ps GSg hr2 BSg .nil pass0 rfl) pe_str (nomark _))))) pa_nil)))) (pss_cons (ps_set (i := 4) nd rfl (.inl rfl) (pe_call GPt hr (by rfl) (T.df "part_text" iPText) FP.kp BPt .nil pass0 (pa_cons (pv 2) (pa_cons (pe_cut (pe_cmpR op_in_seq (pe_prop (pv 2) T.cls T.ps GSg hr2 BSg .nil pass0 rfl) (pe_tup (pa_cons pe_str (pa_cons (pe_fld (pv 0) rfl) pa_nil))) (by rfl))) pa_nil)))) (pss_one (ps_ret (pe_joined (PJ.cons (pe_fmt (pv 3)) (PJ.cons pe_str (PJ.cons (pe_fmt (pe_fld (pv 0) rfl)) (PJ.cons pe_str (PJ.cons (pe_fmt (pv 4)) PJ.nil)))))))))))), ?_⟩
    cases t with
    | lf c =>
      obtain ⟨hlc, dx, a, h1, h2⟩ := hx
      refine ⟨_, rfl, x, _, dx, _, .ref a, rfl, h1, T.cls, T.fp, rfl, a, _, rfl, .inr h2, rfl, _, rfl, ?_⟩
      exact iteT ⟨_, rfl, x, _, dx, _, .str (one c), rfl, h1, T.cls, T.fs, rfl, q _ (Same.refl _)⟩
    | nd c l r =>
      obtain ⟨hj, y, z, ⟨dx, a, h1, h2⟩, hy, hz⟩ := hx
      refine ⟨_, rfl, x, _, dx, _, .ref a, rfl, h1, T.cls, T.fp, rfl, a, _, rfl, .inr h2, rfl, _, rfl, ?_⟩
      refine iteF ?_
      obtain ⟨xy, wy⟩ := hy.wd
      obtain ⟨xz, wz⟩ := hz.wd
      simp only [depT] at hd
      have eb : inV (V.str (one (sgn r))) [V.str "+", V.str (one c)] = (sgn r == 43 || sgn r == c) := by
        show ((one 43 == one (sgn r)) || ((one c == one (sgn r)) || false)) = _
        simp only [beq_one, Bool.or_false]
      have q' : ∀ H', Same H H' → Q (.str (Str.empty ++ enc (c == 38 && sgn l == 43) (tx l) ++ " " ++ one c ++ " " ++ enc (sgn r == 43 || sgn r == c) (tx r))) H' := q
      have hl' : (Str.empty ++ enc (c == 38 && sgn l == 43) (tx l) ++ (" " : Str) ++ one c ++ (" " : Str) ++ enc (sgn r == 43 || sgn r == c) (tx r)).length ≤ sizeLine := hl
      clear q hl
      rw [app_len, app_len, app_len, app_len, app_len] at hl'
      refine ⟨_, rfl, x, _, dx, _, .ref a, rfl, h1, T.cls, T.fp, rfl, a, _, rfl, h2, rfl, _, _, rfl, _, _, rfl, rfl, ?_⟩
      refine ⟨_, rfl, fun v H' => v = .bl (c == 38 && sgn l == 43) ∧ H' = H, ?_, ?_⟩
      · refine ⟨_, rfl, x, _, dx, _, .str (one c), rfl, h1, T.cls, T.fs, rfl, rfl, _, rfl, ?_⟩
        rw [show decide (V.str (one c) = V.str "&") = (c == 38) from dec_one]
        refine ite2 (fun e => ?_) (fun e => ?_)
        · obtain ⟨dy, ay, hy1, hy2⟩ := id wy
          refine ⟨_, rfl, y, dy, _, rfl, hy1, y, sgn l, xy, rfl, wy, rfl, ?_, rfl⟩
          rw [show decide (V.str (one (sgn l)) = V.str "+") = (sgn l == 43) from dec_one, e, Bool.true_and]
        · rw [Bool.eq_false_iff.mpr e, Bool.false_and]
          exact ⟨rfl, rfl⟩
      rintro _ _ ⟨rfl, rfl⟩
      refine ⟨y, l, _, rfl, hy, by omega, by omega, fun H1 s1 => ?_⟩
      refine ⟨_, rfl, fun v H' => v = .bl (sgn r == 43 || sgn r == c) ∧ Same H1 H', ?_, ?_⟩
      · have wz1 := wz.same s1
        obtain ⟨dz, az, hz1, hz2⟩ := id wz1
        refine ⟨_, rfl, z, dz, _, rfl, hz1, z, sgn r, xz, rfl, wz1, _, rfl, x, _, dx, _, .str (one c), rfl, s1 _ _ h1, T.cls, T.fs, rfl, (by show 2 ≤ sizeLine; decide), fun tp htp => ⟨tp, _, rfl, .inr (SqT.of upd_same), rfl, rfl, ?_, same_new htp⟩⟩
        rw [eb]
        rfl
      rintro _ H2 ⟨rfl, s2⟩
      have s02 := s1.trans s2
      refine ⟨z, r, _, rfl, hz.same s02, by omega, by omega, fun H3 s3 => ?_⟩
      have s03 := s02.trans s3
      refine ⟨_, rfl, .inl ⟨_, rfl, sl1 (by omega), _, rfl, sl1 (by rw [app_len]; omega), _, rfl, sl1 (by rw [app_len, app_len]; omega), _, rfl, x, _, dx, _, .str (one c), rfl, s03 _ _ h1, T.cls, T.fs, rfl, .inl ⟨_, rfl, sl1 (by omega), _, rfl, sl1 (by rw [app_len, app_len, app_len]; omega), _, rfl, sl1 (by rw [app_len, app_len, app_len, app_len]; omega), _, rfl, .inl ⟨_, rfl, sl1 (by omega), _, rfl, sl1 (by rw [app_len, app_len, app_len, app_len, app_len]; exact hl'), q' _ s03⟩⟩⟩⟩
theorem ok_text {fdg fdT fdP : FuncData} (T : Txt K mg) (Y : Txm K fdT fdP fdg) : ∀ n : Nat, FnOk P w K mg base CX0 (4 + 2 * n) (He.ma K (wC K) "text") fdT ["self"] (spText K (n + 1))
  | 0 => ok_text1 T Y 0 2 (by omega) (Y.fT.ok sc_text (fun vs H Q E h => h.elim) fun _ _ _ _ _ _ _ _ _ h => h.elim)
  | n + 1 => by
    rw [show 4 + 2 * (n + 1) = (4 + 2 * n) + 2 by omega]
    exact ok_text1 T Y (n + 1) _ (by omega) (ok_text T Y n)
theorem depT_dep : ∀ t : Tr, depT t = dep t + 1
  | .lf _ => rfl
  | .nd _ l r => by
    simp only [depT, dep, depT_dep l, depT_dep r]
    omega
theorem one_len (c : Nat) : (one c).length = 1 := rfl
theorem enc_le (b : Bool) (s : Str) : (enc b s).length ≤ s.length + 2 := by
  unfold enc
  split
  · rw [app_len, app_len, app_len]
    have : (Str.empty).length = 0 := rfl
    have h2 : (("(" : Str)).length = 1 := rfl
    have h3 : ((")" : Str)).length = 1 := rfl
    omega
  · omega
theorem tx_len : ∀ t : Tr, (tx t).length + 7 ≤ 8 * 2 ^ dep t
  | .lf c => by
    show (one c).length + 7 ≤ 8 * 2 ^ 0
    rw [one_len]
    decide
  | .nd c l r => by
    have h1 := tx_len l
    have h2 := tx_len r
    have e1 := enc_le (c == 38 && sgn l == 43) (tx l)
    have e2 := enc_le (sgn r == 43 || sgn r == c) (tx r)
    have m1 : 2 ^ dep l ≤ 2 ^ max (dep l) (dep r) := Nat.pow_le_pow_right (by decide) (Nat.le_max_left _ _)
    have m2 : 2 ^ dep r ≤ 2 ^ max (dep l) (dep r) := Nat.pow_le_pow_right (by decide) (Nat.le_max_right _ _)
    show (Str.empty ++ enc (c == 38 && sgn l == 43) (tx l) ++ (" " : Str) ++ one c ++ (" " : Str) ++ enc (sgn r == 43 || sgn r == c) (tx r)).length + 7 ≤ 8 * 2 ^ (max (dep l) (dep r) + 1)
    rw [app_len, app_len, app_len, app_len, app_len, one_len, Nat.pow_succ]
    have h0 : (Str.empty).length = 0 := rfl
    have h3 : ((" " : Str)).length = 1 := rfl
    omega
theorem tx_ok {t : Tr} (h : dep t ≤ 20) : (tx t).length ≤ sizeLine := by
  have := tx_len t
  have m : 2 ^ dep t ≤ 2 ^ 20 := Nat.pow_le_pow_right (by decide) h
  have : (tx t).length ≤ 8388608 := by omega
  exact Nat.le_trans this (by decide)
/-- the text's defs -/
structure Al2 (K : PySem.W.Frag) : Prop where
  mt : Meth K (wC K) "text" (He.ma K (wC K) "text")
  fT : ∃ fd, FunD K "text" "Word.text" (defArgs sTxt) (defBody sTxt) (defScope sTxt) [] [] (He.ma K (wC K) "text") fd
def spTx (K : PySem.W.Frag) : Sp := fun vs H Q _ => ∃ (x : Addr) (t : Tr), vs = [.ref x] ∧ IsTr K H x t ∧ dep t ≤ 20 ∧ ∀ H', Same H H' → Q (.str (tx t)) H'
theorem g_tx (T : Txt K mg) (A : Al K) (B : Al2 K) : Meth K (wC K) "text" (He.ma K (wC K) "text") ∧ ∃ fd, FnOk P w K mg base CX0 44 (He.ma K (wC K) "text") fd ["self"] (spTx K) ∧ Binds K fd ["self"] [] := by
  obtain ⟨fdT, FT⟩ := B.fT
  obtain ⟨fdP, FP⟩ := A.def "part_text" iPText
  obtain ⟨fdg, Fg⟩ := A.wg
  have h : FnOk P w K mg base CX0 44 (He.ma K (wC K) "text") fdT ["self"] (spText K 21) := ok_text T ⟨B.mt, FT, FP, Fg⟩ 20
  refine ⟨B.mt, fdT, ?_, FT.bindsN fun _ _ _ _ _ _ us hl => match us, hl with | [_], _ => rfl⟩
  exact h.imp fun vs H Q E ⟨x, t, e, hx, hd, q⟩ => ⟨x, t, e, hx, by rw [depT_dep]; omega, tx_ok hd, q⟩
end
end KF

set_option Elab.async false
set_option linter.all false
set_option maxRecDepth 100000
set_option maxHeartbeats 4000000
/-! # d == 'text' -/
namespace PySem.SeqAt
open PySem PySem.Spec
section
variable {A : Around} {s : Shared}
theorem dict_eq_declines_str (l : Addr) (b : Str) (u : Tok) :
    Meets (Builtin.«dict.__eq__» ⟨[.ref l, .str b u], []⟩) (fun _ R s => s.TypeIs (.ref l) "dict" ∧ R (.ok (.ret .notImplemented)) s) :=
  .of_wp fun prog w A R s h => by
    obtain ⟨hl, h⟩ := h
    show wpAny _ _ (Builtin.Dict.dictSlotArgs "__eq__" ⟨[.ref l, .str b u], []⟩ >>= _) _ _ s
    refine wpAny_bind ?_
    unfold Builtin.Dict.dictSlotArgs
    refine wpAny_bind (wpAny_notOrdered_dict hl ?_)
    show wpAny _ _ (pure (Value.ref l, Value.str b u)) _ _ s
    refine wpAny_pure ?_
    refine wpAny_bind (wpAny_isInstance (T := "str") (U := "dict") (typeIs_str s b u) PySem.F.sub_str_dict ?_)
    simp only [Bool.not_false, if_true]
    refine wpAny_bind (wpAny_rule ?_)
    exact wpAny_pure ⟨_, rfl, h⟩
theorem str_eq_declines_ref (b : Str) (u : Tok) (l : Addr) (c : Value) (dd : Option Addr) (es : Array DictEntry) (ep : Nat) (sl : Array (Option Value)) :
    Meets (Builtin.«str.__eq__» ⟨[.str b u, .ref l], []⟩) (fun _ R s => s.heap.get? l = some { cls := c, dict := dd, data := .dict es ep, slots := sl } ∧ R (.ok (.ret .notImplemented)) s) :=
  .of_wp fun prog w A R s h => by obtain ⟨hp, g, d, tk, os⟩ := s; obtain ⟨hl, h⟩ := h; wp_walk using AutoSeq1.wpAny_loadPart' hl, wpAny_load hl; exact ⟨_, rfl, h⟩
theorem RcAt.dict_str {l : Addr} (b : Str) (u : Tok) (hl : s.TypeIs (.ref l) "dict") (hd : ∃ o es ep, s.heap.get? l = some o ∧ o.data = .dict es ep) (hu : A.units < cLine) : RcAt A s (.ref l) (.str b u) false := fun prog w E Q h => by
  obtain ⟨⟨c, dd, dt, sl⟩, es, ep, ho, hc⟩ := hd
  simp only at hc
  subst hc
  exact rc_eq_decline_or (k := false) hl (typeIs_str s b u) (by decide) F.sub_str_dict F.slot_dict_eq F.slot_str_eq_refl
    (fun _ hq => call_meets F.slot_dict_eq hl F.entry_dict_eq (F.args_dict_eq_2 _ _) (dict_eq_declines_str l b u) ⟨hl, hq⟩)
    (fun _ hq => call_meets F.slot_str_eq_refl (typeIs_str s b u) F.entry_str_eq (F.args_str_eq_2 _ _) (str_eq_declines_ref b u l c dd es ep sl) ⟨ho, hq⟩)
    (fun _ hq => wpAny_of_eq (rfl : isSame (.ref l) (.str b u) = pure false) hq) (.inr hu) h
end
end PySem.SeqAt
namespace VX
open PySem PySem.Spec PyProof.Rows L2
/-- e == 'text' where e is None, a text, a number, a dict or a tuple -/
def rEqS (K : PySem.W.Frag) : R2 := fun x y H Q => ∃ z, y = .str z ∧ ((scal x y = true ∧ Q (.bl (decide (x = y))) H) ∨ (∃ a kvs, x = .ref a ∧ H a = some (.dK kvs) ∧ Q (.bl false) H) ∨ (∃ a xs, x = .ref a ∧ SqT K H a xs ∧ Q (.bl false) H))
theorem op_eqS {X : Cx} (K : PySem.W.Frag) (hu : X.A.units < cLine) (hK : X.K = K := by rfl) : OpR X (compareOp .Eq) (rEqS K) := by
  subst hK
  intro pins s σ H x y v u Q I rx ry h
  obtain ⟨z, rfl, h⟩ := h
  rcases h with h | ⟨a, kvs, rfl, ha, q⟩ | ⟨a, xs, rfl, ha, q⟩
  · exact op_eq pins s σ H x (.str z) v u Q I rx ry h
  · obtain ⟨t, rfl⟩ := ry
    obtain rfl : v = Value.ref a := rx
    obtain ⟨_, ya, va, ra, da⟩ := (show ObjOk X.prog X.w H s.heap a (.dK kvs) from I.hok a _ ha)
    exact SeqAt.RcAt.dict_str z t da.typeIs (by obtain ⟨o, es, ep, h1, _, h2, _⟩ := id da; exact ⟨o, es, ep, h1, h2⟩) hu _ _ _ _ ⟨.bl false, H, I, rfl, q⟩
  · obtain ⟨t, rfl⟩ := ry
    obtain rfl : v = Value.ref a := rx
    obtain ⟨its, rv, tp, _⟩ := I.tuple ha
    exact SeqAt.RcAt.tuple_str z t tp hu _ _ _ _ ⟨.bl false, H, I, rfl, q⟩
end VX

set_option Elab.async false
set_option linter.all false
set_option maxRecDepth 100000
set_option maxHeartbeats 4000000
/-! # k37: verdicts, told -/
namespace KF
open PySem PySem.Spec PyProof.Rows L2 VX KW
section
variable {P : Program} {w : World} {K : PySem.W.Frag} {mg : Str → Option Value} {base : Heap} {f : Addr} {fd : FuncData}
/-! ### verdict -/
def spVd (K : PySem.W.Frag) : Sp := fun vs H Q E => ∃ (x y z : Addr) (ps qs : List Pr) (p : Pr), vs = [.ref x, .ref y, .ref z] ∧ IsFa K H x ps qs ∧ IsTr K H y p.1 ∧ IsTr K H z p.2 ∧ dep p.1 ≤ 20 ∧ dep p.2 ≤ 20 ∧ ps.length ≤ 50 ∧ qs.length ≤ 50 ∧
  (clB ps qs = true → ∀ H', Same H H' → E (.ref (cC K)) none H') ∧ (clB ps qs = false → ∀ H', Same H H' → Q (.str (vdS (vd ps qs p))) H')
theorem vd_sure {ps qs : List Pr} {p : Pr} (h : clB ps qs = false) (h2 : clB (supP ps p false) (supP qs p (!false)) = true) : vdS (vd ps qs p) = "sure" := by
  have e : decide (vd ps qs p = .sure) = true := (vd_out (p := p) h).symm.trans h2
  rw [of_decide_eq_true e]
  rfl
theorem vd_barred {ps qs : List Pr} {p : Pr} (h : clB ps qs = false) (h2 : clB (supP ps p true) (supP qs p (!true)) = true) : vdS (vd ps qs p) = "barred" := by
  have e : decide (vd ps qs p = .barred) = true := (vd_in (p := p) h).symm.trans h2
  rw [of_decide_eq_true e]
  rfl
theorem vd_open {ps qs : List Pr} {p : Pr} (h : clB ps qs = false) (h1 : clB (supP ps p false) (supP qs p (!false)) = false) (h2 : clB (supP ps p true) (supP qs p (!true)) = false) : vdS (vd ps qs p) = "open" := by
  have e1 : decide (vd ps qs p = .sure) = false := (vd_out (p := p) h).symm.trans h1
  have e2 : decide (vd ps qs p = .barred) = false := (vd_in (p := p) h).symm.trans h2
  have e3 : vd ps qs p ≠ .clash := by
    unfold vd
    rw [if_neg (by rw [h]; exact Bool.false_ne_true)]
    split
    · intro e; cases e
    · split <;> intro e <;> cases e
  have n1 := of_decide_eq_false e1
  have n2 := of_decide_eq_false e2
  cases e : vd ps qs p with
  | clash => exact absurd e e3
  | sure => exact absurd e n1
  | barred => exact absurd e n2
  | opn => rfl
abbrev nVd : List Str := ["self", "one", "other"]
theorem sc_vd : FnScope nVd ["self", "one", "other"] (defScope (sF 5)) := ⟨rfl, rfl, rfl, by decide +kernel, rfl, by decide +kernel, by decide +kernel⟩

theorem g_vd (T : Txt K mg) (A : Al K) : Meth K (fC K) "verdict" (He.ma K (fC K) "verdict") ∧ ∃ fd, FnOk P w K mg base (L2.CX P w) 32 (He.ma K (fC K) "verdict") fd ["self", "one", "other"] (spVd K) ∧ Binds K fd ["self", "one", "other"] [] := by
  obtain ⟨MM, fdM, FM, GM, BM⟩ := g_mo (P := P) (w := w) (base := base) T A
  obtain ⟨M, fd, F⟩ := A.met "verdict" 5
  refine ⟨M, fd, ?_, F.bindsN fun _ _ _ _ _ _ us hl => match us, hl with | [_, _, _], _ => rfl⟩
  refine F.ok sc_vd (fun vs H Q E h => ?_) (fun cdv A outer s H vs Q E hr h => ?_)
  · obtain ⟨x, y, z, ps, qs, p, rfl, _⟩ := h
    rfl
  · obtain ⟨x, y, z, ps, qs, p, rfl, hx, hy, hz, d1, d2, l1, l2, kE, k⟩ := h
    obtain ⟨dx, a, c, xs, us, h1, _⟩ := id hx
    obtain ⟨tsu, hsu⟩ := T.sure
    obtain ⟨tba, hba⟩ := T.barred
    obtain ⟨tq, hop⟩ := T.opn
    refine ⟨_, (pss_cons (ps_if (pt_cmpR op_isN (pe_meth (pv 0) T.fcls MM GM hr BM .nil (passes_call (takes_of rfl rfl rfl rfl) (fun _ _ _ _ h => h)) (pa_cons (pv 1) (pa_cons (pv 2) (pa_cons pe_bl pa_nil)))) pe_non (nomark _)) (pss_one (ps_ret (pe_glob (v := .str "sure") (by rfl) hsu ⟨tsu, rfl⟩))) pss_nil) (pss_one (ps_ret (pe_ifExp (pt_cmpR op_isN (pe_meth (pv 0) T.fcls MM GM hr BM .nil (passes_call (takes_of rfl rfl rfl rfl) (fun _ _ _ _ h => h)) (pa_cons (pv 1) (pa_cons (pv 2) (pa_cons pe_bl pa_nil)))) pe_non (nomark _)) (pe_glob (v := .str "barred") (by rfl) hba ⟨tba, rfl⟩) (pe_glob (v := .str "open") (by rfl) hop ⟨tq, rfl⟩))))), ?_⟩
    refine ⟨_, rfl, x, dx, _, rfl, h1, rfl, _, rfl, _, rfl, x, y, z, false, ps, qs, p, rfl, hx, hy, hz, d1, d2, l1, l2, kE, fun hc hc2 H1 s1 => ?_, fun hc hc2 H1 d s1 hd hdd => ?_⟩
    · have e := vd_sure hc hc2
      refine ⟨rfl, _, rfl, iteT ?_⟩
      rw [e] at k
      exact k hc H1 s1
    · refine ⟨rfl, _, rfl, iteF ?_⟩
      refine ⟨_, rfl, x, dx, _, rfl, s1 _ _ h1, rfl, _, rfl, _, rfl, x, y, z, true, ps, qs, p, rfl, hx.same s1, hy.same s1, hz.same s1, d1, d2, l1, l2, fun h => absurd h (by rw [hc]; exact Bool.false_ne_true), fun _ hc3 H2 s2 => ?_, fun _ hc3 H2 d2 s2 _ _ => ?_⟩
      · have e := vd_barred hc hc3
        rw [e] at k
        exact ⟨rfl, _, rfl, iteT (k hc H2 (s1.trans s2))⟩
      · have e := vd_open hc hc2 hc3
        rw [e] at k
        exact ⟨rfl, _, rfl, iteF (k hc H2 (s1.trans s2))⟩
/-! ### _law_told -/
def spTo (K : PySem.W.Frag) : Sp := fun vs H Q _ => ∃ (x y z : Addr) (ps qs : List Pr) (p : Pr), vs = [.ref x, .ref y, .ref z] ∧ IsFa K H x ps qs ∧ IsTr K H y p.1 ∧ IsTr K H z p.2 ∧ dep p.1 ≤ 20 ∧ dep p.2 ≤ 20 ∧ ps.length ≤ 50 ∧ qs.length ≤ 50 ∧
  ∀ H', Same H H' → Q (.str (vdS (vd ps qs p))) H'
theorem vd_clash {ps qs : List Pr} {p : Pr} (h : clB ps qs = true) : vdS (vd ps qs p) = "clash" := by
  unfold vd
  rw [if_pos h]
  rfl
abbrev nTo : List Str := ["_law_facts", "_law_low", "_law_high"]
theorem sc_to : FnScope nTo ["_law_facts", "_law_low", "_law_high"] (defScope (top iTold)) := ⟨rfl, rfl, rfl, by decide +kernel, rfl, by decide +kernel, by decide +kernel⟩

theorem g_to (T : Txt K mg) (A : Al K) : ∃ fd, FnP K "_law_told" iTold (He.ga K "_law_told") fd ∧ FnOk P w K mg base CX0 33 (He.ga K "_law_told") fd ["_law_facts", "_law_low", "_law_high"] (spTo K) ∧ Binds K fd ["_law_facts", "_law_low", "_law_high"] [] := by
  obtain ⟨MM, fdM, GM, BM⟩ := g_vd (P := P) (w := w) (base := base) T A
  obtain ⟨fd, F⟩ := A.def "_law_told" iTold
  refine ⟨fd, F, ?_, F.bindsN fun _ _ _ _ _ _ us hl => match us, hl with | [_, _, _], _ => rfl⟩
  refine F.ok sc_to (fun vs H Q E h => ?_) (fun cdv A outer s H vs Q E hr h => ?_)
  · obtain ⟨x, y, z, ps, qs, p, rfl, _⟩ := h
    rfl
  · obtain ⟨x, y, z, ps, qs, p, rfl, hx, hy, hz, d1, d2, l1, l2, q⟩ := h
    obtain ⟨dx, a, c, xs, us, h1, _⟩ := id hx
    refine ⟨_, PSs.nox (pss_one (ps_try_only rfl rfl ⟨rfl, by decide, .inl T.clash⟩ takes0 (fun W pn xe tk _ => pss_one (ps_ret (pe_methT (pv 0) T.fcls MM GM hr BM (fun σ => passAt tk σ) (pa_cons (pv 1) (pa_cons (pv 2) pa_nil))))) (fun a oe cls d pn _ _ => pss_one (ps_ret pe_str)))), ?_⟩
    refine ⟨_, rfl, x, dx, _, rfl, h1, rfl, _, rfl, _, rfl, x, y, z, ps, qs, p, rfl, hx, hy, hz, d1, d2, l1, l2, fun hc H1 s1 => ⟨true, T.cm, fun _ a0 _ => ?_, fun q => nomatch q⟩, fun hc H1 s1 => q _ s1⟩
    rw [vd_clash hc] at q
    exact q _ s1
/-! ### within, not_within -/
def spFw (K : PySem.W.Frag) : Sp := fun vs H Q _ => ∃ (x : Addr) (ps qs : List Pr), vs = [.ref x] ∧ IsFa K H x ps qs ∧ ∀ H' l us, Same H H' → H l = none → H' l = some (.lst us) → IsPrs K H' us ps → Q (.ref l) H'
def spFn (K : PySem.W.Frag) : Sp := fun vs H Q _ => ∃ (x : Addr) (ps qs : List Pr), vs = [.ref x] ∧ IsFa K H x ps qs ∧ ∀ H' l us, Same H H' → H l = none → H' l = some (.lst us) → IsPrs K H' us qs → Q (.ref l) H'
abbrev nFw : List Str := ["self"]
theorem sc_fw : FnScope nFw ["self"] (defScope (sF 1)) := ⟨rfl, rfl, rfl, by decide +kernel, rfl, by decide +kernel, by decide +kernel⟩

abbrev nFn : List Str := ["self"]
theorem sc_fn : FnScope nFn ["self"] (defScope (sF 2)) := ⟨rfl, rfl, rfl, by decide +kernel, rfl, by decide +kernel, by decide +kernel⟩

theorem g_fw (T : Txt K mg) (A : Al K) : PropOf K (fC K) "within" (He.ma K (fC K) "within") (fpropG K "within") ∧ ∃ fd, FnOk P w K mg base CX0 1 (fpropG K "within") fd ["self"] (spFw K) ∧ Binds K fd ["self"] [] := by
  obtain ⟨M, fd, F⟩ := A.pw
  refine ⟨M, fd, ?_, F.bindsN fun _ _ _ _ _ _ us hl => match us, hl with | [_], _ => rfl⟩
  refine F.ok sc_fw (fun vs H Q E h => ?_) (fun cdv A outer s H vs Q E hr h => ?_)
  · obtain ⟨x, ps, qs, rfl, _⟩ := h
    rfl
  · obtain ⟨x, ps, qs, rfl, hx, q⟩ := h
    obtain ⟨dx, a, c, xs, us, h1, h2, h3, h4, h5, _⟩ := hx
    refine ⟨_, PSs.nox (pss_one (ps_ret (pe_callTy call_list_of (by rfl) (T.fr "list") (by decide +kernel) (pa_cons (pe_fld (pv 0) rfl) pa_nil)))), ?_⟩
    refine ⟨_, rfl, x, _, dx, _, .ref a, rfl, h1, T.fcls, T.ffw, rfl, a, xs, rfl, ?_⟩
    refine ⟨.inr h2, fun l hl => ?_⟩
    exact q _ l xs (same_new hl) hl upd_same (h3.same (same_new hl))
theorem g_fn (T : Txt K mg) (A : Al K) : PropOf K (fC K) "not_within" (He.ma K (fC K) "not_within") (fpropG K "not_within") ∧ ∃ fd, FnOk P w K mg base CX0 1 (fpropG K "not_within") fd ["self"] (spFn K) ∧ Binds K fd ["self"] [] := by
  obtain ⟨M, fd, F⟩ := A.pn
  refine ⟨M, fd, ?_, F.bindsN fun _ _ _ _ _ _ us hl => match us, hl with | [_], _ => rfl⟩
  refine F.ok sc_fn (fun vs H Q E h => ?_) (fun cdv A outer s H vs Q E hr h => ?_)
  · obtain ⟨x, ps, qs, rfl, _⟩ := h
    rfl
  · obtain ⟨x, ps, qs, rfl, hx, q⟩ := h
    obtain ⟨dx, a, c, xs, us, h1, h2, h3, h4, h5, _⟩ := hx
    refine ⟨_, PSs.nox (pss_one (ps_ret (pe_callTy call_list_of (by rfl) (T.fr "list") (by decide +kernel) (pa_cons (pe_fld (pv 0) rfl) pa_nil)))), ?_⟩
    refine ⟨_, rfl, x, _, dx, _, .ref c, rfl, h1, T.fcls, T.ffn, rfl, c, us, rfl, ?_⟩
    refine ⟨.inr h4, fun l hl => ?_⟩
    exact q _ l us (same_new hl) hl upd_same (h5.same (same_new hl))
end
end KF

set_option Elab.async false
set_option linter.all false
set_option maxRecDepth 100000
set_option maxHeartbeats 4000000
/-! # k37: what the facts give back -/
namespace KF
open PySem PySem.Spec PyProof.Rows L2 VX KW
section
variable {P : Program} {w : World} {K : PySem.W.Frag} {mg : Str → Option Value} {base : Heap} {f : Addr} {fd : FuncData}
/-! ### texts of pairs -/
def pD (p : Pr) : PyData := .tuple [.str (tx p.1), .str (tx p.2)]
def IsTx (H : Hp) (v : V) (p : Pr) : Prop := ∃ a, v = .ref a ∧ H a = some (.tup [.str (tx p.1), .str (tx p.2)])
inductive IsTxs (H : Hp) : List V → List Pr → Prop
  | nil : IsTxs H [] []
  | cons {v : V} {vs : List V} {p : Pr} {ps : List Pr} : IsTx H v p → IsTxs H vs ps → IsTxs H (v :: vs) (p :: ps)
theorem IsTxs.mono {H H' : Hp} (k : ∀ a u, H a = some (.tup u) → H' a = some (.tup u)) {vs : List V} {ps : List Pr} (h : IsTxs H vs ps) : IsTxs H' vs ps := by
  induction h with
  | nil => exact .nil
  | cons h _ ih =>
    obtain ⟨a, e, h⟩ := h
    exact .cons ⟨a, e, k _ _ h⟩ ih
theorem IsTxs.same {H H' : Hp} (s : Same H H') {vs : List V} {ps : List Pr} (h : IsTxs H vs ps) : IsTxs H' vs ps := h.mono fun a u e => s _ _ e
theorem IsTxs.add {H : Hp} {v : V} {p : Pr} (q : IsTx H v p) : ∀ {vs : List V} {ps : List Pr}, IsTxs H vs ps → IsTxs H (vs ++ [v]) (ps ++ [p])
  | _, _, .nil => .cons q .nil
  | _, _, .cons h t => .cons h (t.add q)
theorem IsTxs.dp {H : Hp} {vs : List V} {ps : List Pr} (h : IsTxs H vs ps) : DpAll K H vs (ps.map pD) := by
  induction h with
  | nil => exact .nil
  | cons h _ ih =>
    obtain ⟨a, rfl, h⟩ := h
    exact .cons (.tup (SqT.of h) (.cons (.str _) (.cons (.str _) .nil))) ih
def PsOk (ps : List Pr) : Prop := ∀ p ∈ ps, WF p.1 = true ∧ WF p.2 = true
theorem IsPrs.ok {H : Hp} {vs : List V} {ps : List Pr} (h : IsPrs K H vs ps) : PsOk ps := fun p hp => by
  obtain ⟨i, hi, e⟩ := List.mem_iff_getElem.mp hp
  obtain ⟨a, x, y, _, _, hx, hy, _⟩ := h.2 i _ p (List.getElem?_eq_getElem (by rw [h.1]; exact hi)) (by rw [List.getElem?_eq_getElem hi, e])
  exact ⟨hx.wf, hy.wf⟩
theorem strOk_app {a b : Str} (h1 : PyData.strOk a = true) (h2 : PyData.strOk b = true) : PyData.strOk (a ++ b) = true := by
  unfold PyData.strOk at *
  show (a.cps ++ b.cps).all _ = true
  rw [Array.all_append, h1, h2]
  rfl
theorem strOk_enc {b : Bool} {s : Str} (h : PyData.strOk s = true) : PyData.strOk (enc b s) = true := by
  unfold enc
  split
  · exact strOk_app (strOk_app (strOk_app (by decide +kernel) (by decide +kernel)) h) (by decide +kernel)
  · exact h
theorem strOk_1 {c : Nat} (h : leafC c = true ∨ jointC c = true) : PyData.strOk (one c) = true := by
  have := strOk_one h
  simpa only [PyData.canLay0] using this
theorem tx_strOk : ∀ {t : Tr}, WF t = true → PyData.strOk (tx t) = true
  | .lf c, h => strOk_1 (.inl h)
  | .nd c l r, h => by
    simp only [WF, Bool.and_eq_true] at h
    exact strOk_app (strOk_app (strOk_app (strOk_app (strOk_app (by decide +kernel) (strOk_enc (tx_strOk h.1.2))) (by decide +kernel)) (strOk_1 (.inr h.1.1))) (by decide +kernel)) (strOk_enc (tx_strOk h.2))
theorem pD_lay : ∀ {ps : List Pr}, PsOk ps → PyData.canLayAll0 (ps.map pD) = true ∧ PyData.depthAll (ps.map pD) ≤ 2
  | [], _ => ⟨rfl, by simp [PyData.depthAll]⟩
  | p :: ps, h => by
    obtain ⟨h1, h2⟩ := pD_lay (ps := ps) fun q hq => h q (.tail _ hq)
    obtain ⟨a, b⟩ := h p (.head _)
    refine ⟨?_, ?_⟩
    · simp only [List.map_cons, pD, PyData.canLayAll0, PyData.canLay0, h1, tx_strOk a, tx_strOk b, Bool.and_self]
    · simp only [List.map_cons, pD, PyData.depthAll, PyData.depth]
      omega
def pL (ps qs : List Pr) : PyData := .list [.list (ps.map pD), .list (qs.map pD)]
theorem pL_lay {ps qs : List Pr} (h1 : PsOk ps) (h2 : PsOk qs) : PyData.canLay0 (pL ps qs) = true := by
  unfold pL
  simp only [PyData.canLay0, PyData.canLayAll0, (pD_lay h1).1, (pD_lay h2).1, Bool.and_self]
theorem pL_shaped {ps qs : List Pr} (h1 : PsOk ps) (h2 : PsOk qs) : SeqAt.shaped (pL ps qs) = true := by
  show ((pL ps qs).canLay0 && decide ((pL ps qs).depth ≤ 64)) = true
  rw [pL_lay h1 h2, decide_eq_true (by
    have := (pD_lay h1).2
    have := (pD_lay h2).2
    unfold pL
    simp only [PyData.depth, PyData.depthAll]
    omega)]
  rfl
inductive Ls (H : Hp) (D : Addr) : List V → List (List Pr) → Prop
  | nil : Ls H D [] []
  | cons {v : V} {vs : List V} {ps : List Pr} {pss : List (List Pr)} : (∃ c us, v = .ref c ∧ c ≠ D ∧ H c = some (.lst us) ∧ IsTxs H us ps) → Ls H D vs pss → Ls H D (v :: vs) (ps :: pss)
theorem Ls.mono {H H' : Hp} {D : Addr} (k1 : ∀ a o, H a = some o → a ≠ D → H' a = some o) (k2 : ∀ a u, H a = some (.tup u) → H' a = some (.tup u)) {vs : List V} {pss : List (List Pr)} (h : Ls H D vs pss) : Ls H' D vs pss := by
  induction h with
  | nil => exact .nil
  | cons h _ ih =>
    obtain ⟨c, us, e, n, h1, h2⟩ := h
    exact .cons ⟨c, us, e, n, k1 _ _ h1 n, h2.mono k2⟩ ih
theorem Ls.add {H : Hp} {D : Addr} {v : V} {ps : List Pr} (q : ∃ c us, v = .ref c ∧ c ≠ D ∧ H c = some (.lst us) ∧ IsTxs H us ps) : ∀ {vs : List V} {pss : List (List Pr)}, Ls H D vs pss → Ls H D (vs ++ [v]) (pss ++ [ps])
  | _, _, .nil => .cons q .nil
  | _, _, .cons h t => .cons h (t.add q)
theorem Ls.dp {H : Hp} {D : Addr} {vs : List V} {pss : List (List Pr)} (h : Ls H D vs pss) : DpAll K H vs (pss.map fun ps => .list (ps.map pD)) := by
  induction h with
  | nil => exact .nil
  | cons h _ ih =>
    obtain ⟨c, us, rfl, _, h1, h2⟩ := h
    exact .cons (.lst (SqL.of h1) h2.dp) ih
/-! ### _law_same -/
theorem pi_listK {X : Cx} {tg l : Expr} {tl : TE} (K : PySem.W.Frag) (hl : PE X l tl) (hK : X.K = K := by rfl) : PI X tg l (iList K tl) := by
  subst hK
  exact pi_list hl
def spSm (K : PySem.W.Frag) : Sp := fun vs H Q _ => ∃ (x l lf : Addr) (ws us : List V) (ps qs : List Pr), vs = [.ref x, .ref l, .ref lf] ∧ IsFa K H x ps qs ∧ H l = some (.lst ws) ∧ IsPrs K H ws ps ∧ H lf = some (.lst us) ∧ IsPrs K H us qs ∧ ps.length ≤ 1000 ∧ qs.length ≤ 1000 ∧ ∀ H', Same H H' → Q (.bl true) H'
abbrev nSm : List Str := ["_law_facts", "_law_near", "_law_far", "_law_told_here", "_law_low", "_law_high", "_law_pairs"]
theorem sc_sm : FnScope nSm ["_law_facts", "_law_near", "_law_far"] (defScope (top iSame)) := ⟨rfl, rfl, rfl, by decide +kernel, rfl, by decide +kernel, by decide +kernel⟩

theorem g_sm (T : Txt K mg) (A : Al K) (B : Al2 K) : ∃ fd, FnP K "_law_same" iSame (He.ga K "_law_same") fd ∧ FnOk P w K mg base CX0 46 (He.ga K "_law_same") fd ["_law_facts", "_law_near", "_law_far"] (spSm K) ∧ Binds K fd ["_law_facts", "_law_near", "_law_far"] [] := by
  obtain ⟨MT, fdT, GT, BT⟩ := g_tx (P := P) (w := w) (base := base) T A B
  obtain ⟨MWi, fdWi, GWi, BWi⟩ := g_fw (P := P) (w := w) (base := base) T A
  obtain ⟨MNw, fdNw, GNw, BNw⟩ := g_fn (P := P) (w := w) (base := base) T A
  obtain ⟨fd, F⟩ := A.def "_law_same" iSame
  refine ⟨fd, F, ?_, F.bindsN fun _ _ _ _ _ _ us hl => match us, hl with | [_, _, _], _ => rfl⟩
  refine F.ok sc_sm (fun vs H Q E h => ?_) (fun cdv A outer s H vs Q E hr h => ?_)
  · obtain ⟨x, l, lf, ws, us, ps, qs, rfl, _⟩ := h
    rfl
  · obtain ⟨x, l, lf, ws, us, ps, qs, rfl, hx, hl, hws, hf, hus, hpl, hql, q⟩ := h
    have nd := sc_sm.nd
    have hr1 : Room (1 + 1) _ := hr.mono (by decide)
    have hrt : Room 44 _ := hr.mono (by decide)
    have hu64 := hr.units
    obtain ⟨dx, xa, xc, xxs, xus, hx1, _⟩ := id hx
    refine ⟨_, PSs.nox (pss_cons (ps_set (i := 3) nd rfl (.inl rfl) (pe_lst (pa_cons (pe_lc (own := [("_law_low", 4), ("_law_high", 5)]) (g := gTup K 2 (gCons (gName 4) (gCons (gName 5) gNil))) (by rfl) nd (pi_list (pe_prop (pv 0) T.fcls MWi GWi hr1 BWi .nil pass0 rfl)) (blkOk_by (own := [("_law_low", 4), ("_law_high", 5)]) (N := nSm) (sc := defScope (top iSame)) (by decide +kernel)) (fun _ _ _ _ _ => pg_tup (by rfl) (pgs_cons (pg_name (i := 4) nd rfl (Or.inl rfl)) (pgs_cons (pg_name (i := 5) nd rfl (Or.inl rfl)) pgs_nil))) (fun _ _ _ _ _ => pts_nil) (fun _ _ _ _ _ => pe_tup (pa_cons (pe_meth0 (pv 4) T.cls MT GT hrt BT .nil pass0) (pa_cons (pe_meth0 (pv 5) T.cls MT GT hrt BT .nil pass0) pa_nil)))) pa_nil))) (pss_cons (ps_expr (pe_bm PySem.F.plainAttrs_list PySem.F.slot_list_append PySem.F.type_list_append mt_append (pv 3) (pa_cons (pe_lc (own := [("_law_low", 4), ("_law_high", 5)]) (g := gTup K 2 (gCons (gName 4) (gCons (gName 5) gNil))) (by rfl) nd (pi_list (pe_prop (pv 0) T.fcls MNw GNw hr1 BNw .nil pass0 rfl)) (blkOk_by (own := [("_law_low", 4), ("_law_high", 5)]) (N := nSm) (sc := defScope (top iSame)) (by decide +kernel)) (fun _ _ _ _ _ => pg_tup (by rfl) (pgs_cons (pg_name (i := 4) nd rfl (Or.inl rfl)) (pgs_cons (pg_name (i := 5) nd rfl (Or.inl rfl)) pgs_nil))) (fun _ _ _ _ _ => pts_nil) (fun _ _ _ _ _ => pe_tup (pa_cons (pe_meth0 (pv 4) T.cls MT GT hrt BT .nil pass0) (pa_cons (pe_meth0 (pv 5) T.cls MT GT hrt BT .nil pass0) pa_nil)))) pa_nil))) (pss_cons (ps_expr (pe_bm0 PySem.F.plainAttrs_list PySem.F.slot_list_clear PySem.F.type_list_clear mt_clear (pe_prop (pv 0) T.fcls MWi GWi hr1 BWi .nil pass0 rfl))) (pss_cons (ps_expr (pe_bm0 PySem.F.plainAttrs_list PySem.F.slot_list_clear PySem.F.type_list_clear mt_clear (pe_prop (pv 0) T.fcls MNw GNw hr1 BNw .nil pass0 rfl))) (pss_one (ps_ret (pe_cmpR (op_eqD hu64) (pv 3) (pe_lc (own := [("_law_pairs", 6)]) (g := gName 6) (by rfl) nd (pi_list (pe_lst (pa_cons (pv 1) (pa_cons (pv 2) pa_nil)))) (blkOk_by (own := [("_law_pairs", 6)]) (N := nSm) (sc := defScope (top iSame)) (by decide +kernel)) (fun _ _ _ _ _ => pg_name (i := 6) nd rfl (Or.inl rfl)) (fun _ _ _ _ _ => pts_nil) (fun _ _ _ _ _ => pe_lc (own := [("_law_low", 4), ("_law_high", 5)]) (g := gTup K 2 (gCons (gName 4) (gCons (gName 5) gNil))) (by rfl) nd (pi_listK K (pv 6)) (blkOk_by (own := [("_law_low", 4), ("_law_high", 5)]) (N := nSm) (sc := { kind := .function, names := [(".0", .local), ("_law_pairs", .local)], isGenerator := false, isCoroutine := false }) (by decide +kernel)) (fun _ _ _ _ _ => pg_tup (by rfl) (pgs_cons (pg_name (i := 4) nd rfl (Or.inl rfl)) (pgs_cons (pg_name (i := 5) nd rfl (Or.inl rfl)) pgs_nil))) (fun _ _ _ _ _ => pts_nil) (fun _ _ _ _ _ => pe_tup (pa_cons (pe_meth0 (pv 4) T.cls MT GT hrt BT .nil pass0) (pa_cons (pe_meth0 (pv 5) T.cls MT GT hrt BT .nil pass0) pa_nil))))) (nomark _)))))))), ?_⟩
    refine ⟨_, rfl, x, dx, _, rfl, hx1, x, ps, qs, rfl, hx, fun H1 l1 w1 s1 _ hl1 hw1 => ⟨_, rfl, ⟨_, SqL.of hl1⟩, fun D hD => ?_⟩⟩
    refine lc_it (walk_list (K := K) (a := l1) (xs := w1)) (fun i H' => Same H1 H' ∧ ∃ vs, H' D = some (.lst vs) ∧ vs.length = i ∧ IsTxs H' vs (ps.take i)) ⟨same_new hD, [], upd_same, rfl, .nil⟩ (fun i H' _ z => SqL.of (z.1 _ _ hl1)) ?_ ?_
    · rintro i v Ha Hb hi ⟨sm, vs, hDl, hvl, hvs⟩ ⟨rfl, hv⟩
      obtain ⟨p, hpi, a, x1, y1, rfl, ha, hx1, hy1, d1, d2⟩ := (hw1).at hv
      refine ⟨a, _, rfl, SqT.same sm ha, rfl, _, _, rfl, _, _, rfl, rfl, rfl, yes_if ?_⟩
      have hx1 := hx1.same sm
      have hy1 := hy1.same sm
      obtain ⟨xs1, dx1, f1, e1, _⟩ := hx1.wd
      refine ⟨_, rfl, x1, dx1, _, rfl, e1, rfl, x1, p.1, rfl, hx1, d1, fun H3 s3 => ?_⟩
      have hy1 := hy1.same s3
      obtain ⟨ys1, dy1, f2, e2, _⟩ := hy1.wd
      refine ⟨_, rfl, y1, dy1, _, rfl, e2, rfl, y1, p.2, rfl, hy1, d2, fun H4 s4 => ?_⟩
      refine ⟨(by show 2 ≤ sizeLine; decide), fun t ht => ?_⟩
      have s5 := same_new (o := .tup [.str (tx p.1), .str (tx p.2)]) ht
      have s35 := s3.trans (s4.trans s5)
      have hD5 := s35 _ _ hDl
      refine ⟨vs, hD5, lt_line (by have := (hw1).1; omega), Same.grow (sm.trans s35) hD, vs ++ [.ref t], upd_same, by simp [hvl], ?_⟩
      rw [take_one hpi]
      have kl : ∀ a u, upd H4 t (.tup [.str (tx p.1), .str (tx p.2)]) a = some (.tup u) → upd (upd H4 t (.tup [.str (tx p.1), .str (tx p.2)])) D (.lst (vs ++ [.ref t])) a = some (.tup u) := fun a u e => by
        rw [upd_ne (fun z => by rw [z, hD5] at e; cases e)]
        exact e
      exact ((hvs.mono fun a u e => s35 _ _ e).add ⟨t, rfl, upd_same⟩).mono kl
    · rintro H2 ⟨s2, v1, hDl, hvl, hv1⟩
      rw [hw1.1, List.take_length] at hv1
      refine ⟨(by show 1 ≤ sizeLine; decide), fun l0 hl0 => ?_⟩
      have s3 := same_new (o := .lst [.ref D]) hl0
      have s13 := s1.trans (s2.trans s3)
      have hD3 := s3 _ _ hDl
      have hv3 := hv1.same s3
      have h03 : upd H2 l0 (.lst [.ref D]) l0 = some (.lst [.ref D]) := upd_same
      have n0 : H l0 = none := (s1.trans s2).free hl0
      have n1 : D ≠ l0 := fun e => by rw [e, hl0] at hDl; cases hDl
      generalize upd H2 l0 (.lst [.ref D]) = H3 at s13 hD3 hv3 h03
      clear s3 hl0 s2 hv1 hDl hD
      -- the second
      refine ⟨_, rfl, .inl ⟨rfl, _, SqL.of h03⟩, _, rfl, x, dx, _, rfl, s13 _ _ hx1, x, ps, qs, rfl, hx.same s13, fun H4 l2 w2 s4 _ hl2 hw2 => ⟨_, rfl, ⟨_, SqL.of hl2⟩, fun D2 hD2 => ?_⟩⟩
      refine lc_it (walk_list (K := K) (a := l2) (xs := w2)) (fun i H' => Same H4 H' ∧ ∃ vs, H' D2 = some (.lst vs) ∧ vs.length = i ∧ IsTxs H' vs (qs.take i)) ⟨same_new hD2, [], upd_same, rfl, .nil⟩ (fun i H' _ z => SqL.of (z.1 _ _ hl2)) ?_ ?_
      · rintro i v Ha Hb hi ⟨sm, vs, hDl, hvl, hvs⟩ ⟨rfl, hv⟩
        obtain ⟨p, hpi, a, x1, y1, rfl, ha, hx1, hy1, d1, d2⟩ := (hw2).at hv
        refine ⟨a, _, rfl, SqT.same sm ha, rfl, _, _, rfl, _, _, rfl, rfl, rfl, yes_if ?_⟩
        have hx1 := hx1.same sm
        have hy1 := hy1.same sm
        obtain ⟨xs1, dx1, f1, e1, _⟩ := hx1.wd
        refine ⟨_, rfl, x1, dx1, _, rfl, e1, rfl, x1, p.1, rfl, hx1, d1, fun H3 s3 => ?_⟩
        have hy1 := hy1.same s3
        obtain ⟨ys1, dy1, f2, e2, _⟩ := hy1.wd
        refine ⟨_, rfl, y1, dy1, _, rfl, e2, rfl, y1, p.2, rfl, hy1, d2, fun H4 s4 => ?_⟩
        refine ⟨(by show 2 ≤ sizeLine; decide), fun t ht => ?_⟩
        have s5 := same_new (o := .tup [.str (tx p.1), .str (tx p.2)]) ht
        have s35 := s3.trans (s4.trans s5)
        have hD5 := s35 _ _ hDl
        refine ⟨vs, hD5, lt_line (by have := (hw2).1; omega), Same.grow (sm.trans s35) hD2, vs ++ [.ref t], upd_same, by simp [hvl], ?_⟩
        rw [take_one hpi]
        have kl : ∀ a u, upd H4 t (.tup [.str (tx p.1), .str (tx p.2)]) a = some (.tup u) → upd (upd H4 t (.tup [.str (tx p.1), .str (tx p.2)])) D2 (.lst (vs ++ [.ref t])) a = some (.tup u) := fun a u e => by
          rw [upd_ne (fun z => by rw [z, hD5] at e; cases e)]
          exact e
        exact ((hvs.mono fun a u e => s35 _ _ e).add ⟨t, rfl, upd_same⟩).mono kl
      · rintro H5 ⟨s5, v2, hDl2, hvl2, hv2⟩
        rw [hw2.1, List.take_length] at hv2
        have s45 := s4.trans s5
        have h05 := s45 _ _ h03
        refine ⟨l0, _, _, rfl, rfl, h05, lt_line (by show 1 ≤ 100000; decide), ?_⟩
        have n2 : D2 ≠ l0 := fun e => by rw [← e] at h03; rw [s4 _ _ h03] at hD2; cases hD2
        have t5 : ∀ a u, H5 a = some (.tup u) → upd H5 l0 (.lst ([V.ref D] ++ [V.ref D2])) a = some (.tup u) := fun a u e => by
          rw [upd_ne (fun z => by rw [z, h05] at e; cases e)]
          exact e
        have hD6 : upd H5 l0 (.lst ([V.ref D] ++ [V.ref D2])) D = some (.lst v1) := by rw [upd_ne n1]; exact s45 _ _ hD3
        have hD26 : upd H5 l0 (.lst ([V.ref D] ++ [V.ref D2])) D2 = some (.lst v2) := by rw [upd_ne n2]; exact hDl2
        have hv16 := (hv3.same s45).mono t5
        have hv26 := hv2.mono t5
        have h06 : upd H5 l0 (.lst ([V.ref D] ++ [V.ref D2])) l0 = some (.lst [V.ref D, V.ref D2]) := upd_same
        have s06 : Same H (upd H5 l0 (.lst ([V.ref D] ++ [V.ref D2]))) := Same.grow (s13.trans s45) n0
        generalize upd H5 l0 (.lst ([V.ref D] ++ [V.ref D2])) = H6 at hD6 hD26 hv16 hv26 h06 s06
        clear t5 hv2 hDl2 hvl2 s5 s45 h05 s4 hD2 hv3 hD3 h03 s13 n0 n1 n2
        -- cleared
        refine ⟨_, rfl, x, dx, _, rfl, s06 _ _ hx1, x, ps, qs, rfl, hx.same s06, fun H7 l3 w3 s7 hn3 hl3 _ => ?_⟩
        refine ⟨.inl ⟨rfl, _, SqL.of hl3⟩, l3, _, rfl, rfl, hl3, ?_⟩
        have s67 : Same H6 (upd H7 l3 (.lst [])) := Same.grow s7 hn3
        generalize upd H7 l3 (.lst []) = H8 at s67
        refine ⟨_, rfl, x, dx, _, rfl, s67 _ _ (s06 _ _ hx1), x, ps, qs, rfl, (hx.same s06).same s67, fun H9 l4 w4 s9 hn4 hl4 _ => ?_⟩
        refine ⟨.inl ⟨rfl, _, SqL.of hl4⟩, l4, _, rfl, rfl, hl4, ?_⟩
        have s6A : Same H6 (upd H9 l4 (.lst [])) := s67.trans (Same.grow s9 hn4)
        generalize upd H9 l4 (.lst []) = HA at s6A
        have hlA := s6A _ _ (s06 _ _ hl)
        have hfA := s6A _ _ (s06 _ _ hf)
        have hwsA := (hws.same s06).same s6A
        have husA := (hus.same s06).same s6A
        have h0A := s6A _ _ h06
        have hDA := s6A _ _ hD6
        have hD2A := s6A _ _ hD26
        have hv1A := hv16.same s6A
        have hv2A := hv26.same s6A
        have s0A := s06.trans s6A
        -- the lists given
        refine ⟨_, rfl, _, rfl, _, rfl, (by show 2 ≤ sizeLine; decide), fun lq hlq => ⟨lq, rfl, ⟨_, SqL.of upd_same⟩, fun D0 hD0 => ?_⟩⟩
        have sB := same_new (o := .lst [.ref l, .ref lf]) hlq
        have hq0 : upd HA lq (.lst [.ref l, .ref lf]) lq = some (.lst [.ref l, .ref lf]) := upd_same
        generalize upd HA lq (.lst [.ref l, .ref lf]) = HB at sB hq0 hD0
        have hlB := sB _ _ hlA
        have hfB := sB _ _ hfA
        have hwsB := hwsA.same sB
        have husB := husA.same sB
        refine lc_it (walk_list (K := K) (a := lq) (xs := [.ref l, .ref lf])) (fun i H' => Same HB H' ∧ ∃ as, H' D0 = some (.lst as) ∧ as.length = i ∧ Ls H' D0 as ([ps, qs].take i)) ⟨same_new hD0, [], upd_same, rfl, .nil⟩ (fun i H' _ z => SqL.of (z.1 _ _ hq0)) ?_ ?_
        · rintro i v Hc Hd hi ⟨sm0, as, hD0l, hal, hls⟩ ⟨rfl, hv⟩
          have hm : ∃ m ms pq, v = .ref m ∧ HB m = some (.lst ms) ∧ IsPrs K HB ms pq ∧ [ps, qs][i]? = some pq ∧ pq.length ≤ 1000 := by
            match i, hv with
            | 0, hv => cases hv; exact ⟨l, ws, ps, rfl, hlB, hwsB, rfl, hpl⟩
            | 1, hv => cases hv; exact ⟨lf, us, qs, rfl, hfB, husB, rfl, hql⟩
            | n + 2, hv => cases hv
          obtain ⟨m, ms, pq, rfl, hm1, hm2, hpq, hpql⟩ := hm
          have hm1 := sm0 _ _ hm1
          have hm2 := hm2.same sm0
          refine ⟨rfl, yes_if ?_⟩
          refine ⟨_, rfl, m, rfl, ⟨_, SqL.of hm1⟩, fun D3 hD3 => ?_⟩
          refine lc_it (walk_list (K := K) (a := m) (xs := ms)) (fun i H' => Same Hd H' ∧ ∃ vs, H' D3 = some (.lst vs) ∧ vs.length = i ∧ IsTxs H' vs (pq.take i)) ⟨same_new hD3, [], upd_same, rfl, .nil⟩ (fun i H' _ z => SqL.of (z.1 _ _ hm1)) ?_ ?_
          · rintro i v Ha Hb hi ⟨sm, vs, hDl, hvl, hvs⟩ ⟨rfl, hv⟩
            obtain ⟨p, hpi, a, x1, y1, rfl, ha, hx1, hy1, d1, d2⟩ := (hm2).at hv
            refine ⟨a, _, rfl, SqT.same sm ha, rfl, _, _, rfl, _, _, rfl, rfl, rfl, yes_if ?_⟩
            have hx1 := hx1.same sm
            have hy1 := hy1.same sm
            obtain ⟨xs1, dx1, f1, e1, _⟩ := hx1.wd
            refine ⟨_, rfl, x1, dx1, _, rfl, e1, rfl, x1, p.1, rfl, hx1, d1, fun H3 s3 => ?_⟩
            have hy1 := hy1.same s3
            obtain ⟨ys1, dy1, f2, e2, _⟩ := hy1.wd
            refine ⟨_, rfl, y1, dy1, _, rfl, e2, rfl, y1, p.2, rfl, hy1, d2, fun H4 s4 => ?_⟩
            refine ⟨(by show 2 ≤ sizeLine; decide), fun t ht => ?_⟩
            have s5 := same_new (o := .tup [.str (tx p.1), .str (tx p.2)]) ht
            have s35 := s3.trans (s4.trans s5)
            have hD5 := s35 _ _ hDl
            refine ⟨vs, hD5, lt_line (by have := (hm2).1; omega), Same.grow (sm.trans s35) hD3, vs ++ [.ref t], upd_same, by simp [hvl], ?_⟩
            rw [take_one hpi]
            have kl : ∀ a u, upd H4 t (.tup [.str (tx p.1), .str (tx p.2)]) a = some (.tup u) → upd (upd H4 t (.tup [.str (tx p.1), .str (tx p.2)])) D3 (.lst (vs ++ [.ref t])) a = some (.tup u) := fun a u e => by
              rw [upd_ne (fun z => by rw [z, hD5] at e; cases e)]
              exact e
            exact ((hvs.mono fun a u e => s35 _ _ e).add ⟨t, rfl, upd_same⟩).mono kl
          · rintro He ⟨se, v3, hDl3, hvl3, hv3⟩
            rw [hm2.1, List.take_length] at hv3
            have hD0e := se _ _ hD0l
            have nD : D3 ≠ D0 := fun e => by rw [← e] at hD0l; rw [hD0l] at hD3; cases hD3
            refine ⟨as, hD0e, lt_line (by rw [hal]; have : i < 2 := hi; omega), Same.grow (sm0.trans se) hD0, as ++ [.ref D3], upd_same, by simp [hal], ?_⟩
            rw [List.take_succ, hpq]
            have k1 : ∀ a o, He a = some o → a ≠ D0 → upd He D0 (.lst (as ++ [V.ref D3])) a = some o := fun a o e n => by rw [upd_ne n]; exact e
            have k2 : ∀ a u, He a = some (.tup u) → upd He D0 (.lst (as ++ [V.ref D3])) a = some (.tup u) := fun a u e => k1 a _ e fun z => by rw [z, hD0e] at e; cases e
            exact ((hls.mono (fun a o e _ => se _ _ e) fun a u e => se _ _ e).mono k1 k2).add ⟨D3, v3, rfl, nD, k1 _ _ hDl3 nD, hv3.mono k2⟩
        · rintro HC ⟨sC, as, hD0l, hal, hls⟩
          have sAC := sB.trans sC
          have ok1 := hws.ok
          have ok2 := hus.ok
          refine ⟨pL ps qs, pL ps qs, .lst (SqL.of (sAC _ _ h0A)) (.cons (.lst (SqL.of (sAC _ _ hDA)) (hv1A.same sAC).dp) (.cons (.lst (SqL.of (sAC _ _ hD2A)) (hv2A.same sAC).dp) .nil)), .lst (SqL.of hD0l) hls.dp, pL_shaped ok1 ok2, pL_shaped ok1 ok2, ?_⟩
          rw [SeqAt.eqv_refl _ (pL_lay ok1 ok2)]
          exact q _ (s0A.trans sAC)
end
end KF

set_option Elab.async false
set_option linter.all false
set_option maxRecDepth 100000
set_option maxHeartbeats 4000000
/-! # k37: the law -/
namespace KF
open PySem PySem.Spec PyProof.Rows L2 VX KW
section
variable {P : Program} {w : World} {K : PySem.W.Frag} {mg : Str → Option Value} {base : Heap} {f : Addr} {fd : FuncData}
structure Std (K : PySem.W.Frag) (H : Hp) (ln lf x ld : Addr) (xs us : List V) (ps qs : List Pr) : Prop where
  hn : H ln = some (.lst xs)
  hps : IsTPs H xs ps
  hf : H lf = some (.lst us)
  hqs : IsTPs H us qs
  fa : IsFa K H x ps qs
  due : H ld = some (.lst (kvL (opK ps)))
theorem Std.same {H H' : Hp} {ln lf x ld : Addr} {xs us : List V} {ps qs : List Pr} (s : Same H H') (h : Std K H ln lf x ld xs us ps qs) : Std K H' ln lf x ld xs us ps qs := ⟨s _ _ h.hn, h.hps.same s, s _ _ h.hf, h.hqs.same s, h.fa.same s, s _ _ h.due⟩
theorem Std.kept {H H' : Hp} {b ln lf x ld : Addr} {xs us : List V} {ps qs : List Pr} {N : Nat} (k : Kept b H H') (hb : BoxK H b N) (n1 : ln ≠ b) (n2 : lf ≠ b) (n3 : ld ≠ b) (h : Std K H ln lf x ld xs us ps qs) : Std K H' ln lf x ld xs us ps qs := by
  obtain ⟨o, ho, lo⟩ := box_lse hb
  exact ⟨k _ _ h.hn n1, h.hps.keep ho lo k, k _ _ h.hf n2, h.hqs.keep ho lo k, h.fa.keep ho lo k, k _ _ h.due n3⟩
theorem g_box (T : Txt K mg) (A : Al K) : ∃ fd, FnP K "_law_box" iBox (He.ga K "_law_box") fd ∧ FnOk P w K mg base CX0 2 (He.ga K "_law_box") fd ["_law_script", "_law_k"] (spBox K) ∧ Binds K fd ["_law_script", "_law_k"] [] := by
  obtain ⟨fd, F⟩ := A.def "_law_box" iBox
  obtain ⟨fdC, FC⟩ := A.def "_law_cell" iCell
  exact ⟨fd, F, ok_box F T FC, F.bindsN fun _ _ _ _ _ _ us hl => match us, hl with | [_, _], _ => rfl⟩
theorem mk_empty {H : Hp} {R : VK} {da db x dx : Addr} {E : XK} (hda : ∀ H, SqT K H da []) (hdb : ∀ H, SqT K H db []) (hx : H x = none) (hdx : H dx = none) (ne : dx ≠ x) (h : ∀ H', Same H H' → IsFa K H' x [] [] → R .non H') : spFI K [.ref x, .ref da, .ref db] (upd (upd H dx (.own x)) x (.ins (fC K) dx [])) R E := by
  have s6 : Same H (upd (upd H dx (.own x)) x (.ins (fC K) dx [])) := same_two hdx (by rw [upd_ne (Ne.symm ne)]; exact hx)
  exact ⟨x, da, db, dx, [], [], [], [], rfl, upd_same, .inr (hda _), .nil, .inr (hdb _), .nil, by simp, by simp, fun H' k fa => h H' (fun c o q => k c o (s6 _ _ q) (ne_of_none q hx)) fa⟩
def spLaw (K : PySem.W.Frag) : Sp := fun vs H Q _ => ∃ (l : Addr) (ns : List Int), vs = [.ref l] ∧ SqL K H l (ns.map V.int) ∧ ∀ H', Q (.bl true) H'
abbrev nLaw : List Str := ["_law_script", "_law_box_here", "_law_near", "_law_far", "_law_inside", "_law_outside", "_law_facts", "_law_due", "_law_clash", "_law_turn", "_law_low", "_law_high", "_law_first", "_law_second", "_law_told_here", "_law_fresh", "_law_plain_told", "_law_asked"]
theorem sc_law : FnScope nLaw ["_law_script"] (defScope (top iLaw)) := ⟨rfl, rfl, rfl, by decide +kernel, rfl, by decide +kernel, by decide +kernel⟩

theorem ok_law (F : FnP K "law" iLaw f fd) (T : Txt K mg) (A : Al K) (B : Al2 K) : FnOk P w K mg base CX0 47 f fd ["_law_script"] (spLaw K) := by
  obtain ⟨fdX, FX, GX, BX⟩ := g_box (P := P) (w := w) (base := base) T A
  obtain ⟨fdD, FD, GD, BD⟩ := g_dr (P := P) (w := w) (base := base) T A
  obtain ⟨fdS, FS, GS, BS⟩ := g_wo (P := P) (w := w) (base := base) T A
  obtain ⟨fdQ, FQ, GQ, BQ⟩ := g_qu (P := P) (w := w) (base := base) T A
  obtain ⟨fdV, FV, GV, BV⟩ := g_ve (P := P) (w := w) (base := base) T A
  obtain ⟨fdT, FT, GT, BT⟩ := g_to (P := P) (w := w) (base := base) T A
  obtain ⟨fdW, FW, GW, BW⟩ := g_lword (P := P) (w := w) (base := base) T A
  obtain ⟨fdK, FK, GK, BK⟩ := g_ki (P := P) (w := w) (base := base) T A
  obtain ⟨fdL, FL, GL, BL⟩ := g_le (P := P) (w := w) (base := base) T A
  obtain ⟨fdC, FC, GC, BC⟩ := g_la (P := P) (w := w) (base := base) T A
  obtain ⟨fdSm, FSm, GSm, BSm⟩ := g_sm (P := P) (w := w) (base := base) T A B
  obtain ⟨fdF, GF', KB, KB2, da, db, dsF, hF0, BF0, hda, hdb⟩ := fa_kb A
  have GF : FnOk P w K mg base CX0 1 (He.ma K (fC K) "__init__") fdF ["self", "within", "not_within"] (spFI K) := GF' T
  obtain ⟨MN, fdN, GN, BN⟩ := g_knd (P := P) (w := w) (base := base) T A
  obtain ⟨MCl, fdCl, GCl, BCl⟩ := g_cl (P := P) (w := w) (base := base) T A
  obtain ⟨fdWI, aw, FWI, haw⟩ := A.wi
  obtain ⟨fdf, Ff⟩ := A.def "fits" iFits
  have Z : Wif K fdWI (.ref aw) fdf := ⟨FWI, Ff, aw, rfl, haw⟩
  have GWI : FnOk P w K mg base CX0 2 _ fdWI ["self", "sign", "parts"] (spWI K) := ok_wi Z.fi T Z.ft
  obtain ⟨dsW, h0, BI0⟩ := Z.b0
  refine F.ok sc_law (fun vs H Q E h => ?_) (fun cdv A0 outer s H vs Q E hr h => ?_)
  · obtain ⟨l, ns, rfl, _⟩ := h
    rfl
  · obtain ⟨l, ns, rfl, hs, k⟩ := h
    have nd := sc_law.nd
    have hrx : Room 2 _ := hr.mono (by decide)
    have hrd : Room 11 _ := hr.mono (by decide)
    have hrs : Room 25 _ := hr.mono (by decide)
    have hrF : Room (1 + 1) _ := hr.mono (by decide)
    have hrW : Room (2 + 1) _ := hr.mono (by decide)
    have hrv : Room 26 _ := hr.mono (by decide)
    have hrto : Room 33 _ := hr.mono (by decide)
    have hrwd : Room 24 _ := hr.mono (by decide)
    have hrk : Room 1 _ := hr.mono (by decide)
    have hrn : Room 28 _ := hr.mono (by decide)
    have hrcl : Room 29 _ := hr.mono (by decide)
    have hu0 := hr.units0
    refine ⟨_, PSs.nox (pss_cons (ps_set (i := 1) nd rfl (.inl rfl) (pe_call GX hrx (by rfl) (T.df "_law_box" iBox) FX.kp BX .nil pass0 (pa_cons (pv 0) (pa_cons pe_int pa_nil)))) (pss_cons (ps_set (i := 2) nd rfl (.inl rfl) (pe_call GD hrd (by rfl) (T.df "_law_drawn" iDrawn) FD.kp BD .nil pass0 (pa_cons (pv 1) (pa_cons pe_int pa_nil)))) (pss_cons (ps_set (i := 3) nd rfl (.inl rfl) (pe_call GD hrd (by rfl) (T.df "_law_drawn" iDrawn) FD.kp BD .nil pass0 (pa_cons (pv 1) (pa_cons pe_int pa_nil)))) (pss_cons (ps_set (i := 4) nd rfl (.inl rfl) (pe_call GS hrs (by rfl) (T.df "_law_words" iWords) FS.kp BS .nil pass0 (pa_cons (pv 2) pa_nil))) (pss_cons (ps_set (i := 5) nd rfl (.inl rfl) (pe_call GS hrs (by rfl) (T.df "_law_words" iWords) FS.kp BS .nil pass0 (pa_cons (pv 3) pa_nil))) (pss_cons (ps_set (i := 6) nd rfl (.inl rfl) (pe_makeK0 T.fmk GF hrF (by rfl) T.facts KB pass0 (pk_cons (pv 4) (pk_cons (pv 5) pk_nil)))) (pss_cons (ps_if (PW.pt (pw_or (pt_cmpR op_ne (pe_callB call_len_seq (by rfl) (T.fr "len") boot_len (pa_cons (pv 4) pa_nil)) (pe_callB call_len_seq (by rfl) (T.fr "len") boot_len (pa_cons (pv 2) pa_nil)) (nomark _)) (pw_or1 (pt_cmpR op_ne (pe_callB call_len_seq (by rfl) (T.fr "len") boot_len (pa_cons (pv 5) pa_nil)) (pe_callB call_len_seq (by rfl) (T.fr "len") boot_len (pa_cons (pv 3) pa_nil)) (nomark _))))) (pss_one (ps_ret pe_bl)) pss_nil) (pss_cons (ps_expr (pe_bm PySem.F.plainAttrs_list PySem.F.slot_list_append PySem.F.type_list_append mt_append (pv 4) (pa_cons (pe_tup (pa_cons (pe_make T.mks GWI hrW (by rfl) T.word BI0 h0 pass0 (pa_cons pe_str pa_nil)) (pa_cons (pe_make T.mks GWI hrW (by rfl) T.word BI0 h0 pass0 (pa_cons pe_str pa_nil)) pa_nil))) pa_nil))) (pss_cons (ps_expr (pe_bm0 PySem.F.plainAttrs_list PySem.F.slot_list_clear PySem.F.type_list_clear mt_clear (pv 5))) (pss_cons (ps_set (i := 7) nd rfl (.inl rfl) (pe_call GL hrs (by rfl) (T.df "_law_left" iLeft) FL.kp BL .nil pass0 (pa_cons (pv 2) pa_nil))) (pss_cons (ps_set (i := 8) nd rfl (.inl rfl) (pe_cmpR (op_neN K hu0) (pe_call GC hrwd (by rfl) (T.df "_law_lacking" iLack) FC.kp BC .nil pass0 (pa_cons (pv 3) (pa_cons (pv 7) pa_nil))) (pe_lst pa_nil) (nomark _))) (pss_cons (ps_for PassesOwn.never rfl (pi_range1 (by rfl) (T.fr "range") (pa_cons pe_int pa_nil)) (pg_name (i := 9) nd rfl (.inl rfl)) (pss_cons (ps_asg (pe_call GQ hrd (by rfl) (T.df "_law_question" iQuest) FQ.kp BQ .nil pass0 (pa_cons (pv 1) (pa_cons (pv 2) (pa_cons (pv 3) pa_nil)))) (pg_tup (by rfl) (pgs_cons (pg_name (i := 10) nd rfl (.inl rfl)) (pgs_cons (pg_name (i := 11) nd rfl (.inl rfl)) pgs_nil)))) (pss_cons (ps_set (i := 12) nd rfl (.inl rfl) (pe_call GW hrwd (by rfl) (T.df "_law_word" iLWord) FW.kp BW .nil pass0 (pa_cons (pv 10) pa_nil))) (pss_cons (ps_set (i := 13) nd rfl (.inl rfl) (pe_call GW hrwd (by rfl) (T.df "_law_word" iLWord) FW.kp BW .nil pass0 (pa_cons (pv 11) pa_nil))) (pss_cons (ps_set (i := 14) nd rfl (.inl rfl) (pe_call GV hrv (by rfl) (T.df "_law_verdict" iVerd) FV.kp BV .nil pass0 (pa_cons (pv 2) (pa_cons (pv 3) (pa_cons (pv 10) (pa_cons (pv 11) pa_nil)))))) (pss_cons (ps_set (i := 15) nd rfl (.inl rfl) (pe_makeK0 T.fmk GF hrF (by rfl) T.facts KB2 pass0 (pk_cons (pe_callTy (call_tupK K) (by rfl) (T.fr "tuple") (by decide +kernel) (pa_cons (pe_call GS hrs (by rfl) (T.df "_law_words" iWords) FS.kp BS .nil pass0 (pa_cons (pv 3) pa_nil)) pa_nil)) (pk_cons (pe_callTy (call_tupK K) (by rfl) (T.fr "tuple") (by decide +kernel) (pa_cons (pe_call GS hrs (by rfl) (T.df "_law_words" iWords) FS.kp BS .nil pass0 (pa_cons (pv 2) pa_nil)) pa_nil)) pk_nil)))) (pss_cons (ps_set (i := 16) nd rfl (.inl rfl) (pe_call GV hrv (by rfl) (T.df "_law_verdict" iVerd) FV.kp BV .nil pass0 (pa_cons (pe_lst pa_nil) (pa_cons (pe_lst pa_nil) (pa_cons (pv 10) (pa_cons (pv 11) pa_nil)))))) (pss_cons (ps_for PassesOwn.never rfl (pi_list (pe_lst (pa_cons (pv 6) (pa_cons (pv 15) (pa_cons (pv 6) pa_nil))))) (pg_name (i := 17) nd rfl (.inl rfl)) (pss_cons (ps_if (PW.pt (pw_or (pt_cmpR op_ne (pe_call GT hrto (by rfl) (T.df "_law_told" iTold) FT.kp BT .nil pass0 (pa_cons (pv 17) (pa_cons (pv 12) (pa_cons (pv 13) pa_nil)))) (pv 14) (nomark _)) (pw_or (pt_cmpR op_ne (pe_meth0 (pv 17) T.fcls MCl GCl hrcl BCl .nil pass0) (pv 8) (nomark _)) (pw_or1 (pt_cmpR (op_neF K hu0) (pe_meth0 (pv 17) T.fcls MN GN hrn BN .nil pass0) (pv 7) (nomark _)))))) (pss_one (ps_ret pe_bl)) pss_nil) (pss_one (ps_if (pt_cmpR op_ne (pe_call GT hrto (by rfl) (T.df "_law_told" iTold) FT.kp BT .nil pass0 (pa_cons (pe_make0 T.fmk GF hrF (by rfl) T.facts BF0 hF0 pass0) (pa_cons (pv 12) (pa_cons (pv 13) pa_nil)))) (pv 16) (nomark _)) (pss_one (ps_ret pe_bl)) pss_nil)))) (pss_cons (ps_expr (pe_bm0 PySem.F.plainAttrs_list PySem.F.slot_list_clear PySem.F.type_list_clear mt_clear (pe_meth0 (pv 6) T.fcls MN GN hrn BN .nil pass0))) (pss_one (ps_if (pt_not (pt_val (pe_call GSm hr (by rfl) (T.df "_law_same" iSame) FSm.kp BSm .nil pass0 (pa_cons (pv 6) (pa_cons (pe_call GS hrs (by rfl) (T.df "_law_words" iWords) FS.kp BS .nil pass0 (pa_cons (pv 2) pa_nil)) (pa_cons (pe_call GS hrs (by rfl) (T.df "_law_words" iWords) FS.kp BS .nil pass0 (pa_cons (pv 3) pa_nil)) pa_nil)))))) (pss_one (ps_ret pe_bl)) pss_nil))))))))))) (pss_one (ps_ret (pe_and (pe_cmpR (op_eqF K hu0) (pe_meth0 (pe_make0 T.fmk GF hrF (by rfl) T.facts BF0 hF0 pass0) T.fcls MN GN hrn BN .nil pass0) (pe_call0 GK hrk (by rfl) (T.df "_law_kinds" iKinds) FK.kp BK .nil pass0) (nomark _)) (pe_one (pe_cmpR op_isBl (pe_meth0 (pe_make0 T.fmk GF hrF (by rfl) T.facts BF0 hF0 pass0) T.fcls MCl GCl hrcl BCl .nil pass0) pe_bl (nomark _)))))))))))))))))), ?_⟩
    refine ⟨_, rfl, l, ns, 0, rfl, hs, by decide, fun b H1 hb s1 bx => ?_⟩
    refine ⟨_, rfl, b, 0, rfl, bx, by omega, fun H2 ln xs ps k2 b2 hn hps hpl nb => ?_⟩
    refine ⟨_, rfl, b, 0 + 100, rfl, b2, by omega, fun H3 lf us qs k3 b3 hf hqs hql fb => ?_⟩
    obtain ⟨o2, ho2, lo2⟩ := box_lse b2
    have hn3 := k3 _ _ hn nb
    have hps3 := hps.keep ho2 lo2 k3
    refine ⟨_, rfl, ln, xs, ps, rfl, hn3, hps3, by omega, fun H4 l1 ws1 s4 fl1 hl1 hw1 => ?_⟩
    refine ⟨_, rfl, lf, us, qs, rfl, s4 _ _ hf, hqs.same s4, by omega, fun H5 l2 ws2 s5 fl2 hl2 hw2 => ?_⟩
    refine ⟨_, rfl, _, rfl, rfl, rfl, fun x dx hx hdx ne => ?_⟩
    have s6 : Same H5 (upd (upd H5 dx (.own x)) x (.ins (fC K) dx [])) := same_two hdx (by rw [upd_ne (Ne.symm ne)]; exact hx)
    refine ⟨x, l1, l2, dx, ws1, ws2, ps, qs, rfl, upd_same, .inl (SqL.of (s6 _ _ (s5 _ _ hl1))), (hw1.same s5).same s6, .inl (SqL.of (s6 _ _ hl2)), hw2.same s6, by omega, by omega, fun H6 k6 fa6 => ⟨rfl, ?_⟩⟩
    have s56 : Same H5 H6 := fun c o q => k6 c o (s6 _ _ q) (ne_of_none q hx)
    have s36 := s4.trans (s5.trans s56)
    have hl1' := s6 _ _ (s5 _ _ hl1)
    have hl16 : H6 l1 = some (.lst ws1) := k6 _ _ hl1' (ne_of_none (s5 _ _ hl1) hx)
    have hl26 : H6 l2 = some (.lst ws2) := k6 _ _ (s6 _ _ hl2) (ne_of_none hl2 hx)
    have hn6 := s36 _ _ hn3
    have hps6 := hps3.same s36
    have hf6 := s36 _ _ hf
    have hqs6 := hqs.same s36
    have b6 := b3.same s36
    have n1 : ln ≠ l1 := ne_of_none hn3 fl1
    have n2 : lf ≠ l1 := ne_of_none hf fl1
    have n3 : ln ≠ l2 := ne_of_none (s4 _ _ hn3) fl2
    have n4 : lf ≠ l2 := ne_of_none (s4 _ _ hf) fl2
    have m1 : b ≠ l1 := by obtain ⟨xs, hx⟩ := b3.at; exact ne_of_none hx fl1
    have m2 : b ≠ l2 := by obtain ⟨xs, hx⟩ := b3.at; exact ne_of_none (s4 _ _ hx) fl2
    have m12 : l2 ≠ l1 := Ne.symm (ne_of_none hl1 fl2)
    have e1 : ws1.length = xs.length := hw1.1.trans hps.1.symm
    have e2 : ws2.length = us.length := hw2.1.trans hqs.1.symm
    clear k6 s6 hl1' s56 s36 hn3 hps3 hx hdx
    refine ⟨_, rfl, l1, _, rfl, .inl (SqL.of hl16), _, rfl, ln, _, rfl, .inl (SqL.of hn6), rfl, ?_⟩
    rw [e1, show (!decide (V.int (xs.length : Nat) = V.int (xs.length : Nat))) = false from by rw [decide_eq_true rfl]; rfl]
    refine ⟨_, rfl, iteF ?_⟩
    refine ⟨_, rfl, l2, _, rfl, .inl (SqL.of hl26), _, rfl, lf, _, rfl, .inl (SqL.of hf6), rfl, ?_⟩
    rw [e2, show (!decide (V.int (us.length : Nat) = V.int (us.length : Nat))) = false from by rw [decide_eq_true rfl]; rfl]
    refine ⟨_, rfl, iteF ?_⟩
    -- inside.append
    refine ⟨_, rfl, .inl ⟨rfl, _, SqL.of hl16⟩, ?_⟩
    refine fun x1 d1 hx1 hd1 ne1 => ?_
    have t1 : Same H6 (upd (upd H6 d1 (.own x1)) x1 (.ins (wC K) d1 [])) := same_two hd1 (by rw [upd_ne (Ne.symm ne1)]; exact hx1)
    refine ⟨x1, 49, aw, [], d1, rfl, upd_same, .inr (haw _), rfl, (by show 0 ≤ 1000; decide), fun H7 k7 _ => ⟨rfl, ?_⟩⟩
    have s67 : Same H6 H7 := fun c o z => k7 c o (t1 _ _ z) (ne_of_none z hx1)
    clear k7 t1
    refine fun x2 d2 hx2 hd2 ne2 => ?_
    have t1 : Same H7 (upd (upd H7 d2 (.own x2)) x2 (.ins (wC K) d2 [])) := same_two hd2 (by rw [upd_ne (Ne.symm ne2)]; exact hx2)
    refine ⟨x2, 48, aw, [], d2, rfl, upd_same, .inr (haw _), rfl, (by show 0 ≤ 1000; decide), fun H8 k8 _ => ⟨rfl, ?_⟩⟩
    have s68 : Same H6 H8 := s67.trans fun c o z => k8 c o (t1 _ _ z) (ne_of_none z hx2)
    clear k8 t1
    refine ⟨(by show 2 ≤ sizeLine; decide), fun tp htp => ?_⟩
    have s9 := s68.trans (same_new (o := .tup [.ref x1, .ref x2]) htp)
    generalize upd H8 tp (.tup [.ref x1, .ref x2]) = H9 at s9
    refine ⟨l1, _, _, rfl, rfl, s9 _ _ hl16, lt_line (by have := hw1.1; omega), ?_⟩
    have kA : Kept l1 H6 (upd H9 l1 (.lst (ws1 ++ [.ref tp]))) := fun c o z ne => by rw [upd_ne ne]; exact s9 _ _ z
    generalize upd H9 l1 (.lst (ws1 ++ [.ref tp])) = HA at kA
    have hl2A := kA _ _ hl26 m12
    refine ⟨_, rfl, .inl ⟨rfl, _, SqL.of hl2A⟩, l2, _, rfl, rfl, hl2A, ?_⟩
    have kB : Kept l2 HA (upd HA l2 (.lst [])) := fun c o z ne => by rw [upd_ne ne]; exact z
    generalize upd HA l2 (.lst []) = HB at kB
    have hnB := kB _ _ (kA _ _ hn6 n1) n3
    have hfB := kB _ _ (kA _ _ hf6 n2) n4
    have hpsB := (hps6.keep hl16 (.lst _) kA).keep hl2A (.lst _) kB
    have hqsB := (hqs6.keep hl16 (.lst _) kA).keep hl2A (.lst _) kB
    have faB := (fa6.keep hl16 (.lst _) kA).keep hl2A (.lst _) kB
    have bB : BoxK HB b (0 + 100 + 100) := by
      obtain ⟨y1, y2, y3, hb, r⟩ := b6
      exact ⟨y1, y2, y3, kB _ _ (kA _ _ hb m1) m2, r⟩
    clear kA kB s9 s68 s67 hl16 hl26 hl2A hn6 hps6 hf6 hqs6 fa6
    -- due, clash
    refine ⟨_, rfl, ln, xs, ps, rfl, SqL.of hnB, hpsB, by omega, fun HC ld sC hld hldd => ?_⟩
    refine ⟨_, rfl, _, rfl, lf, ld, us, qs, opK ps, rfl, SqL.of (sC _ _ hfB), hqsB.same sC, by omega, SqL.of hldd, Nat.le_trans (List.length_filter_le _ _) (by decide), fun HD lc sD hlc hlcc => ⟨(by show 0 ≤ sizeLine; decide), fun e he => ?_⟩⟩
    refine ⟨lc, e, _, rfl, rfl, SqL.of (same_new he _ _ hlcc), SqL.of upd_same, ?_⟩
    have sE := sC.trans (sD.trans (same_new (o := .lst []) he))
    have hldE := (sD.trans (same_new (o := .lst []) he)) _ _ hldd
    generalize upd HD e (.lst []) = HE at sE hldE
    simp only [Bool.false_eq_true, if_false, List.isEmpty_map, ← clB_lack]
    have st : Std K HE ln lf x ld xs us ps qs := ⟨sE _ _ hnB, hpsB.same sE, sE _ _ hfB, hqsB.same sE, faB.same sE, hldE⟩
    have bE := bB.same sE
    have ndb : ld ≠ b := by obtain ⟨ys, hy⟩ := bB.at; exact Ne.symm (ne_of_none hy hld)
    clear sE hldE hlcc hlc he sD sC hnB hpsB hfB hqsB faB hldd hld
    refine ⟨3, rfl, by decide, by decide, for_it (walk_range (lo := 0) (n := (3 : Int).toNat)) (fun i σ H' => (∃ y9 y10 y11 y12 y13 y14 y15 y16 y17, σ = [some (V.ref l), some (V.ref b), some (V.ref ln), some (V.ref lf), some (V.ref l1), some (V.ref l2), some (V.ref x), some (V.ref ld), some (V.bl (clB ps qs)), y9, y10, y11, y12, y13, y14, y15, y16, y17]) ∧ BoxK H' b (200 + 100 * i) ∧ Std K H' ln lf x ld xs us ps qs) ⟨⟨_, _, _, _, _, _, _, _, _, rfl⟩, bE, st⟩ (fun _ _ _ _ _ => trivial) ?_ ?_⟩
    · rintro i v σ Ha Hb hi ⟨⟨y9, y10, y11, y12, y13, y14, y15, y16, y17, rfl⟩, bx, st⟩ ⟨rfl, rfl⟩
      have hi3 : i < 3 := hi
      refine ⟨_, rfl, _, rfl, _, rfl, b, ln, lf, _, xs, us, ps, qs, rfl, bx, by omega, st.hn, st.hps, st.hf, st.hqs, by omega, by omega, fun H1 v p k1 b1 hq => ?_⟩
      have st := st.kept k1 bx nb fb ndb
      obtain ⟨a, u, z, rfl, ha, hu1, hz, d1, d2⟩ := hq
      refine ⟨a, _, rfl, SqT.of ha, rfl, _, _, rfl, _, _, rfl, rfl, ?_⟩
      refine ⟨_, rfl, u, p.1, rfl, hu1, d1, fun H2 x3 s2 tx => ?_⟩
      refine ⟨_, rfl, z, p.2, rfl, hz.same s2, d2, fun H3 x4 s3 ty => ?_⟩
      have tx := tx.same s3
      have s13 := s2.trans s3
      refine ⟨_, rfl, _, rfl, _, rfl, _, rfl, ln, lf, xs, us, ps, qs, u, z, p, rfl, SqL.of (st.same s13).hn, (st.same s13).hps, by omega, SqL.of (st.same s13).hf, (st.same s13).hqs, by omega, hu1.same s13, hz.same s13, d1, d2, fun H4 s4 => ?_⟩
      -- fresh
      have st4 := (st.same s13).same s4
      refine ⟨_, rfl, lf, us, qs, rfl, st4.hf, st4.hqs, by omega, fun H5 l3 ws3 s5 _ hl3 hw3 => ?_⟩
      refine tup_use (.inl (SqL.of hl3)) fun t3 H6 s6 ht3 => ?_
      have st6 := (st4.same s5).same s6
      refine ⟨_, rfl, ln, xs, ps, rfl, st6.hn, st6.hps, by omega, fun H7 l4 ws4 s7 _ hl4 hw4 => ?_⟩
      refine tup_use (.inl (SqL.of hl4)) fun t4 H8 s8 ht4 => ?_
      refine ⟨rfl, rfl, fun xf dx hx hdx ne => ?_⟩
      have s9 : Same H8 (upd (upd H8 dx (.own xf)) xf (.ins (fC K) dx [])) := same_two hdx (by rw [upd_ne (Ne.symm ne)]; exact hx)
      refine ⟨xf, t4, t3, dx, ws4, ws3, ps, qs, rfl, upd_same, .inr (SqT.same s9 ht4), (hw4.same s8).same s9, .inr (SqT.same s9 (SqT.same s8 (SqT.same s7 ht3))), (((hw3.same s6).same s7).same s8).same s9, by omega, by omega, fun HA kA faA => ⟨rfl, ?_⟩⟩
      have s6A : Same H6 HA := s7.trans (s8.trans fun c o q => kA c o (s9 _ _ q) (ne_of_none q hx))
      have stA := st6.same s6A
      have s1A : Same H1 HA := s13.trans (s4.trans (s5.trans (s6.trans s6A)))
      have txA : IsTr K HA x3 p.1 := ((tx.same s4).same s5).same (s6.trans s6A)
      have tyA : IsTr K HA x4 p.2 := ((ty.same s4).same s5).same (s6.trans s6A)
      have huA := hu1.same s1A
      have hzA := hz.same s1A
      have bA := b1.same s1A
      clear kA s6A s9 hx hdx ne ht4 hl4 hw4 st6 ht3 hl3 hw3 st4
      -- plain
      refine ⟨(by show 0 ≤ sizeLine; decide), fun e1 he1 => ⟨(by show 0 ≤ sizeLine; decide), fun e2 he2 => ?_⟩⟩
      have sB := (same_new (o := .lst []) he1).trans (same_new (o := .lst []) he2)
      have g1 : upd (upd HA e1 (.lst [])) e2 (.lst []) e1 = some (.lst []) := same_new he2 _ _ upd_same
      have g2 : upd (upd HA e1 (.lst [])) e2 (.lst []) e2 = some (.lst []) := upd_same
      refine ⟨_, rfl, _, rfl, e1, e2, [], [], [], [], u, z, p, rfl, SqL.of g1, .nil, by simp, SqL.of g2, .nil, by simp, huA.same sB, hzA.same sB, d1, d2, fun HC sC => ?_⟩
      have sAC := sB.trans sC
      clear sB sC g1 g2 he1 he2
      generalize hvd : vdS (vd ps qs p) = tv
      generalize hvp : vdS (vd [] [] p) = tp0
      refine ⟨_, rfl, _, rfl, _, rfl, (by show 3 ≤ sizeLine; decide), fun lp hlp => ⟨lp, rfl, ⟨_, SqL.of upd_same⟩, ?_⟩⟩
      have sD := sAC.trans (same_new (o := .lst [.ref x, .ref xf, .ref x]) hlp)
      have hlp3 : upd HC lp (.lst [.ref x, .ref xf, .ref x]) lp = some (.lst [.ref x, .ref xf, .ref x]) := upd_same
      generalize upd HC lp (.lst [.ref x, .ref xf, .ref x]) = HD at sD hlp3
      have st := stA.same sD
      have fx := faA.same sD
      have tx := txA.same sD
      have ty := tyA.same sD
      have bD := bA.same sD
      clear stA faA txA tyA bA huA hzA sAC hlp
      refine for_it (walk_list (K := K) (a := lp) (xs := [.ref x, .ref xf, .ref x])) (fun j σ H' => (∃ y, σ = [some (V.ref l), some (V.ref b), some (V.ref ln), some (V.ref lf), some (V.ref l1), some (V.ref l2), some (V.ref x), some (V.ref ld), some (V.bl (clB ps qs)), some (V.int (0 + (i : Nat))), some u, some z, some (V.ref x3), some (V.ref x4), some (V.str tv), some (V.ref xf), some (V.str tp0), y]) ∧ Same HD H') ⟨⟨_, rfl⟩, Same.refl _⟩ (fun j σ H' _ y => SqL.of (y.2 _ _ hlp3)) ?_ ?_
      · rintro j v1 σ Hc Hd hj ⟨⟨y, rfl⟩, sj⟩ ⟨rfl, hv⟩
        obtain ⟨q, rfl, fq⟩ : ∃ q, v1 = .ref q ∧ IsFa K HD q ps qs := by
          match j, hv with
          | 0, hv => cases hv; exact ⟨_, rfl, st.fa⟩
          | 1, hv => cases hv; exact ⟨_, rfl, fx⟩
          | 2, hv => cases hv; exact ⟨_, rfl, st.fa⟩
          | n + 3, hv => cases hv
        have fq := fq.same sj
        have tx := tx.same sj
        have ty := ty.same sj
        have due := sj _ _ st.due
        refine ⟨_, rfl, _, rfl, _, rfl, q, x3, x4, ps, qs, p, rfl, fq, tx, ty, d1, d2, by omega, by omega, fun H4 s4 => ?_⟩
        rw [hvd]
        refine ⟨_, rfl, rfl, ?_⟩
        rw [decide_eq_true rfl]
        refine ⟨_, rfl, iteF ?_⟩
        obtain ⟨dq, _, _, _, _, hq1, _⟩ := id (fq.same s4)
        refine ⟨_, rfl, q, dq, _, rfl, hq1, rfl, q, ps, qs, rfl, fq.same s4, fun H5 s5 => ⟨_, rfl, rfl, ?_⟩⟩
        rw [decide_eq_true rfl]
        refine ⟨_, rfl, iteF ?_⟩
        refine ⟨_, rfl, q, dq, _, rfl, s5 _ _ hq1, rfl, q, ps, qs, rfl, (fq.same s4).same s5, fun H6 l5 s6 _ hl5 => ⟨_, rfl, l5, ld, _, _, rfl, rfl, SqL.of hl5, SqL.of (s6 _ _ (s5 _ _ (s4 _ _ due))), kv_flat _, kv_flat _, _, rfl, ?_⟩⟩
        have s46 := s4.trans (s5.trans s6)
        simp only [Bool.false_eq_true, if_false, eqLV_kv, decide_true, Bool.not_true]
        refine fun x7 dxx7 hxx7 hdxx7 nex7 => mk_empty hda hdb hxx7 hdxx7 nex7 fun H7 s7 f7 => ⟨rfl, ?_⟩
        have s47 := s46.trans s7
        refine ⟨_, rfl, _, rfl, x7, x3, x4, [], [], p, rfl, f7, tx.same s47, ty.same s47, d1, d2, by simp, by simp, fun H8 s8 => ?_⟩
        rw [hvp]
        refine ⟨_, rfl, rfl, ?_⟩
        rw [decide_eq_true rfl]
        exact ⟨_, rfl, iteF ⟨⟨_, rfl⟩, sj.trans (s47.trans s8)⟩⟩
      · rintro σ Hc ⟨⟨y, rfl⟩, sj⟩
        have st := st.same sj
        obtain ⟨dq, _, _, _, _, hq1, _⟩ := id st.fa
        refine ⟨_, rfl, x, dq, _, rfl, hq1, rfl, x, ps, qs, rfl, st.fa, fun H6 l5 s6 hn5 hl5 => ⟨.inl ⟨rfl, _, SqL.of hl5⟩, l5, _, rfl, rfl, hl5, ?_⟩⟩
        have s7 : Same Hc (upd H6 l5 (.lst [])) := Same.grow s6 hn5
        generalize upd H6 l5 (.lst []) = H7 at s7
        have st := st.same s7
        refine ⟨_, rfl, _, rfl, ln, xs, ps, rfl, st.hn, st.hps, by omega, fun H8 l6 ws6 s8 _ hl6 hw6 => ?_⟩
        have st := st.same s8
        refine ⟨_, rfl, lf, us, qs, rfl, st.hf, st.hqs, by omega, fun H9 l8 ws8 s9 _ hl8 hw8 => ?_⟩
        have st := st.same s9
        refine ⟨x, l6, l8, ws6, ws8, ps, qs, rfl, st.fa, s9 _ _ hl6, hw6.same s9, hl8, hw8, by omega, by omega, fun HE' sE => ⟨_, rfl, iteF ?_⟩⟩
        exact ⟨⟨_, _, _, _, _, _, _, _, _, rfl⟩, ((((((bD.same sj).same s7).same s8).same s9).same sE)).mono (by omega), st.same sE⟩
    · rintro σ Ha ⟨⟨y9, y10, y11, y12, y13, y14, y15, y16, y17, rfl⟩, bx, st⟩
      refine fun x7 dxx7 hxx7 hdxx7 nex7 => mk_empty hda hdb hxx7 hdxx7 nex7 fun H7 s7 f7 => ⟨rfl, ?_⟩
      obtain ⟨dq, _, _, _, _, hq1, _⟩ := id f7
      refine ⟨x7, dq, _, rfl, hq1, rfl, x7, [], [], rfl, f7, fun H8 l8 s8 hn8 hl8 => ?_⟩
      refine ⟨rfl, fun lk hlk => ⟨l8, lk, _, _, rfl, rfl, SqL.of (same_new hlk _ _ hl8), SqL.of upd_same, kv_flat _, kv_flat _, ?_⟩⟩
      simp only [if_true, eqLV_kv]
      rw [show decide (opK [] = kinds) = true from by decide]
      refine ⟨_, rfl, iteT ?_⟩
      refine fun x9 dxx9 hxx9 hdxx9 nex9 => mk_empty hda hdb hxx9 hdxx9 nex9 fun H9 s9 f9 => ⟨rfl, ?_⟩
      obtain ⟨d9, _, _, _, _, hq9, _⟩ := id f9
      refine ⟨x9, d9, _, rfl, hq9, rfl, x9, [], [], rfl, f9, fun HZ sZ => ?_⟩
      exact ⟨_, _, rfl, rfl, k HZ⟩
end
end KF

set_option Elab.async false
set_option linter.all false
set_option maxRecDepth 100000
set_option maxHeartbeats 0
/-! ## the facts of the top -/
namespace KF
open PySem PySem.Spec PyProof.Rows L2 VX KW
def dvA (K : PySem.W.Frag) : Addr := He.dflAt ("Word", some "__init__") 0 K
/-- a keyword-only default of Facts.__init__ -/
def kwA (x : Str) (K : PySem.W.Frag) : Addr := match K.lookup (He.ma K (fC K) "__init__") with
  | some ⟨_, _, .func fd, _⟩ => (match fd.kwdefaults with
    | .ref D => (match PySem.W.nsIn K D x with
      | some (some (.ref a)) => a
      | _ => 0)
    | _ => 0)
  | _ => 0
def dD (x : Str) (i : Nat) : He5.DefA := ⟨fun K => He.ga K x, x, x, defArgs (top i), defBody (top i), defScope (top i), [], []⟩
def dI : He5.DefA := ⟨fun K => He.ma K (wC K) "__init__", "__init__", "Word.__init__", defArgs sWI, defBody sWI, defScope sWI, [.adr dvA], []⟩
def dP (m : Str) (st : Stmt) : He5.DefA := ⟨fun K => propG K m, m, ("Word." : Str) ++ m, defArgs st, defBody st, defScope st, [], []⟩
def dFI : He5.DefA := ⟨fun K => He.ma K (fC K) "__init__", "__init__", "Facts.__init__", defArgs (sF 0), defBody (sF 0), defScope (sF 0), [], [("within", .adr (kwA "within")), ("not_within", .adr (kwA "not_within"))]⟩
def dFP (m : Str) (i : Nat) : He5.DefA := ⟨fun K => fpropG K m, m, ("Facts." : Str) ++ m, defArgs (sF i), defBody (sF i), defScope (sF i), [], []⟩
def dM (x : Str) (i : Nat) : He5.DefA := ⟨fun K => He.ma K (fC K) x, x, ("Facts." : Str) ++ x, defArgs (sF i), defBody (sF i), defScope (sF i), [], []⟩
def dT : He5.DefA := ⟨fun K => He.ma K (wC K) "text", "text", "Word.text", defArgs (inClass (top iWord) 8), defBody (inClass (top iWord) 8), defScope (inClass (top iWord) 8), [], []⟩
def six : List He5.DefA := [dI, dP "sign" sSg, dP "parts" sPa, dFI, dFP "within" 1, dFP "not_within" 2]
def fn : List He5.DefA := (defs.map fun p => dD p.1 p.2) ++ (six ++ fmets.map fun p => dM p.1 p.2)++ [dT]
def glos : List Str := ["LEAVES", "JOINTS", "HANDS", "KINDS", "Word", "Facts", "Clash"]
def more : List He.Fa := [.str "PLANE" "plane", .str "SURE" "sure", .str "BARRED" "barred", .str "OPEN" "open", .cls "Word", .noat "Word" "_sign", .noat "Word" "_parts", .mkr "Word", .cls "Facts", .noat "Facts" "_within", .noat "Facts" "_not_within", .mkr "Facts", .exc "Clash", .exm "Clash" "Clash" true, .meth "Word" "text"]
def fa : List He.Fa := (((glos.map He.Fa.glo) ++ (defs.map fun p => He.Fa.glo p.1)) ++ (free.map He.Fa.free ++ (fmets.map fun p => He.Fa.meth "Facts" p.1))) ++ more
/-- an empty tuple stands at a -/
def nilB (K : PySem.W.Frag) (a : Addr) : Bool := match K.lookup a with
  | some ⟨.type c, _, .seq its _, _⟩ => decide (c = "tuple") && decide (its.size = 0)
  | _ => false
theorem nilB_ok {K : PySem.W.Frag} {a : Addr} (h : nilB K a = true) (H : Hp) : SqT K H a [] := by
  unfold nilB at h
  cases q : K.lookup a with
  | none => rw [q] at h; cases h
  | some o =>
    obtain ⟨oc, od, dt, osl⟩ := o
    rw [q] at h
    cases oc with
    | type c =>
      cases dt with
      | seq its n =>
        obtain ⟨h1, h2⟩ := He.ba (show (decide (c = "tuple") && decide (its.size = 0)) = true from h)
        have e : its = #[] := Array.eq_empty_of_size_eq_zero (of_decide_eq_true h2)
        subst e
        exact .inr ⟨_, #[], n, q, congrArg Value.type (of_decide_eq_true h1), rfl, by simp, .nil⟩
      | _ => cases h
    | _ => cases dt <;> cases h
def propB (K : PySem.W.Frag) (C : Addr) (m : Str) : Bool := He.eqO (PySem.W.findIn K (.ref C) m) (some (some (.ref (He.ma K C m)))) && (He.eqO (PySem.W.specialIn K (.ref (He.ma K C m)) "__get__") (some (some (.builtin "property.__get__"))) && (decide (PySem.W.takesIn K (.ref (He.ma K C m)) = some true) &&
  (match PySem.W.recIn K (He.ma K C m) "property" with
    | some (.ref _ :: _) => true
    | _ => false)))
theorem propB_ok {K : PySem.W.Frag} {m : Str} (h : propB K (wC K) m = true) : PropOf K (wC K) m (He.ma K (wC K) m) (propG K m) := by
  obtain ⟨h1, h⟩ := He.ba h
  obtain ⟨h2, h⟩ := He.ba h
  obtain ⟨h3, h4⟩ := He.ba h
  refine ⟨He.eqO_ok h1, He.eqO_ok h2, of_decide_eq_true h3, ?_⟩
  unfold propG
  split at h4
  · rename_i g r e
    exact ⟨r, by rw [e]⟩
  · cases h4
theorem propF_ok {K : PySem.W.Frag} {m : Str} (h : propB K (fC K) m = true) : PropOf K (fC K) m (He.ma K (fC K) m) (fpropG K m) := by
  obtain ⟨h1, h⟩ := He.ba h
  obtain ⟨h2, h⟩ := He.ba h
  obtain ⟨h3, h4⟩ := He.ba h
  refine ⟨He.eqO_ok h1, He.eqO_ok h2, of_decide_eq_true h3, ?_⟩
  unfold fpropG
  split at h4
  · rename_i g r e
    exact ⟨r, by rw [e]⟩
  · cases h4
def kindD : List He.Dv := [.str "", .str "a", .str "b", .str "c", .str "ab", .str "ac", .str "bc", .str "abc", .str "plane"]
def ex (K : PySem.W.Frag) : Bool := ((He.tupB K "LEAVES" [.str "a", .str "b", .str "c", .str "0", .str "1"] && He.tupB K "JOINTS" [.str "+", .str "&"]) && (He.tupB K "HANDS" [.str "a", .str "b", .str "c"] && He.tupB K "KINDS" kindD)) &&
  ((nilB K (dvA K) && (nilB K (kwA "within" K) && nilB K (kwA "not_within" K))) && ((propB K (wC K) "sign" && propB K (wC K) "parts") && (propB K (fC K) "within" && propB K (fC K) "not_within")))
theorem fa_in {K : PySem.W.Frag} (c : He5.SaysA fa fn K) : ∀ f ∈ fa, f.ok K = true := fun f hf => by
  obtain ⟨i, hi, e⟩ := List.mem_iff_getElem.mp hf
  exact c.fact i (f := f) (by rw [List.getElem?_eq_getElem hi, e])
theorem more_in {K : PySem.W.Frag} (c : He5.SaysA fa fn K) (f : He.Fa) (hf : f ∈ more) : f.ok K = true := fa_in c _ (List.mem_append_right _ hf)
theorem fn_in {K : PySem.W.Frag} (c : He5.SaysA fa fn K) : ∀ d ∈ fn, ∃ fd, FunD K d.name d.qual d.params d.body d.scope (d.dvs K) (d.kws K) (d.at_ K) fd := fun d hd => by
  obtain ⟨i, hi, e⟩ := List.mem_iff_getElem.mp hd
  exact c.def_ i (d := d) (by rw [List.getElem?_eq_getElem hi, e])
theorem txt_mk {K : PySem.W.Frag} {h : Heap} {mg : Str → Option Value} (X : K.In h) (G : h.Ns mainGlobals mg) (c : He5.SaysA fa fn K) (e : ex K = true) : Txt K mg := by
  obtain ⟨e1, e⟩ := He.ba e
  obtain ⟨t12, t34⟩ := He.ba e1
  obtain ⟨t1, t2⟩ := He.ba t12
  obtain ⟨t3, t4⟩ := He.ba t34
  obtain ⟨_, e⟩ := He.ba e
  obtain ⟨p12, _⟩ := He.ba e
  obtain ⟨p1, p2⟩ := He.ba p12
  have g : ∀ x ∈ glos, mg x = some (.ref (He.ga K x)) := fun x hx => He.glo_ok X G (fa_in c _ (List.mem_append_left _ (List.mem_append_left _ (List.mem_append_left _ (List.mem_map.mpr ⟨x, hx, rfl⟩)))))
  obtain ⟨x1, x2, x3, x4⟩ := He.exc_ok (more_in c (.exc "Clash") (.tail _ (.tail _ (.tail _ (.tail _ (.tail _ (.tail _ (.tail _ (.tail _ (.tail _ (.tail _ (.tail _ (.tail _ (.head _))))))))))))))
  exact {
    dfs := fun p hp => He.glo_ok X G (fa_in c _ (List.mem_append_left _ (List.mem_append_left _ (List.mem_append_right _ (List.mem_map.mpr ⟨p, hp, rfl⟩)))))
    free := fun x hx => He.free_ok X G (fa_in c _ (List.mem_append_left _ (List.mem_append_right _ (List.mem_append_left _ (List.mem_map.mpr ⟨x, hx, rfl⟩)))))
    leaves := g _ (.head _)
    joints := g _ (.tail _ (.head _))
    hands := g _ (.tail _ (.tail _ (.head _)))
    kinds := g _ (.tail _ (.tail _ (.tail _ (.head _))))
    plane := He.str_ok X G (more_in c (.str "PLANE" "plane") (.head _))
    ltup := fun H => He.tupB_ok t1 H
    jtup := fun H => He.tupB_ok t2 H
    htup := fun H => He.tupB_ok t3 H
    ktup := fun H => He.tupB_ok t4 H
    word := g _ (.tail _ (.tail _ (.tail _ (.tail _ (.head _)))))
    cls := He.cls_ok (more_in c (.cls "Word") (.tail _ (.tail _ (.tail _ (.tail _ (.head _))))))
    fs := He.noat_ok (more_in c (.noat "Word" "_sign") (.tail _ (.tail _ (.tail _ (.tail _ (.tail _ (.head _)))))))
    fp := He.noat_ok (more_in c (.noat "Word" "_parts") (.tail _ (.tail _ (.tail _ (.tail _ (.tail _ (.tail _ (.head _))))))))
    mks := He.mkr_ok (more_in c (.mkr "Word") (.tail _ (.tail _ (.tail _ (.tail _ (.tail _ (.tail _ (.tail _ (.head _)))))))))
    ps := propB_ok p1
    pp := propB_ok p2
    sure := He.str_ok X G (more_in c (.str "SURE" "sure") (.tail _ (.head _)))
    barred := He.str_ok X G (more_in c (.str "BARRED" "barred") (.tail _ (.tail _ (.head _))))
    opn := He.str_ok X G (more_in c (.str "OPEN" "open") (.tail _ (.tail _ (.tail _ (.head _)))))
    facts := g _ (.tail _ (.tail _ (.tail _ (.tail _ (.tail _ (.head _))))))
    fcls := He.cls_ok (more_in c (.cls "Facts") (.tail _ (.tail _ (.tail _ (.tail _ (.tail _ (.tail _ (.tail _ (.tail _ (.head _))))))))))
    ffw := He.noat_ok (more_in c (.noat "Facts" "_within") (.tail _ (.tail _ (.tail _ (.tail _ (.tail _ (.tail _ (.tail _ (.tail _ (.tail _ (.head _)))))))))))
    ffn := He.noat_ok (more_in c (.noat "Facts" "_not_within") (.tail _ (.tail _ (.tail _ (.tail _ (.tail _ (.tail _ (.tail _ (.tail _ (.tail _ (.tail _ (.head _))))))))))))
    fmk := He.mkr_ok (more_in c (.mkr "Facts") (.tail _ (.tail _ (.tail _ (.tail _ (.tail _ (.tail _ (.tail _ (.tail _ (.tail _ (.tail _ (.tail _ (.head _)))))))))))))
    clash := g _ (.tail _ (.tail _ (.tail _ (.tail _ (.tail _ (.tail _ (.head _)))))))
    cx := x1
    ck := x2
    cb := x3
    ct := x4
    cm := He.exm_ok (more_in c (.exm "Clash" "Clash" true) (.tail _ (.tail _ (.tail _ (.tail _ (.tail _ (.tail _ (.tail _ (.tail _ (.tail _ (.tail _ (.tail _ (.tail _ (.tail _ (.head _))))))))))))))) }
theorem al_mk {K : PySem.W.Frag} (c : He5.SaysA fa fn K) (e : ex K = true) : Al K := by
  obtain ⟨_, e⟩ := He.ba e
  obtain ⟨n123, e⟩ := He.ba e
  obtain ⟨n1, n23⟩ := He.ba n123
  obtain ⟨n2, n3⟩ := He.ba n23
  obtain ⟨_, p34⟩ := He.ba e
  obtain ⟨p3, p4⟩ := He.ba p34
  have S : ∀ d ∈ six, ∃ fd, FunD K d.name d.qual d.params d.body d.scope (d.dvs K) (d.kws K) (d.at_ K) fd := fun d hd => fn_in c d <| List.mem_append_left _ <| (List.mem_append_right _ (List.mem_append_left _ hd))
  obtain ⟨f0, h0⟩ := S dI (.head _)
  obtain ⟨f1, h1⟩ := S (dP "sign" sSg) (.tail _ (.head _))
  obtain ⟨f2, h2⟩ := S (dP "parts" sPa) (.tail _ (.tail _ (.head _)))
  obtain ⟨f3, h3⟩ := S dFI (.tail _ (.tail _ (.tail _ (.head _))))
  obtain ⟨f4, h4⟩ := S (dFP "within" 1) (.tail _ (.tail _ (.tail _ (.tail _ (.head _)))))
  obtain ⟨f5, h5⟩ := S (dFP "not_within" 2) (.tail _ (.tail _ (.tail _ (.tail _ (.tail _ (.head _))))))
  exact {
    d := fun p hp => fn_in c (dD p.1 p.2) <| List.mem_append_left _ <| (List.mem_append_left _ (List.mem_map.mpr ⟨p, hp, rfl⟩))
    wi := ⟨f0, dvA K, h0, nilB_ok n1⟩
    wg := ⟨f1, h1⟩
    wp := ⟨f2, h2⟩
    fi := ⟨f3, kwA "within" K, kwA "not_within" K, h3, nilB_ok n2, nilB_ok n3⟩
    pw := ⟨propF_ok p3, f4, h4⟩
    pn := ⟨propF_ok p4, f5, h5⟩
    m := fun p hp => ⟨He.meth_ok (fa_in c (.meth "Facts" p.1) (List.mem_append_left _ (List.mem_append_right _ (List.mem_append_right _ (List.mem_map.mpr ⟨p, hp, rfl⟩))))), fn_in c (dM p.1 p.2) <| List.mem_append_left _ <| (List.mem_append_right _ (List.mem_append_right _ (List.mem_map.mpr ⟨p, hp, rfl⟩)))⟩ }

abbrev R : PySem.W.OpenRow := PySem.W.OpenLaw.row PySem.Challenge.rw_handspaces_k37_verdicts
abbrev hk : PySem.W.Hook := hookMA 6 fa fn ex
def ob (s : PySem.W.SharedT) : He.AlD × Bool := obsMA 6 fa fn ex (HandSHeadRun.getT s)
theorem ob_eq (s : PySem.W.SharedT) : ob s = hk.obs s.abs := obsMA_eq (HandSHeadRun.getT_eq s)
def loose : List Str := (["_wall", "HandError", "BadSign", "BadColumn", "Clash", "HANDS", "PLANE", "KINDS", "LEAVES", "JOINTS", "MOST_OPEN", "leaves", "check_text", "read_sum", "read_intersection", "read_part", "read_word", "Word", "SURE", "BARRED", "OPEN", "Facts"] : List Str) ++ (defs.map (·.1)).dropLast
set_option maxRecDepth 1000000 in
theorem run (w : World) : HandSHeadRun.RunEq R (PySem.W.view R.prog [60]) hk ob 60000 loose w := by
  intro os
  kernel_rfl
end KF

set_option Elab.async false
set_option linter.all false
set_option maxRecDepth 100000
set_option maxHeartbeats 0
/-! ## the end -/
namespace KF
open PySem PySem.Spec PyProof.Rows L2 VX KW
theorem facts {P : Program} {w : World} {K : PySem.W.Frag} {h : Heap} {mg : Str → Option Value} {f : Addr} (X : K.In h) (G : h.Ns mainGlobals mg) (hfa : mg ("law" : Str) = some (.ref f)) (c : He5.SaysA fa fn K) (e : ex K = true) :
    ∃ fd : FuncData, (∀ (s : Shared) (v : Value), BindsTo s fd ⟨[v], []⟩ [("_law_script", v)]) ∧ ∀ base : Heap, K.In base → base.Ns mainGlobals mg → FnOk P w K mg base CX0 47 f fd ["_law_script"] (spLaw K) := by
  have B : Al2 K := ⟨He.meth_ok (more_in c (.meth "Word" "text") (.tail _ (.tail _ (.tail _ (.tail _ (.tail _ (.tail _ (.tail _ (.tail _ (.tail _ (.tail _ (.tail _ (.tail _ (.tail _ (.tail _ (.head _)))))))))))))))), fn_in c dT (List.mem_append_right _ (.head _))⟩
  have T : Txt K mg := txt_mk X G c e
  have A : Al K := al_mk c e
  have ee := hfa.symm.trans (T.dfs ("law", iLaw) (by decide +kernel))
  cases ee
  obtain ⟨fd, F⟩ := A.def "law" iLaw
  have b := FunD.bindsA (ps := ["_law_script"]) F fun _ _ _ _ _ _ us hl => match us, hl with | [_], _ => rfl
  exact ⟨fd, fun s v => b s [v] rfl, fun base _ _ => ok_law F T A B⟩
end KF
open PySem PySem.W PySem.Calls PyProof.Rows
set_option maxRecDepth 100000 in
set_option maxHeartbeats 0 in
theorem PySem.Challenge.cw_handspaces_k37_verdicts_holds : PySem.Challenge.rw_handspaces_k37_verdicts.Holds := by
  w_on; o_law
  refine HandSHeadRun.head_any (r := KF.R) (q := view KF.R.prog [60]) (H := KF.hk) (ob := KF.ob) (M := 60000) (loose := KF.loose) (d := HandSHeadRun.topDef KF.R.prog 60) (kwd := []) KF.ob_eq
    (by kernel_rfl) (fun s => by kernel_rfl) KF.run (by kernel_rfl) (by kernel_rfl) (by kernel_rfl) (by rfl) (by first | assumption | decide +kernel) (by decide +kernel) ⟨rfl, rfl, rfl, rfl, rfl, by decide +kernel⟩ ?hw ?hc
  case hw => w_witness2
  case hc =>
    refine L2.walk_ofE (l := PySem.Challenge.rw_handspaces_k37_verdicts) (n := 63) (k := 47) (CX := L2.CX0) (x := "_law_script") rfl (by decide) (by kernel_rfl) ⟨rfl, by decide, by decide⟩ ?F (fun _ _ _ _ h => h)
    intro w mg fa h Y G hmg0
    obtain ⟨K, KX, c, e⟩ := Y
    have hmg : mg ("law" : PySem.Str) = some (.ref fa) := by
      have q : (HandSHeadRun.topDef KF.R.prog 60).name = ("law" : PySem.Str) := by kernel_rfl
      rw [← q]
      exact hmg0
    obtain ⟨fd, hb, hF⟩ := KF.facts (P := (PySem.Challenge.rw_handspaces_k37_verdicts).prog) (w := w) KX G hmg c e
    exact ⟨K, fd, KF.spLaw K, KX, hb, fun H a ns hl _ hS => ⟨a, ns, rfl, hS, fun _ => rfl⟩, hF⟩
