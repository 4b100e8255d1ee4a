import PyProof.Rows.All
import Wide.All
import OpenK.AllK
import Wide.FinOn
import HandS.ForMost
import HandS.Exc
import HandS.TryOnly
import HandS.ExcOwn
import HandS.WordsExc
import HandS.TryMany
import HandS.ExcInit
import HandS.ExcField
import HandS.ExcIs
import HandS.ExcValue
import HandS.More
import HandS.IsInst
import HandS.DeepEq
import HandS.Style
import HandS.Conv
import HandS.NoneIn
import HandS.Flow
import KE.KIsAll
import KE.KTryMore
import HandS.Defaults
import HandS.Zip
import HandS.Walk
import HandS.Replace
import HandS.ReplaceDef
import HandS.ReplaceLit
import KE.GoesMore
import KE.GoesEnum
import KE.GoesEnumKw
import OpenK.KMeth
import PyProof.Rows.CallKwBuiltin
import HandS.ClsMeth
import HandS.HeadNt
import HandS.LawCells
import KE.KStateDown
import Lean
import HandS.Head0
import HandS.Head1
import HandS.Head2
import HandS.HeadEnd
import HandS.HeadHook1
import HandS.HeadHook2
import HandS.Property
import HandS.HeadHook3
import HandS.Wide
import HandS.MakeKwOnly
import HandS.DictEq
import HandS.DictComp
import PyProof.FactsAll.dict_1
import PyProof.FactsAll.subtypes
import HandS.Deep
import HandS.OwnEq
import HandS.TupMul
import HandS.Finally
import HandS.Star
import KE.GoesZip
import HandS.Dict
import KE.KDictDisplayH
import HandS.TupLen
import PySem.Challenge.RW_handspaces_k91_whole_facts_of_a_triple
set_option linter.all false
/-! # the walk of a word's text, on lists of signs (no model) -/
namespace KW
def leafC (c : Nat) : Bool := c == 97 || c == 98 || c == 99 || c == 48 || c == 49
def jointC (c : Nat) : Bool := c == 43 || c == 38
/-- one sign: how many are open, whether a word is wanted -/
def stp (o : Nat) (w : Bool) (c : Nat) : Option (Nat × Bool) :=
  if c = 32 then some (o, w) else if w && leafC c then some (o, false) else if w && c == 40 && decide (o < 9) then some (o + 1, true)
  else if !w && jointC c then some (o, true) else if !w && c == 41 && decide (0 < o) then some (o - 1, false) else none
/-- the column of the error, 0 if there is none; k is the column of the next sign -/
def dueAt : List Nat → Nat → Bool → Nat → Nat
  | [], o, w, k => if w || decide (0 < o) then k else 0
  | c :: l, o, w, k => match stp o w c with
    | none => k
    | some p => dueAt l p.1 p.2 (k + 1)
def due (l : List Nat) : Nat := dueAt l 0 true 1
/-- the rest can be read to its end -/
def Acc : Bool → Nat → List Nat → Bool
  | w, d, [] => !w && d == 0
  | true, d, c :: l => (leafC c && Acc false d l) || (c == 40 && decide (d < 9) && Acc true (d + 1) l)
  | false, d, c :: l => (jointC c && Acc true d l) || (c == 41 && decide (0 < d) && Acc false (d - 1) l)
theorem leaf_no {c : Nat} (h : leafC c = true) : c ≠ 32 ∧ c ≠ 40 ∧ c ≠ 41 ∧ jointC c = false := by
  simp only [leafC, Bool.or_eq_true, beq_iff_eq] at h
  refine ⟨by omega, by omega, by omega, ?_⟩
  simp only [jointC, Bool.or_eq_false_iff, beq_eq_false_iff_ne]
  omega
theorem joint_no {c : Nat} (h : jointC c = true) : c ≠ 32 ∧ c ≠ 40 ∧ c ≠ 41 ∧ leafC c = false := by
  simp only [jointC, Bool.or_eq_true, beq_iff_eq] at h
  refine ⟨by omega, by omega, by omega, ?_⟩
  simp only [leafC, Bool.or_eq_false_iff, beq_eq_false_iff_ne]
  omega
theorem step_o {o o' : Nat} {w w' : Bool} {c : Nat} (ho : o ≤ 9) (h : stp o w c = some (o', w')) : o' ≤ 9 := by
  unfold stp at h
  split at h
  · cases h; exact ho
  split at h
  · cases h; exact ho
  split at h
  · rename_i hh
    cases h
    simp only [Bool.and_eq_true, decide_eq_true_eq] at hh
    omega
  split at h
  · cases h; exact ho
  split at h
  · cases h; omega
  · cases h
theorem acc_of {l : List Nat} : ∀ {o : Nat} {w : Bool} {k : Nat}, 0 < k → dueAt l o w k = 0 → Acc w o (l.filter (· != 32)) = true := by
  induction l with
  | nil =>
    intro o w k hk h
    simp only [dueAt] at h
    cases w with
    | true => rw [if_pos (by simp)] at h; omega
    | false =>
      by_cases c : 0 < o
      · rw [if_pos (by simp [c])] at h; omega
      · have : o = 0 := by omega
        subst this
        rfl
  | cons c l ih =>
    intro o w k hk h
    simp only [dueAt] at h
    cases hs : stp o w c with
    | none => rw [hs] at h; dsimp only at h; omega
    | some p =>
      obtain ⟨o', w'⟩ := p
      rw [hs] at h
      dsimp only at h
      have ih' := ih (Nat.succ_pos k) h
      unfold stp at hs
      by_cases c32 : c = 32
      · rw [if_pos c32] at hs
        cases hs
        rw [List.filter_cons_of_neg (by simp [c32])]
        exact ih'
      · rw [if_neg c32] at hs
        rw [List.filter_cons_of_pos (by simp [c32])]
        split at hs
        · rename_i hh
          cases hs
          simp only [Bool.and_eq_true] at hh
          rw [hh.1]
          simp only [Acc, hh.2, ih', Bool.true_and, Bool.true_or]
        split at hs
        · rename_i hh
          cases hs
          simp only [Bool.and_eq_true] at hh
          rw [hh.1.1]
          simp only [Acc, hh.1.2, hh.2, ih', Bool.and_self, Bool.or_true]
        split at hs
        · rename_i hh
          cases hs
          simp only [Bool.and_eq_true, Bool.not_eq_true'] at hh
          rw [hh.1]
          simp only [Acc, hh.2, ih', Bool.true_and, Bool.true_or]
        split at hs
        · rename_i hh
          cases hs
          simp only [Bool.and_eq_true, Bool.not_eq_true'] at hh
          rw [hh.1.1]
          simp only [Acc, hh.1.2, hh.2, ih', Bool.and_self, Bool.or_true]
        · cases hs
/-- the law's order of tests gives the same -/
theorem acc_wanted {d : Nat} {l : List Nat} (h : Acc true d l = true) : ∃ c r, l = c :: r ∧ ((leafC c = true ∧ Acc false d r = true) ∨ (c = 40 ∧ d < 9 ∧ Acc true (d + 1) r = true)) := by
  cases l with
  | nil => simp [Acc] at h
  | cons c r =>
    refine ⟨c, r, rfl, ?_⟩
    simp only [Acc, Bool.or_eq_true, Bool.and_eq_true, beq_iff_eq, decide_eq_true_eq] at h
    rcases h with h | h
    · exact .inl h
    · exact .inr ⟨h.1.1, h.1.2, h.2⟩
theorem acc_joint {d c : Nat} {r : List Nat} (hj : jointC c = true) (h : Acc false d (c :: r) = true) : Acc true d r = true := by
  have n := joint_no hj
  simp only [Acc, Bool.or_eq_true, Bool.and_eq_true, beq_iff_eq, decide_eq_true_eq] at h
  rcases h with h | h
  · exact h.2
  · exact absurd h.1.1 n.2.2.1
theorem acc_close {d : Nat} {l : List Nat} (hd : 0 < d) (hj : ∀ c r, l = c :: r → jointC c = false) (h : Acc false d l = true) : ∃ r, l = 41 :: r ∧ Acc false (d - 1) r = true := by
  cases l with
  | nil =>
    simp only [Acc, Bool.not_false, Bool.true_and, beq_iff_eq] at h
    omega
  | cons c r =>
    have n := hj c r rfl
    simp only [Acc, Bool.or_eq_true, Bool.and_eq_true, beq_iff_eq, decide_eq_true_eq, n] at h
    rcases h with h | h
    · exact absurd h.1 (by simp)
    · exact ⟨r, by rw [h.1.1], h.2⟩
/-- a word as a tree -/
inductive Tr where
  | lf (c : Nat)
  | nd (c : Nat) (l r : Tr)
/-! what is read: from the list before to the list behind, d parentheses open -/
mutual
inductive RP : Nat → List Nat → Tr → List Nat → Prop
  | leaf {d c : Nat} {r : List Nat} : leafC c = true → RP d (c :: r) (.lf c) r
  | paren {d : Nat} {l r : List Nat} {t : Tr} : d < 9 → RS (d + 1) l t (41 :: r) → RP d (40 :: l) t r
inductive RIs : Nat → Nat → Tr → List Nat → Tr → List Nat → Prop
  | stop {d : Nat} {t : Tr} {r : List Nat} : r.head? ≠ some 38 → RIs d 0 t r t r
  | more {d k : Nat} {t u t' : Tr} {r r1 r' : List Nat} : RP d r u r1 → RIs d k (.nd 38 t u) r1 t' r' → RIs d (k + 1) t (38 :: r) t' r'
inductive RI : Nat → List Nat → Tr → List Nat → Prop
  | mk {d k : Nat} {l r r' : List Nat} {t t' : Tr} : RP d l t r → RIs d k t r t' r' → RI d l t' r'
inductive RSs : Nat → Nat → Tr → List Nat → Tr → List Nat → Prop
  | stop {d : Nat} {t : Tr} {r : List Nat} : r.head? ≠ some 43 → RSs d 0 t r t r
  | more {d k : Nat} {t u t' : Tr} {r r1 r' : List Nat} : RI d r u r1 → RSs d k (.nd 43 t u) r1 t' r' → RSs d (k + 1) t (43 :: r) t' r'
inductive RS : Nat → List Nat → Tr → List Nat → Prop
  | mk {d k : Nat} {l r r' : List Nat} {t t' : Tr} : RI d l t r → RSs d k t r t' r' → RS d l t' r'
end
def PartOk (n : Nat) : Prop := ∀ (l : List Nat) (d : Nat), l.length ≤ n → Acc true d l = true → ∃ t r, RP d l t r ∧ Acc false d r = true ∧ r.length < l.length
def InterOk (n : Nat) : Prop := ∀ (l : List Nat) (d : Nat), l.length ≤ n → Acc true d l = true → ∃ t r, RI d l t r ∧ Acc false d r = true ∧ r.length < l.length ∧ r.head? ≠ some 38
def SumOk (n : Nat) : Prop := ∀ (l : List Nat) (d : Nat), l.length ≤ n → Acc true d l = true → ∃ t r, RS d l t r ∧ Acc false d r = true ∧ r.length < l.length ∧ ∀ c s, r = c :: s → jointC c = false
theorem inters {n : Nat} (hp : PartOk n) : ∀ (m : Nat) (r : List Nat) (d : Nat) (t : Tr), r.length ≤ m → r.length ≤ n → Acc false d r = true → ∃ k t' r', RIs d k t r t' r' ∧ Acc false d r' = true ∧ r'.length ≤ r.length ∧ r'.head? ≠ some 38 := by
  intro m
  induction m with
  | zero =>
    intro r d t h _ a
    have : r = [] := List.length_eq_zero_iff.mp (by omega)
    subst this
    exact ⟨0, t, [], .stop (by simp), a, Nat.le_refl _, by simp⟩
  | succ m ih =>
    intro r d t h hn a
    by_cases hh : r.head? = some 38
    · obtain ⟨s, rfl⟩ : ∃ s, r = 38 :: s := by
        cases r with
        | nil => simp at hh
        | cons c s => exact ⟨s, by rw [Option.some.inj hh]⟩
      have a2 := acc_joint (by decide) a
      simp only [List.length_cons] at h hn
      obtain ⟨u, r1, p1, p2, p3⟩ := hp s d (by omega) a2
      obtain ⟨k, t', r', q1, q2, q3, q4⟩ := ih r1 d (.nd 38 t u) (by omega) (by omega) p2
      exact ⟨k + 1, t', r', .more p1 q1, q2, by simp only [List.length_cons]; omega, q4⟩
    · exact ⟨0, t, r, .stop hh, a, Nat.le_refl _, hh⟩
theorem interOk {n : Nat} (hp : PartOk n) : InterOk n := fun l d h a => by
  obtain ⟨t, r, p1, p2, p3⟩ := hp l d h a
  obtain ⟨k, t', r', q1, q2, q3, q4⟩ := inters hp r.length r d t (Nat.le_refl _) (by omega) p2
  exact ⟨t', r', .mk p1 q1, q2, by omega, q4⟩
theorem sums {n : Nat} (hp : InterOk n) : ∀ (m : Nat) (r : List Nat) (d : Nat) (t : Tr), r.length ≤ m → r.length ≤ n → r.head? ≠ some 38 → Acc false d r = true → ∃ k t' r', RSs d k t r t' r' ∧ Acc false d r' = true ∧ r'.length ≤ r.length ∧ r'.head? ≠ some 43 ∧ r'.head? ≠ some 38 := by
  intro m
  induction m with
  | zero =>
    intro r d t h _ _ a
    have : r = [] := List.length_eq_zero_iff.mp (by omega)
    subst this
    exact ⟨0, t, [], .stop (by simp), a, Nat.le_refl _, by simp, by simp⟩
  | succ m ih =>
    intro r d t h hn h38 a
    by_cases hh : r.head? = some 43
    · obtain ⟨s, rfl⟩ : ∃ s, r = 43 :: s := by
        cases r with
        | nil => simp at hh
        | cons c s => exact ⟨s, by rw [Option.some.inj hh]⟩
      have a2 := acc_joint (by decide) a
      simp only [List.length_cons] at h hn
      obtain ⟨u, r1, p1, p2, p3, p4⟩ := hp s d (by omega) a2
      obtain ⟨k, t', r', q1, q2, q3, q4⟩ := ih r1 d (.nd 43 t u) (by omega) (by omega) p4 p2
      exact ⟨k + 1, t', r', .more p1 q1, q2, by simp only [List.length_cons]; omega, q4⟩
    · exact ⟨0, t, r, .stop hh, a, Nat.le_refl _, hh, h38⟩
theorem sumOk {n : Nat} (hp : InterOk n) : SumOk n := fun l d h a => by
  obtain ⟨t, r, p1, p2, p3, p4⟩ := hp l d h a
  obtain ⟨k, t', r', q1, q2, q3, q4, q5⟩ := sums hp r.length r d t (Nat.le_refl _) (by omega) p4 p2
  refine ⟨t', r', .mk p1 q1, q2, by omega, fun c s e => ?_⟩
  subst e
  simp only [jointC, Bool.or_eq_false_iff, beq_eq_false_iff_ne]
  exact ⟨fun e => q4 (by simp [e]), fun e => q5 (by simp [e])⟩
theorem partOk : ∀ n, PartOk n := by
  intro n
  induction n with
  | zero =>
    intro l d h a
    have : l = [] := List.length_eq_zero_iff.mp (by omega)
    subst this
    simp [Acc] at a
  | succ n ih =>
    intro l d h a
    obtain ⟨c, r, rfl, q⟩ := acc_wanted a
    simp only [List.length_cons] at h
    rcases q with ⟨hl, ha⟩ | ⟨rfl, hd, ha⟩
    · exact ⟨.lf c, r, .leaf hl, ha, by simp⟩
    · obtain ⟨t, r1, p1, p2, p3, p4⟩ := sumOk (interOk ih) r (d + 1) (by omega) ha
      obtain ⟨r2, rfl, a2⟩ := acc_close (Nat.succ_pos d) p4 p2
      simp only [List.length_cons] at p3
      exact ⟨t, r2, .paren hd p1, a2, by simp only [List.length_cons]; omega⟩
/-- a text without an error can be read to its end -/
theorem reads {l : List Nat} (h : due l = 0) : ∃ t, RS 0 (l.filter (· != 32)) t [] := by
  have a := acc_of (Nat.succ_pos 0) h
  obtain ⟨t, r, p1, p2, p3, p4⟩ := sumOk (interOk (partOk _)) _ 0 (Nat.le_refl _) a
  refine ⟨t, ?_⟩
  cases r with
  | nil => exact p1
  | cons c s =>
    have := p4 c s rfl
    simp [Acc, this] at p2
end KW

set_option Elab.async false
set_option linter.all false
set_option maxRecDepth 100000
set_option maxHeartbeats 2000000
namespace VX
open PySem PySem.Spec PyProof.Rows L2
/-! ### ints: a power of a greater base -/
def CPw (i j : Int) : Prop := 0 ≤ j ∧ (Builtin.Int.intBits i : Int) * j ≤ 2 ^ 27
theorem op_pw {X : Cx} : OpR X (binaryOp .Pow) (rI CPw fun i j => .int (i ^ j.toNat)) :=
  opI fun _ _ _ _ _ _ _ c q => pow_int c.1 c.2 q
/-! ### repr of data -/
inductive DX (K : PySem.W.Frag) (H : Hp) : V → PyData → Prop where
  | dp {v : V} {d : PyData} (h : Dp K H v d) : DX K H v d
  | dk {a : Addr} {x : Str} {i : Int} (h : H a = some (.dK [(Sum.inr x, .int i)])) : DX K H (.ref a) (.dict [(.str x, .int i)])
structure Shown (K : PySem.W.Frag) (H : Hp) (v : V) (d : PyData) : Prop where
  dx : DX K H v d
  sh : d.showable = true
  dep : d.depth ≤ 8
  sz : d.shown.length ≤ sizeLine
theorem kv_one {kvs : List (Key × V)} {vs : List (Key × Value)} {x : Str} {i : Int} (r : KV kvs vs) (e : kvs = [(Sum.inr x, V.int i)]) : ∃ t, vs = [(Sum.inr x, Value.int i t)] := by
  subst e
  cases r with
  | cons h t =>
    cases t
    rename_i b
    obtain ⟨k, u⟩ := b
    obtain ⟨h1, h2⟩ := h
    obtain ⟨t, h2⟩ := h2
    dsimp only at h1 h2
    subst h1 h2
    exact ⟨t, rfl⟩
theorem DX.reads {X : Cx} {pins : List (Addr × Obj)} {σ : L2.St} {H : Hp} {s : Shared} (I : Inv X pins σ H s) {d : PyData} {v : V} {u : Value} (h : DX X.K H v d) (r : RelV v u) :
    ∃ as, Reads s.heap u d as ∧ (d.hasDict = true → sysModules ∉ as) := by
  cases h with
  | dp h =>
    obtain ⟨as, q⟩ := Dp.reads I d v u h r
    refine ⟨as, q, fun hd => ?_⟩
    exfalso
    have no : ∀ (d : PyData) (v : V), Dp X.K H v d → d.hasDict = false := by
      intro d
      refine PyData.rec (motive_1 := fun d => ∀ v, Dp X.K H v d → d.hasDict = false) (motive_2 := fun ds => ∀ vs, DpAll X.K H vs ds → PyData.hasDictAll ds = false)
        (motive_3 := fun _ => True) (motive_4 := fun _ => True) ?_ ?_ ?_ ?_ ?_ ?_ ?_ ?_ ?_ ?_ ?_ ?_ d
      all_goals first
        | (intros; simp only [PyData.hasDict]; done)
        | (intro xs ih v h; simp only [PyData.hasDict]; cases h with | lst _ ha => exact ih _ ha)
        | (intro xs ih v h; simp only [PyData.hasDict]; cases h with | tup _ ha => exact ih _ ha)
        | (intro xs ih v h; cases h; done)
        | (intro vs h; simp only [PyData.hasDictAll]; done)
        | (intro x xs ih1 ih2 vs h; cases h with | cons h1 h2 => simp only [PyData.hasDictAll, ih1 _ h1, ih2 _ h2, Bool.or_self])
        | (intros; trivial)
    rw [no d v h] at hd
    cases hd
  | @dk a x i h =>
    cases (show u = Value.ref a from r)
    obtain ⟨_, ns, vs, rv, o, es, ep, e, ex, hd, hk, hp, _⟩ := (show ObjOk X.prog X.w H s.heap a (.dK [(Sum.inr x, .int i)]) from I.hok a _ h)
    obtain ⟨t, rfl⟩ := kv_one rv rfl
    obtain ⟨l⟩ := es
    cases hp with
    | @cons en kv tl tk h1 h2 h3 =>
      cases h3
      obtain ⟨t', ek⟩ := Value.isStrOf_shape (x := x) (v := en.key) (show Value.isStrOf x en.key = true from h1)
      have ev : en.val = Value.int i t := h2
      refine ⟨[a] ++ ([] ++ []) ++ ([] ++ []), Reads.dict (as := [] ++ []) (bs := [] ++ []) e ex.1 hd (ReadsAll.cons ?_ .nil) (ReadsAll.cons ?_ .nil), fun _ => ?_⟩
      · show Reads s.heap en.key (.str x) []
        rw [ek]; exact Reads.str x t'
      · show Reads s.heap en.val (.int i) []
        rw [ev]; exact Reads.int i t
      · intro m
        have e' : sysModules = a := by simpa using m
        rw [← e'] at ns
        exact absurd ns (by simp)
theorem call_repr {X : Cx} (hg : X.A.guards = some []) (hu : X.A.units + 64 < cLine) : CallR X (.builtin "repr") (fun xs H Q => ∃ v d, xs = [v] ∧ Shown X.K H v d ∧ Q (.str d.shown) H) := by
  intro pins s σ H xs us Q I r h
  obtain ⟨v, d, rfl, S, q⟩ := h
  obtain ⟨u, rfl, ru⟩ := vals1 r
  obtain ⟨as, R, hs⟩ := S.dx.reads I ru
  have leaf : ∀ {z : Str} {s' : Shared}, s' = { s with toks := s.toks + 1 } → Q (.str z) H → EP X pins σ Q (.str z s.toks) s' := fun {z s'} e q => by
    subst e
    exact ⟨.str z, H, I.tok _, ⟨_, rfl⟩, q⟩
  have sh := S.sh
  have sz := S.sz
  have dp := S.dep
  clear S ru r
  cases R with
  | none => exact P.repr_of_none (leaf rfl (by simpa only [PyData.shown] using q))
  | bool b => exact P.repr_of_bool (leaf rfl (by simpa only [PyData.shown] using q))
  | int i t => exact P.repr_of_int (by simpa [PyData.showable] using sh) (leaf rfl (by simpa only [PyData.shown] using q))
  | str x t => exact P.repr_of_str (leaf rfl (by simpa only [PyData.shown] using q)) (by simpa only [PyData.shown] using sz)
  | list a b c e => exact repr_of_reads' (Reads.list a b c e) sh hs hg (by omega) (fun _ _ z => z) (fun h' u tk k => ⟨.str _, H, I.kept k, ⟨_, rfl⟩, q⟩) sz
  | tuple a b c e => exact repr_of_reads' (Reads.tuple a b c e) sh hs hg (by omega) (fun _ _ z => z) (fun h' u tk k => ⟨.str _, H, I.kept k, ⟨_, rfl⟩, q⟩) sz
  | dict a b c e f => exact repr_of_reads' (Reads.dict a b c e f) sh hs hg (by omega) (fun _ _ z => z) (fun h' u tk k => ⟨.str _, H, I.kept k, ⟨_, rfl⟩, q⟩) sz
/-! ### lists of the very same things -/
def OneV (v : V) : Prop := flatB v = true ∨ ∃ c, v = .ref c
theorem one_eq {A : Around} {s : Shared} {v : V} {u u' : Value} (o : OneV v) (r : RelV v u) (r' : RelV v u') : SeqAt.EqAt A s u u' true := by
  rcases o with o | ⟨c, rfl⟩
  · exact eqAt_same r r' o
  · cases (show u = Value.ref c from r)
    cases (show u' = Value.ref c from r')
    exact SeqAt.EqAt.same _
theorem all_one {A : Around} {s : Shared} : ∀ {xs : List V} {us ws : List Value}, (∀ v ∈ xs, OneV v) → Vals xs us → Vals xs ws → ∀ j (h1 : j < us.length) (h2 : j < ws.length), SeqAt.EqAt A s us[j] ws[j] true
  | [], _, _, _, .nil, .nil, j, h1, _ => absurd h1 (Nat.not_lt_zero j)
  | x :: xs, _, _, o, .cons a b, .cons a' b', 0, _, _ => one_eq (o x List.mem_cons_self) a a'
  | x :: xs, _, _, o, .cons a b, .cons a' b', j + 1, h1, h2 => all_one (fun v hv => o v (List.mem_cons_of_mem _ hv)) b b' j (Nat.lt_of_succ_lt_succ h1) (Nat.lt_of_succ_lt_succ h2)
def rSame (K : PySem.W.Frag) (b : Bool) : R2 := fun x y H Q => ∃ p q xs, x = .ref p ∧ y = .ref q ∧ SqL K H p xs ∧ SqL K H q xs ∧ (∀ v ∈ xs, OneV v) ∧ Q (.bl b) H
theorem op_neSame {X : Cx} (hu : X.A.units < cLine) : OpR X (compareOp .NotEq) (rSame X.K false) := by
  intro pins s σ H x y v u Q I rx ry h
  obtain ⟨p, q, xs, rfl, rfl, hp, hq, ho, hQ⟩ := h
  cases (show v = Value.ref p from rx)
  cases (show u = Value.ref q from ry)
  obtain ⟨us, r1, p1, _⟩ := I.list hp
  obtain ⟨ws, r2, p2, _⟩ := I.list hq
  have hsz : us.toArray.size = ws.toArray.size := by
    rw [List.size_toArray, List.size_toArray, ← r1.length, ← r2.length]
  refine SeqAt.RcNeAt.lists (e := fun _ => true) p1.isList p2.isList hsz hu (fun j h1 h2 => ?_) _ _ _ _ ?_
  · have k := all_one (A := X.A.in1) (s := s) ho r1 r2 j (by simpa using h1) (by simpa using h2)
    simpa using k
  · rw [show ((List.range us.toArray.size).all fun _ => true) = true from List.all_eq_true.mpr fun _ _ => rfl]
    exact ⟨.bl false, H, I, rfl, hQ⟩
theorem op_eqSame {X : Cx} (hu : X.A.units < cLine) : OpR X (compareOp .Eq) (rSame X.K true) := by
  intro pins s σ H x y v u Q I rx ry h
  obtain ⟨p, q, xs, rfl, rfl, hp, hq, ho, hQ⟩ := h
  cases (show v = Value.ref p from rx)
  cases (show u = Value.ref q from ry)
  obtain ⟨us, r1, p1, _⟩ := I.list hp
  obtain ⟨ws, r2, p2, _⟩ := I.list hq
  have hsz : us.toArray.size = ws.toArray.size := by
    rw [List.size_toArray, List.size_toArray, ← r1.length, ← r2.length]
  refine SeqAt.RcAt.lists (e := fun _ => true) p1.isList p2.isList hsz hu (fun j h1 h2 => ?_) _ _ _ _ ?_
  · have k := all_one (A := X.A.in1) (s := s) ho r1 r2 j (by simpa using h1) (by simpa using h2)
    simpa using k
  · rw [show ((List.range us.toArray.size).all fun _ => true) = true from List.all_eq_true.mpr fun _ _ => rfl]
    exact ⟨.bl true, H, I, rfl, hQ⟩
end VX

set_option Elab.async false
set_option linter.all false
set_option maxRecDepth 100000
set_option maxHeartbeats 4000000
/-! exceptions as values -/
namespace VX
open PySem PySem.Spec PyProof.Rows L2
section
variable {X : Cx} {pins : List (Addr × Obj)} {σ : L2.St} {H : Hp} {s s' : Shared}
/-- the same state, the heap grown -/
theorem Inv.up (I : L2.Inv X pins σ H s) (k : ∀ b o, s.heap.get? b = some o → s'.heap.get? b = some o) (ho : s'.os = s.os) (hb : AllBare s'.gens) : L2.Inv X pins σ H s' :=
  I.call' (ch := []) ho (Un.kept k) (I.hok.kept k) hb fun b z => absurd z (by simp)
/-- the same state, the heap grown by one thing that is tracked from now on -/
theorem Inv.upA {a : Addr} {o : HO} (I : L2.Inv X pins σ H s) (k : ∀ b o, s.heap.get? b = some o → s'.heap.get? b = some o) (n : s.heap.get? a = none) (na : H a = none) (new : ObjOk X.prog X.w (upd H a o) s'.heap a o) (ho : s'.os = s.os) (hb : AllBare s'.gens) :
    L2.Inv X pins σ (upd H a o) s' :=
  I.call' (ch := []) ho (Un.laidN k n na) (I.hok.laidN k na new) hb fun b z => absurd z (by simp)
end
/-- an exception that stands at a, of the class cls, its own dict d -/
def ExD (cls : Value) (d : Option Addr) (a : Addr) : HO := .ext fun h => ∃ (oe : Obj) (vs : Array Value), h.get? a = some oe ∧ Zc cls d oe ∧ oe.data = .fields vs
theorem exD_ok {P : Program} {w : World} {H : Hp} {h : Heap} {a : Addr} {cls : Value} {d : Option Addr} {oe : Obj} {vs : Array Value} (e : h.get? a = some oe) (z : Zc cls d oe) (q : oe.data = .fields vs) : ObjOk P w H h a (ExD cls d a) :=
  ⟨⟨oe, vs, e, z, q⟩, ⟨oe, e⟩, fun _ _ ⟨o, v, p, r⟩ k => ⟨o, v, k o p, r⟩⟩
/-- C(..), the exception itself -/
theorem pe_exV {X : Cx} {e : Expr} {t : L2.St → Hp → XK → Prop} (he : PMk X e t) : PE X e (fun σ H Q => t σ H fun cls d H1 => ∀ a, H1 a = none → Q (.ref a) (upd H1 a (ExD cls d a))) := by
  refine ⟨fun pins s σ H Q I h => ?_⟩
  refine thn (he pins s σ H _ I h) fun u s1 hu => ?_
  obtain ⟨a, oe, vs, sI, H', cls, d, rfl, J, k, n, ha, hz, hd, _, na, os, ag, _, q⟩ := hu
  exact ⟨.ref a, _, Inv.upA J k n na (exD_ok ha hz hd) os ag, rfl, q a na⟩
/-- C(..).n -/
theorem pe_exGet {X : Cx} {e : Expr} {n : Str} {pos : Pos} {t : L2.St → Hp → XK → Prop} (he : PMk X e t) (hb : attributeBase e n X.env (eval e X.env) = eval e X.env := by rfl) :
    PE X (.Attribute e n pos) (fun σ H Q => t σ H fun cls d H1 => ∃ (C dd : Addr) (fs : List (Str × V)) (v : V), cls = .ref C ∧ d = some dd ∧ XfC X.K C ∧ PySem.W.findIn X.K (.ref C) n = some none ∧ H1 dd = some (.xd fs) ∧ fs.lookup n = some v ∧ Q v H1) := by
  refine ⟨fun pins s σ H Q I h => ?_⟩
  refine attr_of hb (thn (he pins s σ H _ I h) fun u s1 hu => ?_)
  obtain ⟨a, oe, vs, sI, H', cls, d, rfl, J, k, n0, ha, hz, hd, _, na, os, ag, _, C, dd, fs, v, rfl, rfl, T, hno, hx, hl, q⟩ := hu
  have J1 := Inv.up (s' := s1) J k os ag
  obtain ⟨mA, hns, hr⟩ := (show ObjOk X.prog X.w H' s1.heap dd (.xd fs) from J1.hok dd _ hx)
  obtain ⟨od, ho, hlk⟩ := lookIn_ns hns
  obtain ⟨u, hu, ru⟩ := RelO.some_of (v := v) (o := mA n) (by rw [← hl]; exact hr n)
  have it : PySem.W.InstAt s1.heap a oe C (some od) := ⟨ha, hz.1, by unfold PySem.W.notCls; rw [hd] <;> rfl, by rw [hz.2]; exact ho⟩
  exact HandSPX.exc_get J1.kIn it T.ga T.gg T.exC (PySem.W.findObj_own T.hdC hno rfl (by rw [hlk, hu])) (handed_of ru) ⟨v, H', J1.tok _, ru, q⟩
end VX

set_option Elab.async false
set_option linter.all false
set_option maxRecDepth 100000
set_option maxHeartbeats 4000000
/-! isinstance of an exception that may have its own dict -/
namespace VX
open PySem PySem.Spec PySem.Calls PyProof.Rows PySem.W
section
variable {pg : Program} {wd : World} {B : Around} {Er : Value → Shared → Prop} {st : Shared} {F : Frag} {y D : Addr} {oy : Obj} {od : Option Obj}
theorem bindsAt {C : Addr} {nm : Str} {a g : Value} (hc : (clsIn F C).isSome = true) (h1 : findIn F (.ref C) nm = some (some a)) (h2 : specialIn F a "__get__" = some (some g)) (h3 : takesIn F a = some true) : findObj F C od nm = some (.bind g a) := by
  cases e : clsIn F C with
  | none => rw [e] at hc; cases hc
  | some cd => simp [findObj, e, h1, h2, h3]
structure ExIs (F : Frag) (D : Addr) : Prop where
  xc : L2.ExcC F D
theorem clsSome (h : hasDictIn F D = true) : (clsIn F D).isSome = true := by
  obtain ⟨cd, hc, _⟩ := any_some h
  rw [hc]; rfl
theorem class_of_exc {Q : Option Value → Shared → Prop} (T : L2.ExcC F D) (X : F.In st.heap) (I : InstAt st.heap y oy D od) (h : Q (some (.ref D)) { st with toks := st.toks + 1 }) : wpAny (model pg wd) B (getAttr? (.ref y) "__class__") Q Er st := by
  have fb : findObj F D od "__class__" = some (.bind (.builtin "getset_descriptor.__get__") (.builtin "object.__class__")) := bindsAt (clsSome T.hd) T.ha T.hn T.ht
  obtain ⟨hp, gs, dr, tk, os⟩ := st
  have a0 := I.type (M := model pg wd)
  have a1 := looks_findIn (M := model pg wd) X T.hg
  have a2 := looks_findIn (M := model pg wd) X T.hk
  have a3 := looks_find (M := model pg wd) X I fb
  have sb : Looks (model pg wd) hp (isInstance (.ref y) (.type "BaseException")) true := a0.andThen (looks_subIn X T.hs)
  have ne : (Value.builtin "BaseException.__getattribute__" == Value.builtin "object.__getattribute__") = false := by decide +kernel
  have nf : (onTheHeap (Value.ref D) && Value.builtin "BaseException.__getattribute__" == Value.builtin "object.__getattribute__") = false := by rw [ne]; rfl
  unfold getAttr? getAttrBy? getAttrBy
  refine wpAny_bind (wpAny_mkText (wpAny_bind (wpAny_attempt (wpAny_holding (wpAny_bind (a0.at (wpAny_bind (a1.at ?z1))))))))
  case z1 =>
    show wpAny _ _ (if (onTheHeap (Value.ref D) && Value.builtin "BaseException.__getattribute__" == Value.builtin "object.__getattribute__") = true then _ else _) _ _ _
    rw [nf, if_neg Bool.false_ne_true]; unfold getAttrByItsOwn hookBefore
    refine wpAny_bind ?z2
    case z2 =>
      rw [if_pos (show onTheHeap (Value.ref D) = true from rfl)]; refine a2.at (wpAny_bind (wpAny_attempt (wpAny_holding ?z3)))
      case z3 =>
        unfold callGetattribute; rw [show (false && onTheHeap (Value.builtin "BaseException.__getattribute__")) = false from rfl, if_neg Bool.false_ne_true]
        unfold boundAndCalled; rw [PySem.F.excAttr_ValueError.ga.bind (.ref y)]
        refine wpAny_bind (wpAny_pure ?z4)
        case z4 =>
          show wpAny _ _ (call (.builtin "BaseException.__getattribute__") [.ref y, .str "__class__" tk]) _ _ _
          refine wpAny_call (codeAny_call_builtin PySem.F.excAttr_ValueError.ga.plain PySem.F.entry_bexc_ga ?z5)
          case z5 =>
            refine @check_slot (model pg wd) _ _ ⟨hp, gs, dr, tk + 1, os⟩ "BaseException.__getattribute__" "BaseException" "__getattribute__" (.ref y) [.str "__class__" tk] [] _ (by decide +kernel) (by decide +kernel) sb (PySem.F.args_bexc_ga (.ref y) (.str "__class__" tk)) ?z6
            case z6 =>
              unfold Builtin.«object.__getattribute__»
              refine wpAny_bind (wpAny_of_eq (a := ((Value.ref y : Value), [Value.str "__class__" tk])) (by first | rfl | (simp only [slotArgs]; rfl)) (wpAny_bind (wpAny_pure (wpAny_bind (a0.at (wpAny_bind (a3.at ?z7)))))))
              case z7 =>
                show wpAny _ _ (holding [Value.builtin "object.__class__"] (call (.builtin "getset_descriptor.__get__") [.builtin "object.__class__", .ref y, .ref D]) >>= ret) _ _ _
                refine wpAny_bind (wpAny_holding (wpAny_call (class_get (s := ⟨hp, gs, dr, tk + 1, os⟩) (ox := oy) (od := od) X I T.hm (wpAny_pure ?z8))))
                case z8 =>
                  show wpAny _ _ (handedOut (.ref D)) _ _ _
                  rw [handedOut_of (v := .ref D) rfl]
                  first | exact wpAny_pure (wpAny_pure h) | exact wpAny_pure h | exact wpAny_pure (wpAny_bind (wpAny_pure (wpAny_pure h)))
theorem kitx_exd (T : L2.ExcC F D) : KitX F (.ref y) (.ref D) (fun h => ∃ oy od, InstAt h y oy D od) where
  ty := fun _ _ _ ⟨_, _, I⟩ => I.type
  it := fun M h X _ A Q E s k q => by
    have z := clsSome T.hd
    unfold clsIn at z
    split at z
    · rename_i hk
      unfold isType loadHead
      exact wpAny_bind (wpAny_loadPart (k _ _ (X _ _ hk)) (wpAny_pure q))
    · cases z
  ne := fun h tp dd its n sl X htp => by
    cases e : (Value.ref D == Value.ref tp) with
    | false => rfl
    | true =>
      have e2 : D = tp := Value.ref.inj (beq_iff_eq.mp e)
      subst e2
      have z := clsSome T.hd
      unfold clsIn at z
      split at z
      · rename_i hk
        exact nomatch (X _ _ hk).symm.trans htp
      · cases z
  ca := fun X ⟨_, _, I⟩ q => class_of_exc T X I q
end
end VX
namespace VX
open PySem PySem.Spec PyProof.Rows L2
/-- isinstance(e, c) of such an exception -/
def rIsX (K : PySem.W.Frag) : List V → Hp → VK → Prop := fun xs H Q => ∃ (a D : Addr) (d : Option Addr) (c : V) (cv : Value) (b : Bool), xs = [.ref a, c] ∧ ExcC K D ∧ H a = some (ExD (.ref D) d a) ∧ (∀ dd, d = some dd → ∃ o, H dd = some o) ∧ ClsV c cv ∧ PySem.W.kitOne K (.ref D) cv = some b ∧ Q (.bl b) H
theorem call_isX {X : Cx} : CallR X (.builtin "isinstance") (rIsX X.K) := by
  intro pins s σ H xs us Q I r h
  obtain ⟨a, D, d, c, cv, b, rfl, T, ha, hd, hc, e, q⟩ := h
  obtain ⟨u1, u2, rfl, r1, r2⟩ := vals2 r
  have e2 := hc.eq r2
  subst e2
  cases (show u1 = Value.ref a from r1)
  have ok : ObjOk X.prog X.w H s.heap a (.ext fun h => ∃ (oe : Obj) (vs : Array Value), h.get? a = some oe ∧ Zc (.ref D) d oe ∧ oe.data = .fields vs) := I.hok a _ ha
  obtain ⟨⟨oe, vs, ho, hz, hf⟩, _, _⟩ := ok
  have J : ∃ od, PySem.W.InstAt s.heap a oe D od := by
    have nc : PySem.W.notCls oe = true := by unfold PySem.W.notCls; rw [hf] <;> rfl
    cases d with
    | none => exact ⟨none, ho, hz.1, nc, by rw [hz.2]; trivial⟩
    | some dd =>
      obtain ⟨o, hdd⟩ := hd dd rfl
      obtain ⟨ob, hob⟩ := objOk_get (I.hok dd o hdd)
      exact ⟨some ob, ho, hz.1, nc, by rw [hz.2]; exact hob⟩
  obtain ⟨od, J⟩ := J
  exact PySem.W.kia_one (kitx_exd T) I.kIn ⟨oe, od, J⟩ e (fun z => nomatch z) fun tk => ⟨.bl b, H, I.tok tk, rfl, q⟩
end VX

set_option Elab.async false
set_option linter.all false
set_option maxRecDepth 100000
set_option maxHeartbeats 4000000
/-! C(f = v), C an exception's class with its own __init__ -/
namespace VX
open PySem PySem.Calls PySem.HandSPX
section
variable {M : Model} {pg : Program} {wd : World} {B : Around} {Er : Value → Shared → Prop} {R : Result → Shared → Prop} {hh : Heap} {gs : Array GenState} {dr : Drawn} {tk : Nat} {os : OsState}
variable {nm q : Str} {C N : Addr} {bs bm bB : List Value} {hd : Bool} {sn : List Str} {sub : List Value} {ab : Bool} {col : Option Bool} {dd : Option Addr} {m0 m1 m2 m3 m5 : Option Value} {T nid iid : String} {kw : List (Str × Value)}
theorem chkNewK (F : ExcBaseFacts T nid iid bB) (hT : ∀ Y : String, bm.contains (.type Y) = bB.contains (.type Y)) {Q : Unit → Shared → Prop} (hC : hh.get? C = some (excClassObj nm q C N bs bm hd sn sub ab col dd m0 m1 m2 m3 m5 nid)) (hq : Q () ⟨hh, gs, dr, tk, os⟩) :
    wpAny M B (checkBuiltinCall nid ⟨[.ref C], kw⟩) Q Er ⟨hh, gs, dr, tk, os⟩ := by
  have hc : (Value.ref C :: bm).contains (.type T) = true := by rw [List.contains_cons, hT, F.hasB, Bool.or_true]
  have hs := F.noStar
  simp only [checkBuiltinCall, F.newKind, F.newSplit, F.newRow]
  repeat (first | refine wpAny_loadPart_at hC ?_ | (refine wpAny_isSubtype_exc hC ?_; rw [hc]) | refine wpAny_staticBase_exc hC ?_ | refine wpAny_madeBy_exc hC ?_ | simp only [bne_self_eq_false, Bool.false_eq_true, if_false] | wp_step)
  exact hq
end
section
variable {pg : Program} {wd : World} {B : Around} {Er : Value → Shared → Prop} {R : Result → Shared → Prop} {hh : Heap} {gs : Array GenState} {dr : Drawn} {tk : Nat} {os : OsState}
variable {nm q : Str} {C N : Addr} {bs bm bB : List Value} {hd : Bool} {sn : List Str} {sub : List Value} {ab : Bool} {col : Option Bool} {dd : Option Addr} {m0 m1 m2 m3 m5 : Option Value} {T nid iid : String} {kw : List (Str × Value)}
/-- the heap behind C.__new__(C, f = v) -/
abbrev born (hh : Heap) (C : Addr) : Heap := (hh.push (W.kdv_tup [])).push (excO C hh.objs.size)
theorem newK (F : ExcBaseFacts T nid iid bB) (hT : ∀ Y : String, bm.contains (.type Y) = bB.contains (.type Y)) (hC : hh.get? C = some (excClassObj nm q C N bs bm hd sn sub ab col dd m0 m1 m2 m3 m5 nid))
    (hq : R (.ok (.ret (.ref (hh.objs.size + 1)))) ⟨born hh C, gs, dr, tk, os⟩) : codeAny (model pg wd) B (.builtin nid ⟨[.ref C], kw⟩) R ⟨hh, gs, dr, tk, os⟩ := by
  have he := F.ends
  have cB : (Value.ref C :: bm).contains (.type T) = true := by rw [List.contains_cons, hT, F.hasB, Bool.or_true]
  have cA : (Value.ref C :: bm).contains (.type "AttributeError") = false := by rw [List.contains_cons, hT, F.noAttr]; rfl
  have cN : (Value.ref C :: bm).contains (.type "NameError") = false := by rw [List.contains_cons, hT, F.noName]; rfl
  refine codeAny_builtinAt F.entry ?_
  unfold Builtin.«BaseException.__new__»
  refine wpAt_bind ?_
  show wpAt _ _ _ (stack >>= _) _ _ _
  refine wpAt_bind (wpAt_stack fun p below => wpAt_of_wpAny ?_)
  wp_walk
  refine wpAt_of_wpAny ?_
  rw [F.owner]
  repeat (first | with_reducible refine wpAny_madeHere_exc F.canon hC ?_ | with_reducible refine wpAny_loadPart_at hC ?_ | (with_reducible refine wpAny_isSubtype_exc hC ?_; first | rw [cB] | rw [cA] | rw [cN]) | wp_step)
  show R _ _
  rw [Heap.size_push]
  exact hq
theorem typeCallK (F : ExcBaseFacts T nid iid bB) (hT : ∀ Y : String, bm.contains (.type Y) = bB.contains (.type Y)) {fI : Addr} {Q : Fin → Shared → Prop} (hC : hh.get? C = some (excClassObj nm q C N bs bm hd sn sub ab col dd m0 m1 m2 m3 m5 nid))
    (hi : W.Looks (model pg wd) hh (typeLookup (.ref C) "__init__") (some (.ref fI))) (hb : ∀ o, W.Looks (model pg wd) hh (bindSpecial (.ref fI) o) (.ref fI, [o]))
    (hq : codeAny (model pg wd) B (.call (.ref fI) ⟨[.ref (hh.objs.size + 1)], kw⟩) (fun r s' => match r with | .ok (.ret v) => v = .none ∧ Q (.done (.ret (.ref (hh.objs.size + 1)))) s' | .ok _ => False | .error e => Er e s') ⟨born hh C, gs, dr, tk, os⟩) :
    wpAny (model pg wd) B (Builtin.«type.__call__» ⟨[.ref C], kw⟩) Q Er ⟨hh, gs, dr, tk, os⟩ := by
  repeat (first | with_reducible refine wpAny_loadPart_at hC ?_ | with_reducible refine wpAny_madeBy_exc hC ?_ | wp_step)
  refine codeAny_call_builtin_code (Code.quiet_builtin _ F.quiet) (chkNewK F hT hC (newK F hT hC ?_))
  show wpAny _ _ _ _ _ _
  have k : ∀ b o, hh.get? b = some o → (born hh C).get? b = some o := fun b o e => Heap.get?_push_of_some _ (Heap.get?_push_of_some _ e)
  have hC1 := k _ _ hC
  have hg : (born hh C).get? (hh.objs.size + 1) = some (excO C hh.objs.size) := by heap_get
  have cC : (Value.ref C :: bm).contains (.ref C) = true := by simp
  have i1 := hi.keeps k
  have b1 := (hb (.ref (hh.objs.size + 1))).keeps k
  unfold isInstance
  repeat (first | with_reducible refine wpAny_loadPart_at hg ?_ | (with_reducible refine wpAny_isSubtype_exc hC1 ?_; rw [cC]) | wp_step)
  show wpAny _ _ (typeLookup (.ref C) _) _ _ _
  refine i1.at ?_
  refine wpAny_holding (wpAny_bind (b1.at (wpAny_bind (wpAny_call (codeAny_mono hq fun r s' z => ?_)))))
  rcases r with e | (v | _ | _ | _) <;> first | exact z | exact z.elim | skip
  obtain ⟨rfl, z⟩ := z
  first
    | exact wpAny_pure (wpAny_pure z)
    | (wp_walk; exact z)
theorem callK (F : ExcBaseFacts T nid iid bB) (hT : ∀ Y : String, bm.contains (.type Y) = bB.contains (.type Y)) {fI : Addr} (hC : hh.get? C = some (excClassObj nm q C N bs bm hd sn sub ab col dd m0 m1 m2 m3 m5 nid))
    (hi : W.Looks (model pg wd) hh (typeLookup (.ref C) "__init__") (some (.ref fI))) (hb : ∀ o, W.Looks (model pg wd) hh (bindSpecial (.ref fI) o) (.ref fI, [o]))
    (hq : codeAny (model pg wd) (B.under (.builtin "type.__call__" ⟨[.ref C], kw⟩)) (.call (.ref fI) ⟨[.ref (hh.objs.size + 1)], kw⟩) (W.InitBack (hh.objs.size + 1) R) ⟨born hh C, gs, dr, tk, os⟩) :
    codeAny (model pg wd) B (.call (.ref C) ⟨[], kw⟩) R ⟨hh, gs, dr, tk, os⟩ := by
  have f1 := tc_lookup
  have f2 := tc_bind (.ref C)
  have tT : (⟨hh, gs, dr, tk, os⟩ : Shared).TypeIs (.ref C) "type" := ⟨_, hC, rfl⟩
  have ck : wpAny (model pg wd) B.in1 (checkBuiltinCall "type.__call__" ⟨[.ref C], kw⟩) (fun _ s => s = ⟨hh, gs, dr, tk, os⟩) (fun _ _ => False) ⟨hh, gs, dr, tk, os⟩ := by
    have f3 := tc_sub
    simp only [checkBuiltinCall, tc_kind, tc_split]
    repeat (any_goals (first | assumption | rfl | with_reducible refine wpAny_loadPart_at hC ?_ | with_reducible refine wpAny_onRaise ?_ | with_reducible refine wpAny_map ?_ | wp_step))
  refine codeAny_of_tree ?_
  show wpAny _ _ (callAny (.ref C) _) _ _ _
  repeat (any_goals (first | assumption | with_reducible refine wpAny_loadPart_at hC ?_ | wp_step))
  refine ⟨rfl, codeAny_call_builtin_at (Code.quiet_builtin _ (by decide +kernel)) entry_typeCall (wpAny_mono ck (fun _ s' e => ?_) fun _ _ z => False.elim z)⟩
  subst e
  refine typeCallK F hT hC hi hb (codeAny_mono hq fun r s' z => ?_)
  rcases r with e | (v | _ | _ | _) <;> exact z
end
end VX
namespace VX
open PySem PySem.Spec PyProof.Rows L2
/-- C(f = v), C's own __init__ keeping sp -/
def tMkK (C : Addr) (sp : Sp) (ta : TA) : L2.St → Hp → XK → Prop := fun σ H Q => ta σ H fun zs H1 => zs.length = 1 ∧ ∀ a, H1 a = none → sp (.ref a :: zs) (upd H1 a (exo a C none))
  (fun v H2 => v = .non ∧ ∃ (d : Addr) (fs : List (Str × V)), H2 a = some (exo a C (some d)) ∧ H2 d = some (exd d fs) ∧ H1 d = none ∧ Q (.ref C) (some d) (upd (del H2 a) d (.xd fs))) (fun _ _ _ => False)
theorem pmk_oexK {X : Cx} {CX : CXT} {x f : Str} {C fI : Addr} {k : Nat} {fd : FuncData} {sp : Sp} {p kpos pos : Pos} {e : Expr} {ta : TA} (T : OexC X.K C) (iC : PySem.W.findIn X.K (.ref C) "__init__" = some (some (.ref fI))) (tI : PySem.W.typeIn X.K (.ref fI) = some (.type "function"))
    (F1 : FnOk X.prog X.w X.K X.mg X.base CX k fI fd ["self", f] sp) (hr : Room (k + 1) X.A) (hb : ∀ (s : Shared) (u v : Value), X.K.In s.heap → BindsTo s fd ⟨[u], [(f, v)]⟩ [("self", u), (f, v)]) (hx : Passes CX X (fun _ _ _ => False)) (hg : Gl X x) (hm : X.mg x = some (.ref C))
    (ha : PK X [⟨some f, e, kpos⟩] ta) (hdb : (x == ("__debug__" : Str)) = false := by decide) (hpl : ((backTo pos (starEach [] X.env)).any (·.1) || (backToKw pos (keywordEach [⟨some f, e, kpos⟩] X.env)).any (·.1.isNone)) = false := by rfl)
    (hall : (backToKw pos (keywordEach [⟨some f, e, kpos⟩] X.env)).all (·.1.isSome) = true := by rfl) (hks : (backToKw pos (keywordEach [⟨some f, e, kpos⟩] X.env)).filterMap (·.1) = [f] := by rfl) :
    PMk X (.Call (.Name x p) [] [⟨some f, e, kpos⟩] pos) (tMkK C sp ta) := by
  intro pins s σ H Q I h
  obtain ⟨nm, q, N, bs, bm, sn, sub, ab, col, dd, k0, k1, k2, k3, k5, hC, hbm⟩ := T.cls
  refine wpAny_Call_Name_kw (ld_glob I hg hm ?_ hdb)
  refine PySem.W.callWith_KW0 (h₀ := X.base) I.ok.mod.kin T.kC hall ?_ hpl
  refine thn (ha.run pos pins s σ H _ I h) fun ws s1 ⟨zs, H1, I1, rz, l1, q1⟩ => ⟨I1.kIn, ?_⟩
  rw [hks]
  obtain ⟨z, rfl⟩ : ∃ z, zs = [z] := by
    cases zs with
    | nil => cases l1
    | cons z r =>
      cases r with
      | nil => exact ⟨z, rfl⟩
      | cons _ _ => cases l1
  obtain ⟨u, rfl, ru⟩ := vals1 rz
  show wpAny _ _ (call (.ref C) [] [(f, u)]) _ _ _
  obtain ⟨hp, g, dr, tk, os⟩ := s1
  have hsz : hp.objs.size ≤ hp.objs.size + 1 := Nat.le_succ _
  have hn : H1 (hp.objs.size + 1) = none := I1.hok.fresh hsz
  have hq := q1 (hp.objs.size + 1) hn
  have kk : ∀ b o, hp.get? b = some o → (born hp C).get? b = some o := fun b o e => Heap.get?_push_of_some _ (Heap.get?_push_of_some _ e)
  have hget : (born hp C).get? (hp.objs.size + 1) = some (PySem.HandSPX.excO C hp.objs.size) := by heap_get
  have I2 : L2.Inv X pins σ (upd H1 (hp.objs.size + 1) (exo (hp.objs.size + 1) C none)) ⟨born hp C, g, dr, tk, os⟩ :=
    I1.laid (t' := tk) (a := hp.objs.size + 1) (o := exo (hp.objs.size + 1) C none) (h' := born hp C) kk hsz (exo_ok hget)
  have r2 : Vals [V.ref (hp.objs.size + 1), z] [Value.ref (hp.objs.size + 1), u] := .cons rfl (.cons ru .nil)
  have e1 : Env0 X.prog X.w X.K X.mg X.base (X.A.under (.builtin "type.__call__" ⟨[.ref C], [(f, u)]⟩)) X.stack ⟨born hp C, g, dr, tk, os⟩ (upd H1 (hp.objs.size + 1) (exo (hp.objs.size + 1) C none)) := I2.env0.make C [] [(f, u)]
  refine wpAny_call (callK PySem.F.excBase_ValueError (fun Y => PySem.HandSPX.refsVE_contains Y bm hbm) (I1.kIn _ _ hC) (PySem.W.looks_findIn I1.kIn iC) (fun o => PySem.W.bind_fn I1.kIn o tI)
    (codeAny_mono (F1.run _ X.stack _ _ ⟨[Value.ref (hp.objs.size + 1)], [(f, u)]⟩ [Value.ref (hp.objs.size + 1), u] _ _ (fun _ _ _ => False) (hr.make C [] [(f, u)]) e1 (hb _ _ _ I2.kIn) r2 hq) fun r s' hq' => ?_))
  cases r with
  | error er => exact hx pins σ _ _ er s' I2 hq'
  | ok fl =>
    cases fl with
    | ret u =>
      obtain ⟨v, H2, os2, bare2, un2, hok2, rv, ev, d, fs, ea, ed, hd1, q2⟩ := hq'
      subst ev
      obtain ⟨h2, g2, d2, t2, os'⟩ := s'
      exact ⟨rv, mk_end (raises_own T.exC T.tyC) I1 hsz kk un2 hok2 os2 bare2 ea ed hd1 q2⟩
    | next => exact False.elim hq'
    | brk => exact False.elim hq'
    | cont => exact False.elim hq'
/-- C(), C an exception's class without an __init__ of its own -/
theorem pmk_own0 {X : Cx} {C : Addr} {bmB : List Value} {B newId initId : String} {x : Str} {p pos : Pos} (F : ExcBaseFacts B newId initId bmB) (q : PySem.W.excIn X.K C bmB newId = true) (gC : X.mg x = some (.ref C)) (kC : PySem.W.keepIn X.K (.ref C) = true) (r : Raises X (.ref C)) (hg : Gl X x)
    (hdb : (x == ("__debug__" : Str)) = false := by decide) : PMk X (.Call (.Name x p) [] [] pos) (fun _ H Q => Q (.ref C) none H) := by
  intro pins s σ H Q I h
  refine wpAny_Call_Name_kw (ld_glob I hg gC ?_ hdb)
  refine PySem.W.callWith_K0 I.kIn kC ?_
  show wpAny _ _ (call (.ref C) []) _ _ _
  obtain ⟨bm, N, nm, qn, bs, hdct, sn, sub, ab, col, dd, k0, k1, k2, k3, k5, mN, hC, hN, hni, T⟩ := exc_obj I.kIn q
  refine wpAny_call_exc_subT F T hC hN hni (fun h' e hm => ?_) (by show 0 ≤ sizeLine; omega)
  exact mk_of I hm r h (I.hok.gone hm.new)
end VX

set_option Elab.async false
set_option linter.all false
set_option maxRecDepth 100000
set_option maxHeartbeats 4000000
/-! defs that are called where no repr runs -/
namespace VX
open PySem PySem.Spec PyProof.Rows L2
/-- a def's promise, kept wherever no repr runs around the call -/
structure GFn (P : Program) (w : World) (K : PySem.W.Frag) (mg : Str → Option Value) (base : Heap) (k : Nat) (f : Addr) (fd : FuncData) (ps : List Str) (sp : Sp) : Prop where
  len : ∀ {vs H Q E}, sp vs H Q E → vs.length = ps.length
  go : ∀ {A : Around}, A.guards = some [] → Room k A → ∀ {outer : List Env} {s : Shared} {H : Hp}, Env0 P w K mg base A outer s H → ∀ {args : Args} {us : List Value} {vs : List V} {Q : VK} {E : XK}, BindsTo s fd args (ps.zip us) → Vals vs us → sp vs H Q E →
    codeAny (model P w) A (.call (.ref f) args) (CR CX0 outer P w H s Q E) s
section
variable {P : Program} {w : World} {K : PySem.W.Frag} {mg : Str → Option Value} {base : Heap} {x qual : Str} {pa : Arguments} {bd : List Stmt} {sc : Scope} {f : Addr} {fd : FuncData} {N ps : List Str} {k : Nat} {sp : Sp}
/-- the rule for such a def: the guards told -/
theorem GFn.of (F : FunD K x qual pa bd sc [] [] f fd) (S : FnScope N ps sc) (len : ∀ {vs H Q E}, sp vs H Q E → vs.length = ps.length)
    (body : ∀ (cdv : Value) (A : Around) (outer : List Env) (s : Shared) (H : Hp) (vs : List V) (Q : VK) (E : XK), A.guards = some [] → Room k (A.deeper (envOfC qual sc s.heap.objs.size f cdv)) → sp vs H Q E →
      ∃ t, PSs (cxOf CX0 P w K mg base N qual sc f cdv A outer s H E).nox bd t ∧ t { nx := fun _ H' => Q .non H', rt := Q } (start N vs) H) : GFn P w K mg base (k + 1) f fd ps sp := by
  obtain ⟨oc, od, dV, kV, doc, pm, an, cdv, ct, osl, rfl, lk, hcd, _, _⟩ := F.ex
  refine ⟨len, fun {A} hg hr {outer s H} e0 {args us vs Q E} hb r q => ?_⟩
  have KX : K.In s.heap := e0.mod.kin.keeps fun b o e => (e0.bs b o e).1
  have nl : s.heap.NoLimit := e0.mod.nolimit.keeps fun b o e => (e0.bs b o e).1
  have kinds : ∀ y ∈ ps.zip us, sc.names.lookup y.1 = some .local ∨ (sc.names.lookup y.1 = some .cell ∧ ((cellsFrom (s.heap.objs.size + 1) sc.names []).lookup y.1).isSome = true) := by
    rintro ⟨n, v⟩ hy
    have hn := S.par n (List.of_mem_zip hy).1
    exact hn.elim .inl fun z => .inr ⟨z, PySem.W.cellsFrom_some _ _ _ (.inl z)⟩
  refine codeAny_call_function hr.depth (KX _ _ lk) rfl S.co S.gen rfl (PySem.W.codeRec_of KX hcd) (hb _ _ _ _ (wpAny_newFunctionEnv_cells S.kind kinds ?_))
  rintro env rfl s1 ic
  refine ⟨nl.keeps ic.toInCall.keep, codeAny_func ?_⟩
  obtain ⟨t, ht, tq⟩ := body cdv A outer s H vs Q E hg (hr.deeper _) q
  have I : L2.Inv (cxOf CX0 P w K mg base N qual sc f cdv A outer s H E) [] (start N vs) H s1 := inv_start S hr.hd e0 (len q) r ic
  have back : ∀ {σ' : L2.St} {H' : Hp} {s' : Shared} {v : V} {u : Value}, L2.Inv (cxOf CX0 P w K mg base N qual sc f cdv A outer s H E) [] σ' H' s' → RelV v u → Q v H' → CE outer P w H s Q u s' :=
    fun J rv z => ⟨_, _, J.os, J.bare, J.base, J.hok, rv, z⟩
  refine wpAny_mono (ht.nox.run [] s1 (start N vs) H _ I tq) (fun fl s' h => ?_) fun _ _ h => h
  cases fl with
  | next => obtain ⟨_, _, J, z⟩ := h; exact back (v := V.non) (u := Value.none) J rfl z
  | ret u => obtain ⟨_, _, _, J, rv, z⟩ := h; exact back J rv z
  | brk => obtain ⟨_, _, _, z⟩ := h; exact z.elim
  | cont => obtain ⟨_, _, _, z⟩ := h; exact z.elim
end
section
variable {X : Cx} {k : Nat} {f : Addr} {fd : FuncData} {ps : List Str} {sp : Sp} {x : Str} {p pos : Pos} {e : Expr} {es : List Expr} {t : TA}
/-- f(e, ..) of such a def, where no repr runs -/
theorem pe_gcall (F : GFn X.prog X.w X.K X.mg X.base k f fd ps sp) (hg0 : X.A.guards = some []) (hr : Room k X.A) (hg : Gl X x) (hm : X.mg x = some (.ref f)) (hk : PySem.W.keepIn X.K (.ref f) = true) (hb : Binds X.K fd ps []) (ha : PA X (e :: es) t)
    (hdb : (x == ("__debug__" : Str)) = false := by decide) (he : starEach (e :: es) X.env = (false, eval e X.env) :: starEach es X.env := by rfl) (hpl : (backTo pos (starEach es X.env)).any (·.1) = false := by rfl) :
    PE X (.Call (.Name x p) (e :: es) [] pos) (tCall sp [] E0 t) := by
  refine ⟨fun pins s σ H Q I h => wpAny_Call_Name_kw (ld_glob I hg hm ?_ hdb)⟩
  refine PySem.W.callWith_K (h₀ := X.base) I.ok.mod.kin hk (thn (ha.run pos pins s σ H _ I h) fun us s1 ⟨vs, H1, I1, r, q⟩ => ⟨I1.kIn, ?_⟩) he hpl
  have q : sp vs H1 Q E0 := by have z : sp (vs ++ []) H1 Q E0 := q; rw [List.append_nil] at z; exact z
  have hl : us.length = ps.length := by rw [← r.length]; exact F.len q
  have b := hb s1 us I1.kIn (by rw [List.append_nil]; exact hl)
  rw [List.append_nil] at b
  refine wpAny_call (codeAny_mono (F.go hg0 hr I1.env0 b r q) fun r s' hq => ?_)
  match r, hq with
  | .ok (.ret u), hq => exact I1.after hq
  | .error _, hq => exact hq.elim
end
/-- the call's base: the heap without the script -/
theorem base_of {P : Program} {w : World} {K : PySem.W.Frag} {mg mb : Str → Option Value} {s : Shared} {H : Hp} {a : Addr} {vs : Array Value} (KX : K.In s.heap) (g1 : s.heap.Ns mainGlobals mg) (g2 : s.heap.Ns builtinsNs mb) (g3 : ∀ x : Str, x ≠ "__name__" → mb x = bootBuiltins x)
    (g4 : s.heap.NoLimit) (g5 : s.gens = #[]) (ha : s.heap.get? a = some { cls := .type "list", data := .seq vs }) (ok : HOk P w H s.heap) (only : ∀ b, b ≠ a → H b = none) (hK : H a ≠ none → K.lookup a = none) : Env0 P w K mg (hidT s.heap H) callerA [] s H := by
  have dk : ∀ {b : Addr} {o : Obj} {es : Array DictEntry} {ep : Nat}, s.heap.get? b = some o → o.data = .dict es ep → H b = none := by
    intro b o es ep e d
    by_cases hb : b = a
    · rw [hb, ha] at e
      rw [← Option.some.inj e] at d
      cases d
    · exact only b hb
  have ns : ∀ {b : Addr} {m : Str → Option Value}, s.heap.Ns b m → (hidT s.heap H).Ns b m := by
    rintro b m ⟨o, es, ep, e, d, r⟩
    exact ⟨o, es, ep, hidT_get e (dk e d), d, r⟩
  have kin : K.In (hidT s.heap H) := by
    intro b o e
    refine hidT_get (KX b o e) ?_
    by_cases hb : b = a
    · subst hb
      cases z : H b with
      | none => rfl
      | some u => rw [hK (by rw [z]; exact fun n => nomatch n)] at e; cases e
    · exact only b hb
  obtain ⟨mc, l1, l2⟩ := g4
  exact { frames := rfl, mod := { kin := kin, glob := ns g1, blt := ⟨mb, ns g2, g3⟩, nolimit := ⟨mc, ns l1, l2⟩ }, bs := fun b o e => of_hidT e, bsz := Nat.le_of_eq (hidT_size _ _), funs := trivial, frf := fun b hb => (nomatch hb), hok := ok, bare := .of_eq g5 }
/-- the law's own end, its def's promise kept where no repr runs -/
theorem walk_g {l : PySem.W.OpenLaw} {n k : Nat} {q : Program} {loose : List Str} {XP : (Str → Option Value) → Heap → Prop} {YP : World → Heap → Prop} {d : DefRec} {x : Str}
    (hn : l.most = some n) (hn2 : n ≤ sizeLine) (hdf : d.params.defaults = []) (hr : Room k callerA)
    (F : ∀ (w : World) (mg : Str → Option Value) (fa : Addr) (h : Heap), YP w h → h.Ns mainGlobals mg → mg d.name = some (.ref fa) →
      ∃ (K : PySem.W.Frag) (fd : FuncData) (sp : Sp), K.In h ∧ (∀ (s : Shared) (u : Value), BindsTo s fd ⟨[u], []⟩ [(x, u)]) ∧
        (∀ (H : Hp) (a : Addr) (ns : List Int), ns.length ≤ n → Only H → SqL K H a (ns.map V.int) → sp [.ref a] H (fun v _ => v = .bl true) fun _ _ _ => False) ∧
        ∀ base : Heap, K.In base → base.Ns mainGlobals mg → GFn l.prog w K mg base k fa fd [x] sp) :
    PySem.W.WalkO q loose XP YP l.row.toRowW d [] (fun f vs => PySem.call f vs) := by
  refine Att.attach_call hn hdf fun w s₀ s₁ mg mb fa o pm cd doc a vs ns G Y ho hd hcd hmg hobj hints hlen hg => ?_
  obtain ⟨K, fd, sp, KX, hb, hsp, hF⟩ := F w mg fa _ Y G.T.g hmg
  have rv := vals_ints hints
  have lv := hints.length
  have core : ∀ H : Hp, Only H → SqL K H a (ns.map V.int) → HOk l.prog w H s₁.heap → (∀ b, b ≠ a → H b = none) → (H a ≠ none → K.lookup a = none) →
      codeAny (model l.prog w) callerA (.call (.ref fa) ⟨[.ref a], []⟩) (fun r s' => r = .ok (.ret (.bool true)) ∧ OldK s₁.heap s'.heap ∧ s'.os = s₁.os ∧ AllBare s'.gens) s₁ := by
    intro H oH sH ok on hK
    have e0 := base_of (P := l.prog) (w := w) (mg := mg) KX G.T.g G.T.b G.T.builtins G.T.nolimit hg hobj ok on hK
    refine codeAny_mono ((hF _ e0.mod.kin e0.mod.glob).go (A := callerA) rfl hr e0 (us := [.ref a]) (vs := [V.ref a]) (hb s₁ (.ref a)) (.cons rfl .nil) (hsp H a ns hlen oH sH)) fun r s' h => ?_
    match r, h with
    | .error _, h => exact h.elim
    | .ok (.ret u), h =>
      obtain ⟨v, H', os, bare, un, ok', rr, rfl⟩ := h
      refine ⟨congrArg (fun u => Except.ok (Flow.ret u)) rr, OldK.of_keep fun b o e => ?_, os, bare⟩
      rcases oH b with z | ⟨ob, xs, z⟩
      · exact un.keep b o e z (fun m => nomatch m) (by simp)
      · have f1 := (ok b _ z).1
        have f2 := (ok' b _ (un.frzs b ob _ z)).1
        rw [e] at f1
        rw [f2, ← Option.some.inj f1]
  cases hk : K.lookup a with
  | some o1 =>
    have e := KX a o1 hk
    rw [hobj] at e
    cases e
    refine core (fun _ => none) (fun _ => .inl rfl) (.inr ⟨_, vs.toArray, _, hk, rfl, rfl, rfl, ?_, by simpa using rv⟩) (fun b u z => nomatch z) (fun b _ => rfl) fun z => absurd rfl z
    rw [List.size_toArray, lv]
    exact Nat.le_trans hlen hn2
  | none =>
    let fz : HO := .frz { cls := .type "list", data := .seq vs.toArray } (.lst (ns.map V.int))
    refine core (upd (fun _ => none) a fz) (fun b => ?_) (.inl (.inr ⟨_, upd_same⟩)) (fun b u z => ?_) (fun b hb => upd_ne hb) fun _ => hk
    · by_cases hb : b = a
      · exact .inr ⟨_, _, by rw [hb]; exact upd_same⟩
      · exact .inl (upd_ne hb)
    · by_cases hb : b = a
      · subst hb
        rw [upd_same] at z
        cases z
        exact ⟨hobj, by rw [List.length_map]; exact Nat.le_trans hlen hn2, vs, _, rv, hobj⟩
      · rw [upd_ne hb] at z
        cases z
end VX

set_option Elab.async false
set_option linter.all false
set_option maxRecDepth 100000
set_option maxHeartbeats 4000000
/-! # for i, c in enumerate(a text, start=k); x + y by an own __add__; replace in a def -/
namespace VX
open PySem PySem.Spec PyProof.Rows L2
/-! ### enumerate(text, start=k) -/
def IteS (x : Str) (k0 : Int) : It :=
  ⟨fun i _ => i < x.cps.size, fun i H v H' => ∃ T c, v = .ref T ∧ H T = none ∧ x.cps[i]? = some c ∧ H' = upd H T (.tup [.int (k0 + (i : Nat)), .str ⟨#[c]⟩]), fun i _ => x.cps.size = i⟩
structure EnS (x : Str) (t : Tok) (k0 : Int) (h : Heap) (e j : Addr) (i : Nat) : Prop where
  en : ∃ old, IsEnum h e j (k0 + (i : Int)) old
  hj : h.IsStrIter j (strIterType x) x t i
  ei : e ≠ j
theorem turn_enumS {P : Program} {w : World} {K : PySem.W.Frag} {elts : List Expr} {kk : Nat} {tpos : Pos} (x : Str) (t : Tok) (k0 : Int) (e it : Addr) :
    Turn P w K (.Tuple elts kk tpos) (IteS x k0) [e, it] e (fun i h => EnS x t k0 h e it i) where
  mem := by simp
  obj := fun i h st b hb => by
    obtain ⟨⟨old, he⟩, ⟨o, ho, _, hd⟩, _⟩ := st
    rcases (by simpa using hb : b = e ∨ b = it) with rfl | rfl
    · exact ⟨_, he, fun v q => nomatch q⟩
    · exact ⟨o, ho, fun v q => by rw [hd] at q; cases q⟩
  keep := fun i h h' st k => by
    obtain ⟨⟨old, he⟩, ⟨o, ho, r⟩, n1⟩ := st
    exact ⟨⟨old, k e (by simp) _ he⟩, ⟨o, k it (by simp) _ ho, r⟩, n1⟩
  item := by
    intro X hP hw hK hc i pins s σ H E I hf st hg
    subst hP hw hK
    obtain ⟨⟨old, he⟩, hit, n1⟩ := st
    have el : e < s.heap.objs.size := Heap.lt_size he
    have il : it < s.heap.objs.size := by obtain ⟨_, q, _⟩ := id hit; exact Heap.lt_size q
    refine wpAny_pyNext_enum_itemC (Draws.text (prog := X.prog) (w := X.w) (A := X.A.in1) (I.ok.hd hc) it x t) he hit hg n1 (by simp [n1]) fun y h' tk hy ho hst hT _ hk => ?_
    obtain ⟨c, u, hcx, rfl⟩ := hy
    refine ⟨_, rfl, wpAny_letOwnedTupleGo_enum (s := { s with heap := h', toks := tk + 1 }) ho fun h2 he2 sb => ?_⟩
    have hT2 : h2.get? s.heap.objs.size = some { cls := .type "tuple", data := .seq #[.int (k0 + (i : Int)) tk, .str ⟨#[c]⟩ u] } := (sb.2 _ (Nat.ne_of_gt el)).trans hT
    have new : ObjOk X.prog X.w (upd H s.heap.objs.size (.tup [.int (k0 + (i : Nat)), .str ⟨#[c]⟩])) h2 s.heap.objs.size (.tup [.int (k0 + (i : Nat)), .str ⟨#[c]⟩]) :=
      ⟨by show 2 ≤ sizeLine; decide, [.int (k0 + (i : Int)) tk, .str ⟨#[c]⟩ u], .cons ⟨_, rfl⟩ (.cons ⟨_, rfl⟩ .nil), ⟨_, hT2, rfl, _, rfl⟩⟩
    have I1 : Inv X pins σ (upd H s.heap.objs.size (.tup [.int (k0 + (i : Nat)), .str ⟨#[c]⟩])) { s with heap := h2, toks := tk + 1 } :=
      I.turnedNew (ch := [e, it]) (fun b ob hb q => (sb.2 b fun z => hb (by simp [z])).trans (hk b ob (fun z => hb (by simp [z])) (fun z => hb (by simp [z])) q)) hf (Nat.le_refl _) new
    refine ⟨.ref s.heap.objs.size, _, I1, rfl, ⟨_, c, rfl, I.hok.fresh (Nat.le_refl _), hcx, rfl⟩, ⟨⟨.str ⟨#[c]⟩ u, ?_⟩, ?_, n1⟩, fun b hb => ?_⟩
    · rw [show k0 + ((i + 1 : Nat) : Int) = k0 + (i : Int) + 1 by omega]
      exact he2
    · obtain ⟨o, ho', r⟩ := hst
      exact ⟨o, (sb.2 it (Ne.symm n1)).trans ho', r⟩
    · have lt : b < s.heap.objs.size := by
        rcases (by simpa using hb : b = e ∨ b = it) with rfl | rfl
        · exact el
        · exact il
      rw [upd_ne (Nat.ne_of_lt lt)]
      exact (hf b hb).1
  done := by
    intro X hP hw hK hc i pins s σ H E I hf st hg
    subst hP hw hK
    obtain ⟨⟨old, he⟩, hit, n1⟩ := st
    obtain ⟨f0, f1, f2, f3, f4, f5⟩ := hf it (by simp)
    have hg : x.cps.size = i := hg
    subst hg
    exact wpAny_pyNext_enum_endD (Draws.text (prog := X.prog) (w := X.w) (A := X.A.in1) (I.ok.hd hc) it x t) he hit fun h' eb => ⟨rfl, I.turned (t' := s.toks) (fun b o hb q => eb b o hb q) f0 f1 f3 f4 f5⟩
  self := fun A i s Q E st h => let ⟨_, he⟩ := st.en; wpAny_pyIter_enum he h
def iEnumS (ta : TA) (k0 : Int) : TI := fun σ H R => ta σ H fun vs H1 => ∃ x, vs = [.str x] ∧ R (IteS x k0) H1
theorem walk_enumS {x : Str} {k0 : Int} : Walk (IteS x k0) x.cps.size (fun _ => True) (YPair (fun i => some (.int (k0 + (i : Nat)))) (fun i => x.cps[i]?.map fun c => .str ⟨#[c]⟩)) := by
  refine ⟨fun i _ hi _ => hi, fun _ _ => rfl, fun i H v H' _ _ y => ?_⟩
  obtain ⟨T, c, k1, k2, k3, k4⟩ := y
  exact ⟨T, .int (k0 + (i : Nat)), .str ⟨#[c]⟩, k1, k2, k4, rfl, by show x.cps[i]?.map _ = _; rw [k3]; rfl⟩
theorem callWith_type_kw {M : Model} {A : Around} {E : Value → Shared → Prop} {s : Shared} {pos : Pos} {T : String} {args : List (Bool × Sem Value)} {kws : List (Option Str × Sem Value)} {Q : Value → Shared → Prop} (hplain : args.any (·.1) = false) (hkw : kws.any (·.1.isNone) = false)
    (h : wpAny M A (evalArgs (.type T) true args kws) (fun a s₁ => wpAny M A (call (.type T) a.pos a.kw) Q E s₁) E s) :
    wpAny M A (callWith pos (.type T) [] args kws) Q E s := by
  unfold callWith
  refine wpAny_bind (wpAny_holding (wpAny_mono h (fun a s₁ h₁ => wpAny_bind (wpAny_standAt ?_)) fun _ _ x => x))
  simp only [hplain, hkw, Bool.or_false]
  refine wpAny_bind (wpAny_pure ?_)
  exact wpAny_bind (wpAny_mono h₁ (fun r s₂ hr => wpAny_bind (wpAny_holding (wpAny_point (wpAny_pure hr)))) fun _ _ x => x)
theorem pi_enumS {X : Cx} {e : Expr} {ta : TA} {p pos tpos kp kp2 : Pos} {elts : List Expr} {kk jz : Nat} {k0 : Int} (hg : Gl X "enumerate") (hm : X.mg "enumerate" = none) (ha : PA X [e] ta) (h0 : -(2 ^ 63) ≤ k0 := by decide) (h1 : k0 < 2 ^ 63 := by decide)
    (st : starEach [e] X.env = (false, eval e X.env) :: starEach [] X.env := by rfl)
    (hall : (backToKw pos (keywordEach [⟨some "start", .Constant (.int k0) jz kp, kp2⟩] X.env)).all (·.1.isSome) = true := by rfl)
    (hkw : (backToKw pos (keywordEach [⟨some "start", .Constant (.int k0) jz kp, kp2⟩] X.env)).any (·.1.isNone) = false := by rfl)
    (hks : (backToKw pos (keywordEach [⟨some "start", .Constant (.int k0) jz kp, kp2⟩] X.env)).filterMap (·.1) = [("start" : Str)] := by rfl)
    (hpl : (backTo pos (starEach [e] X.env)).any (·.1) = false := by rfl)
    (hbt : backTo pos (starEach [e] X.env) = (false, eval e X.env) :: backTo pos (starEach [] X.env) := by rfl) :
    PI X (.Tuple elts kk tpos) (.Call (.Name "enumerate" p) [e] [⟨some "start", .Constant (.int k0) jz kp, kp2⟩] pos) (iEnumS ta k0) := by
  have hk : PK X [⟨some "start", .Constant (.int k0) jz kp, kp2⟩] (tCons (tC (.int k0)) tNil) := pk_cons pe_int pk_nil
  refine ⟨fun pins s σ H R I h => ?_⟩
  refine wpAny_Call_Name_kw (ld_blt I hg hm boot_enumerate ?_)
  refine callWith_type_kw hpl hkw ?_
  have run := ha.run pos pins s σ H _ I h
  rw [hbt] at run ⊢
  refine evalArgs_kwB hall (thn run fun us s1 ⟨vs, H1, I1, r1, x, ex, q1⟩ => ?_)
  subst ex
  obtain ⟨u, rfl, ru⟩ := vals1 r1
  obtain ⟨t, rfl⟩ := ru
  refine thn (hk.run pos pins s1 σ H1 (fun zs H2 => H2 = H1 ∧ zs = [.int k0]) I1 ⟨rfl, rfl⟩) fun ws s2 ⟨zs, H2, I2, rz, e1, e2⟩ => ?_
  subst e1 e2
  obtain ⟨u2, rfl, ru2⟩ := vals1 rz
  obtain ⟨t2, rfl⟩ := ru2
  rw [hks]
  show wpAny _ _ (call (.type "enumerate") [.str x t] [(Str.ofString "start", .int k0 t2)]) _ _ _
  refine enum_begins_start (begins_text x t) trivial h0 h1 fun h' he' ht _ hkk => wpAny_pyIter_enum he' ?_
  have I3 : Inv X pins σ H2 { s2 with heap := h' } := I2.kept (t' := s2.toks) hkk
  refine ⟨s2.heap.objs.size + 1, [s2.heap.objs.size + 1, s2.heap.objs.size], _, _, H2, rfl, I3, turn_enumS x t k0 (s2.heap.objs.size + 1) s2.heap.objs.size, ⟨⟨.none, ?_⟩, ⟨_, ht, rfl, rfl⟩, Nat.succ_ne_self _⟩, fun b hb => ?_, q1⟩
  · simpa using he'
  · have le : s2.heap.objs.size ≤ b := by
      rcases (by simpa using hb : b = s2.heap.objs.size + 1 ∨ b = s2.heap.objs.size) with z | z
      · rw [z]; exact Nat.le_add_right _ _
      · rw [z]; exact Nat.le_refl _
    exact I2.fpOk le (I2.hok.fresh le)
/-! ### x + y by an own __add__ -/
def rOwnB (C : Addr) (sp : Sp) (E : XK) : R2 := fun x y H Q => ∃ a b dx dy fs gs, x = .ref a ∧ y = .ref b ∧ H a = some (.ins C dx fs) ∧ H b = some (.ins C dy gs) ∧ sp [.ref a, .ref b] H Q E
theorem op_ownB {X : Cx} {CX : CXT} {C f : Addr} {n : Nat} {sp : Sp} {E : XK} {op : Operator} (F : FnR X.prog X.w X.K X.mg X.base CX n f sp) (hc : PySem.W.selfFirst X.K C = true)
    (hs : PySem.W.findIn X.K (.ref C) (PySem.dunder op.info.2) = some (some (.ref f))) (hf : PySem.W.isFn X.K (.ref f) = true) (hx : Passes CX X E) (hr : Room n X.A) : OpR X (binaryOp op) (rOwnB C sp E) := by
  intro pins s σ H x y v u Q I rx ry hq
  obtain ⟨a, b, dx, dy, fs, gs, rfl, rfl, ha, hb, h⟩ := hq
  cases rx
  cases ry
  obtain ⟨mA, J, _⟩ := ins_get I.hok ha
  obtain ⟨mB, J', _⟩ := ins_get I.hok hb
  obtain ⟨od, J, _⟩ := J.look
  obtain ⟨od', J', _⟩ := J'.look
  obtain ⟨m, hF⟩ := I.fr
  refine PySem.W.binop_K (op := op) hF I.ok.mod.kin J J'.type hc hs hf ?_
  have r2 : Vals [V.ref a, V.ref b] [Value.ref a, Value.ref b] := .cons rfl (.cons rfl .nil)
  refine wpAny_call (codeAny_mono (run_fnR F hr hx I r2 h) fun r s' z => ?_)
  cases r with
  | error e => exact z
  | ok fl =>
    cases fl with
    | ret w =>
      obtain ⟨v, H1, I1, rv, q⟩ := z
      show PySem.W.CmpBack _ w s'
      cases w with
      | notImplemented => cases v <;> first | (cases rv; done) | (obtain ⟨_, z⟩ := rv; cases z)
      | _ => exact ⟨v, H1, I1, rv, q⟩
    | next => exact z.elim
    | brk => exact z.elim
    | cont => exact z.elim
end VX

set_option Elab.async false
set_option linter.all false
set_option maxRecDepth 100000
set_option maxHeartbeats 4000000
/-! # a def whose body gives out a token; a Hook with one more Bool, classmethods -/
namespace VX
open PySem PySem.Spec PyProof.Rows L2 CwR
section
variable {P : Program} {w : World} {K : PySem.W.Frag} {mg : Str → Option Value} {base : Heap} {x qual : Str} {params : Arguments} {body : List Stmt} {scope : Scope} {dvs : List V} {kws : List (Str × V)} {f : Addr} {fd : FuncData}
theorem okT {CX : CXT} {N ps : List Str} {k : Nat} {sp : Sp} (F : FunD K x qual params body scope dvs kws f fd) (S : FnScope N ps scope) (hnc : ∀ y ∈ scope.names, y.2 ≠ .cell) (hps : 1 ≤ ps.length) (len : ∀ vs H Q E, sp vs H Q E → vs.length = ps.length)
    (hbody : ∀ (cdv : Value) (A : Around) (outer : List Env) (s : Shared) (H : Hp) (vs : List V) (Q : VK) (E : XK), Room k (A.deeper (envOfC qual scope s.heap.objs.size f cdv)) → sp vs H Q E →
      ∃ t, PSsT (cxOf CX P w K mg base N qual scope f cdv A outer s H E) body t ∧ t { nx := fun _ H' => Q .non H', rt := Q } (start N vs) H) : FnOk P w K mg base CX (k + 1) f fd ps sp := by
  obtain ⟨oc, od, dV, kV, doc, pm, an, cdv, ct, osl, rfl, lk, hcd, _, _⟩ := F.ex
  exact fn_ofT lk hcd S hnc hps len fun A outer s H vs Q E hr hsp => hbody cdv A outer s H vs Q E hr hsp
end
section
variable {X : Cx} {CX : CXT} {k : Nat} {f C : Addr} {fd : FuncData} {ps : List Str} {sp : Sp} {dvs : List V} {ds : List Value} {E : XK} {x m : Str} {p pos apos : Pos} {e o : Expr} {es : List Expr} {ta : TE} {t : TA} {te : TE}
theorem pet_call (F : FnOk X.prog X.w X.K X.mg X.base CX k f fd ps sp) (hr : Room k X.A) (hg : Gl X x) (hm : X.mg x = some (.ref f)) (hk : PySem.W.keepIn X.K (.ref f) = true) (hb : Binds X.K fd ps ds) (hd : Vals dvs ds) (hx : Passes CX X E)
    (ha : PAT X (e :: es) t) (hdb : (x == ("__debug__" : Str)) = false := by decide) (he : starEach (e :: es) X.env = (false, eval e X.env) :: starEach es X.env := by rfl) (hpl : (backTo pos (starEach es X.env)).any (·.1) = false := by rfl) :
    PET X (.Call (.Name x p) (e :: es) [] pos) (tCall sp dvs E t) := by
  intro pins s σ H Q h0 I h
  refine wpAny_Call_Name_kw (ld_glob I hg hm ?_ hdb)
  refine PySem.W.callWith_K (h₀ := X.base) I.ok.mod.kin hk (thn (ha pos pins s σ H _ h0 I h) fun us s1 ⟨vs, H1, I1, r, q⟩ => ⟨I1.kIn, ?_⟩) he hpl
  exact run_fn F hr hb hd hx I1 r q
theorem pst_asg {tg : Expr} {g : TG} (he : PET X e te) (hg : PG X tg g) (hs : swapsWithSole [tg] e pos.line X.env = pure false := by rfl) (hw : swappedStores [tg] e X.env = pure none := by rfl)
    (h1 : (assignEach [tg] X.env).map (·.2) = [assign tg X.env] := by rfl) : PST X (.Assign [tg] e pos) (tAsg te g) := by
  intro pins s σ H D h0 I h
  refine wpAny_Assign_stores (thn (he pins s σ H _ h0 I h) fun v s1 ⟨x, H1, I1, r1, q1⟩ => ?_) hs hw
  rw [h1]
  exact thn (hg.run pins s1 σ H1 x v _ I1 r1 q1) fun _ s2 q => q
end
/-! ### a Hook -/
open He5 in
def hookMA (n : Nat) (fa : List He.Fa) (fn : List DefA) (ex : PySem.W.Frag → Bool) : PySem.W.Hook where
  α := He.AlD × Bool
  obs := fun s => (obsA fa fn (He.frG s.heap.get? (asA s.heap.get? n)), ex (He.frG s.heap.get? (asA s.heap.get? n)))
  val := fun _ => (valA fn, true)
  says := fun _ h => ∃ K : PySem.W.Frag, K.In h ∧ SaysA fa fn K ∧ ex K = true
  of := fun _ _ e => ⟨_, He.frG_in, congrArg (fun z : He.AlD × Bool => z.1) e, congrArg (fun z : He.AlD × Bool => z.2) e⟩
  keeps := fun _ _ _ ⟨K, hK, c⟩ k => ⟨K, PySem.W.Frag.In.keeps hK k, c⟩
open He5 in
def obsMA (n : Nat) (fa : List He.Fa) (fn : List DefA) (ex : PySem.W.Frag → Bool) (g : Addr → Option Obj) : He.AlD × Bool := (fun K => (obsA fa fn K, ex K)) (He.frG g (asA g n))
theorem obsMA_eq {n : Nat} {fa : List He.Fa} {fn : List He5.DefA} {ex : PySem.W.Frag → Bool} {g : Addr → Option Obj} {s : Shared} (h : ∀ a, g a = s.heap.get? a) : obsMA n fa fn ex g = (hookMA n fa fn ex).obs s := by
  have e : g = s.heap.get? := funext h
  rw [e] <;> rfl
/-! ### an error's class, as Bools of the written part -/
def clsB (K : PySem.W.Frag) (C : Addr) : Bool := match K.lookup C with
  | some ⟨.type "type", _, .cls cd, sl⟩ => (match cd.mro, sl.toList with
    | .ref D :: bm, [_, _, _, _, some (.builtin n), _] => D == C && (n == "ValueError.__new__" && (!cd.hasDel && (cd.hasDict && PySem.HandSPX.refsVE bm)))
    | _, _ => false)
  | _ => false
theorem clsB_ok {K : PySem.W.Frag} {C : Addr} (h : clsB K C = true) : ∃ nm q N bs bm sn sub ab col dd k0 k1 k2 k3 k5, K.lookup C = some (excClassObj nm q C N bs bm true sn sub ab col dd k0 k1 k2 k3 k5 "ValueError.__new__") ∧ PySem.HandSPX.refsVE bm = true := by
  unfold clsB at h
  split at h
  · rename_i dd cd sl ho
    split at h
    · rename_i D bm k0 k1 k2 k3 n k5 hm hs
      simp only [Bool.and_eq_true, beq_iff_eq, Bool.not_eq_true'] at h
      obtain ⟨rfl, rfl, hdel, hdc, hv⟩ := h
      obtain ⟨nm, bs, mro, ns, qn, hd, sn, sub, ab, col, del⟩ := cd
      dsimp only at hm hdel hdc
      subst hm hdel hdc
      have hsl : sl = #[k0, k1, k2, k3, some (.builtin "ValueError.__new__"), k5] := by
        obtain ⟨l⟩ := sl
        simp only at hs
        rw [hs]
      subst hsl
      exact ⟨nm, qn, ns, bs, bm, sn, sub, ab, col, dd, k0, k1, k2, k3, k5, ho, hv⟩
    · cases h
  · cases h
/-- of every error's class -/
def exB (K : PySem.W.Frag) (C : Addr) : Bool := He.eqO (PySem.W.findIn K (.ref C) "__getattribute__") (some (some (.builtin "BaseException.__getattribute__"))) && (He.eqO (PySem.W.findIn K (.ref C) "__getattr__") (some none) && (decide (PySem.W.subIn K (.ref C) (.type "BaseException") = some true) && (PySem.W.hasDictIn K C &&
  (He.eqO (PySem.W.findIn K (.ref C) "__class__") (some (some (.builtin "object.__class__"))) && (He.eqO (PySem.W.specialIn K (.builtin "object.__class__") "__get__") (some (some (.builtin "getset_descriptor.__get__"))) && (decide (PySem.W.takesIn K (.builtin "object.__class__") = some true) && (decide (PySem.W.mroIn K C (.type "object") = some true) &&
  (decide (PySem.W.typeIn K (.ref C) = some (.type "type")) && PySem.W.keepIn K (.ref C)))))))))
structure ExF (K : PySem.W.Frag) (C : Addr) : Prop where
  xf : XfC K C
  xc : ExcC K C
  ty : PySem.W.typeIn K (.ref C) = some (.type "type")
  kp : PySem.W.keepIn K (.ref C) = true
theorem exB_ok {K : PySem.W.Frag} {C : Addr} (h : exB K C = true) : ExF K C := by
  obtain ⟨h1, h⟩ := He.ba h
  obtain ⟨h2, h⟩ := He.ba h
  obtain ⟨h3, h⟩ := He.ba h
  obtain ⟨h4, h⟩ := He.ba h
  obtain ⟨h5, h⟩ := He.ba h
  obtain ⟨h6, h⟩ := He.ba h
  obtain ⟨h7, h⟩ := He.ba h
  obtain ⟨h8, h⟩ := He.ba h
  obtain ⟨h9, h10⟩ := He.ba h
  have e3 := of_decide_eq_true h3
  exact ⟨⟨He.eqO_ok h1, He.eqO_ok h2, e3, h4⟩, ⟨He.eqO_ok h1, He.eqO_ok h2, e3, h4, He.eqO_ok h5, He.eqO_ok h6, of_decide_eq_true h7, of_decide_eq_true h8⟩, of_decide_eq_true h9, h10⟩
/-- of one with an __init__ of its own that stores the field f -/
def inB (K : PySem.W.Frag) (C : Addr) (f : Str) : Bool := clsB K C && (He.eqO (PySem.W.findIn K (.ref C) "__setattr__") (some (some (.builtin "object.__setattr__"))) && (He.eqO (PySem.W.findIn K (.ref C) f) (some none) &&
  (He.eqO (PySem.W.findIn K (.ref C) "__init__") (some (some (.ref (He.ma K C "__init__")))) && decide (PySem.W.typeIn K (.ref (He.ma K C "__init__")) = some (.type "function")))))
structure InF (K : PySem.W.Frag) (C : Addr) (f : Str) : Prop where
  oe : OexC K C
  no : PySem.W.findIn K (.ref C) f = some none
  ini : PySem.W.findIn K (.ref C) "__init__" = some (some (.ref (He.ma K C "__init__")))
  fn : PySem.W.typeIn K (.ref (He.ma K C "__init__")) = some (.type "function")
theorem inB_ok {K : PySem.W.Frag} {C : Addr} {f : Str} (x : ExF K C) (h : inB K C f = true) : InF K C f := by
  obtain ⟨h1, h⟩ := He.ba h
  obtain ⟨h2, h⟩ := He.ba h
  obtain ⟨h3, h⟩ := He.ba h
  obtain ⟨h4, h5⟩ := He.ba h
  exact ⟨⟨clsB_ok h1, He.eqO_ok h2, x.xf.exC, x.ty, x.kp⟩, He.eqO_ok h3, He.eqO_ok h4, of_decide_eq_true h5⟩
/-! ### short facts -/
theorem same_new {H : Hp} {a : Addr} {o : HO} (h : H a = none) : Same H (upd H a o) := fun c u e => by
  rw [upd_ne (ne_of_none e h)]
  exact e
theorem same_two {H : Hp} {a b : Addr} {o u : HO} (ha : H a = none) (hb : upd H a o b = none) : Same H (upd (upd H a o) b u) := fun c z e => by
  have k : upd H a o c = some z := by rw [upd_ne (ne_of_none e ha)]; exact e
  rw [upd_ne (ne_of_none k hb)]
  exact k
theorem none_of {H : Hp} {a b : Addr} {o : HO} (hb : upd H a o b = none) : H b = none := by
  by_cases e : b = a
  · rw [e, upd_same] at hb; cases hb
  · rwa [upd_ne e] at hb
def Kept (b : Addr) (H H' : Hp) : Prop := ∀ c o, H c = some o → c ≠ b → H' c = some o
theorem kept_box {H : Hp} {b : Addr} {o : HO} : Kept b H (upd H b o) := fun c u e n => by
  rw [upd_ne n]
  exact e
theorem Kept.of {H H' : Hp} {b : Addr} (k : Same H H') : Kept b H H' := fun c o e _ => k c o e
theorem Kept.trans {H H' H'' : Hp} {b : Addr} (k : Kept b H H') (q : Kept b H' H'') : Kept b H H'' := fun c o e n => q c o (k c o e n) n
theorem lt_line {n : Nat} (h : n ≤ 100000) : n < sizeLine := Nat.lt_of_le_of_lt h (by decide)
/-! ### an error's __init__ -/
def spIni (K : PySem.W.Frag) (C : Addr) (g : Str) : Sp := fun vs H Q _ => ∃ (a : Addr) (v : V), vs = [.ref a, v] ∧ H a = some (exo a C none) ∧ ∀ dx, H dx = none → dx ≠ a → Q .non (upd (upd H dx (exd dx [(g, v)])) a (exo a C (some dx)))
section
variable {P : Program} {w : World} {K : PySem.W.Frag} {mg : Str → Option Value} {base : Heap} {f : Addr} {fd : FuncData}
theorem ok_ini {x g qual : Str} {pa : Arguments} {bd : List Stmt} {sc : Scope} {C : Addr} {q1 q2 q3 q4 : Pos} (F : FunD K x qual pa bd sc [] [] f fd) (S : FnScope ["self", g] ["self", g] sc) (hb : bd = [.Assign [.Attribute (.Name "self" q1) g q2] (.Name g q3) q4]) (I : InF K C g)
    (hd : (g == ("__debug__" : Str)) = false) (hc : (g == ("__classdict__" : Str)) = false) : FnOk P w K mg base CX0 1 f fd ["self", g] (spIni K C g) := by
  subst hb
  refine F.ok S (fun vs H Q E h => ?_) (fun cdv A outer s H vs Q E hr h => ?_)
  · obtain ⟨a, v, rfl, _⟩ := h
    rfl
  · obtain ⟨a, v, rfl, ha, k⟩ := h
    refine ⟨_, PSs.nox (pss_one (ps_ost (pe_var (i := 0) rfl (vis_par S (x := "self") (.head _))) (pe_var (i := 1) rfl (vis_par S (.tail _ (.head _))) hd hc))), ?_⟩
    exact ⟨_, rfl, _, rfl, a, C, rfl, I.oe, I.no, .inl ⟨ha, k⟩⟩
/-- an error's __init__: its promise, its arguments by place -/
def IniOk (P : Program) (w : World) (K : PySem.W.Frag) (mg : Str → Option Value) (base : Heap) (x g : Str) : Prop := ∃ fd, FnOk P w K mg base CX0 1 (He.ma K (He.ga K x) "__init__") fd ["self", g] (spIni K (He.ga K x) g) ∧ Binds K fd ["self", g] []
end
/-! ### the draws' box -/
/-- the box, of which at most N numbers were mixed -/
def BoxK (H : Hp) (b : Addr) (N : Nat) : Prop := ∃ x y z : Int, H b = some (.lst [.int x, .int y, .int z]) ∧ 0 ≤ x ∧ 0 ≤ y ∧ y ≤ N ∧ 0 ≤ z ∧ z ≤ 100000000
theorem Kept.refl {b : Addr} {H : Hp} : Kept b H H := fun _ _ h _ => h
theorem BoxK.same {H H' : Hp} {b : Addr} {N : Nat} (s : Same H H') (h : BoxK H b N) : BoxK H' b N := by
  obtain ⟨x, y, z, hb, r⟩ := h
  exact ⟨x, y, z, s _ _ hb, r⟩
theorem BoxK.at {H : Hp} {b : Addr} {N : Nat} (h : BoxK H b N) : ∃ xs, H b = some (.lst xs) := let ⟨_, _, _, hb, _⟩ := h; ⟨_, hb⟩
theorem BoxK.mono {H : Hp} {b : Addr} {N M : Nat} (h : BoxK H b N) (l : N ≤ M) : BoxK H b M := by
  obtain ⟨x, y, z, hb, x0, y0, yN, r⟩ := h
  exact ⟨x, y, z, hb, x0, y0, by omega, r⟩
def spTake : Sp := fun vs H Q _ => ∃ (b : Addr) (m x y z : Int), vs = [.ref b, .int m] ∧ H b = some (.lst [.int x, .int y, .int z]) ∧ 0 ≤ x ∧ 0 ≤ y ∧ y ≤ 1000000 ∧ 0 ≤ z ∧ z ≤ 100000000 ∧ 0 < m ∧ m ≤ 1000000000 ∧
  ∀ d x' y', 0 ≤ d → d < m → 0 ≤ x' → x' ≤ x → y ≤ y' → y' ≤ y + 1 → Q (.int d) (upd H b (.lst [.int x', .int y', .int z]))
theorem take_use {H : Hp} {b : Addr} {N : Nat} {m : Int} {Q : VK} {E : XK} (h : BoxK H b N) (hN : N ≤ 900000) (m0 : 0 < m) (m1 : m ≤ 1000000000)
    (k : ∀ d H', 0 ≤ d → d < m → Kept b H H' → BoxK H' b (N + 1) → (∀ c, H c = none → H' c = none) → Q (.int d) H') : spTake [.ref b, .int m] H Q E := by
  obtain ⟨x, y, z, hb, x0, y0, yN, z0, z1⟩ := h
  refine ⟨b, m, x, y, z, rfl, hb, x0, y0, by omega, z0, z1, m0, m1, fun d x' y' d0 d1 x0' x1' y1 y2 => k d _ d0 d1 (fun c o q ne => by rw [upd_ne ne]; exact q) ⟨x', y', z, upd_same, x0', by omega, by omega, z0, z1⟩ fun c hc => ?_⟩
  rw [upd_ne (fun e => by rw [e, hb] at hc; cases hc)]
  exact hc
theorem pw_ok {i : Int} (h0 : 0 ≤ i) (h1 : i < 2 ^ 90) : CPw i 3 := by
  refine ⟨by decide, ?_⟩
  have h : Builtin.Int.intBits i ≤ 90 := intBits_le (by omega)
  have h2 : (Builtin.Int.intBits i : Int) ≤ 90 := by exact_mod_cast h
  omega
def spBox (K : PySem.W.Frag) : Sp := fun vs H Q _ => ∃ (l : Addr) (ns : List Int) (j : Nat), vs = [.ref l, .int j] ∧ SqL K H l (ns.map V.int) ∧ j ≤ 100 ∧ ∀ p H', H p = none → Same H H' → BoxK H' p 0 → Q (.ref p) H'
theorem atI_ex {xs : List V} {d : Int} (h0 : 0 ≤ d) (h1 : d < xs.length) : ∃ v, atI xs d = some v ∧ v ∈ xs := by
  have hl : d.toNat < xs.length := by omega
  refine ⟨xs[d.toNat], ?_, List.getElem_mem hl⟩
  have e : ((d.toNat : Nat) : Int) = d := Int.toNat_of_nonneg h0
  have q := atI_nat (xs := xs) (j := d.toNat) (List.getElem?_eq_getElem hl)
  rwa [e] at q
/-- the heap behind an error's making -/
theorem raise_heap {H : Hp} {a d C : Addr} {g : Str} {v : V} (ha : H a = none) (hd : d ≠ a) : upd (del (upd (upd (upd H a (exo a C none)) d (exd d [(g, v)])) a (exo a C (some d))) a) d (.xd [(g, v)]) = upd H d (.xd [(g, v)]) := by
  funext b
  by_cases hb : b = d
  · rw [hb, upd_same, upd_same]
  · rw [upd_ne hb, upd_ne hb]
    by_cases hba : b = a
    · rw [hba, del_same, ha]
    · rw [del_ne hba, upd_ne hba, upd_ne hb, upd_ne hba]
/-- what C(v) asks, C of one field -/
theorem make_read {K : PySem.W.Frag} {C : Addr} {g : Str} {v : V} {H : Hp} {X : XK} (k : ∀ d, H d = none → X (.ref C) (some d) (upd H d (.xd [(g, v)]))) (a : Addr) (ha : H a = none) :
    spIni K C g [.ref a, v] (upd H a (exo a C none)) (fun u H2 => u = .non ∧ ∃ (d : Addr) (fs : List (Str × V)), H2 a = some (exo a C (some d)) ∧ H2 d = some (exd d fs) ∧ H d = none ∧ X (.ref C) (some d) (upd (del H2 a) d (.xd fs))) (fun _ _ _ => False) := by
  refine ⟨a, v, rfl, upd_same, fun d hd ne => ⟨rfl, d, [(g, v)], upd_same, ?_, ?_, ?_⟩⟩
  · rw [upd_ne ne, upd_same]
  · rwa [upd_ne ne] at hd
  · rw [raise_heap ha ne]
    rw [upd_ne ne] at hd
    exact k d hd
end VX

set_option Elab.async false
set_option linter.all false
set_option maxRecDepth 100000
set_option maxHeartbeats 4000000
/-! several except clauses, each «as n», one name -/
namespace VX
open PySem PySem.Spec PyProof.Rows L2
/-- what the clauses wish of an exception of the body, from the first on; the name in slot i is empty behind a suite -/
def wNamed (K : PySem.W.Frag) (i : Nat) (Wout : WX) (D : Ends) : List (Value × (Addr → Value → Option Addr → TS)) → WX
  | [] => Wout
  | (c, ts) :: r => fun cls d σ H => ∃ b, PySem.W.exmOne K cls c = some b ∧ (b = true → ∀ a, H a = none →
      ts a cls d { nx := fun σ' H' => D.nx (σ'.set i none) H', rt := D.rt, bk := fun σ' H' => D.bk (σ'.set i none) H', ct := fun σ' H' => D.ct (σ'.set i none) H' } (σ.set i (some (.ref a))) H) ∧ (b = false → wNamed K i Wout D r cls d σ H)
inductive Clauses (X : Cx) (n : Str) : List ExceptHandler → List (Value × (Addr → Value → Option Addr → TS)) → Prop
  | nil : Clauses X n [] []
  | cons {x : Str} {c : Value} {ts : Addr → Value → Option Addr → TS} {b₀ : Stmt} {su : List Stmt} {p1 p2 : Pos} {hs : List ExceptHandler} {l : List (Value × (Addr → Value → Option Addr → TS))} (hc : Names X x c)
      (hsu : ∀ (a : Addr) (oe : Obj) (cls : Value) (d : Option Addr) (pn : List (Addr × Obj)), Zc cls d oe → (∃ vs, oe.data = .fields vs) → PSs (X.suite a ((a, oe) :: pn)) (b₀ :: su) (ts a cls d)) (r : Clauses X n hs l) :
      Clauses X n (.ExceptHandler (some (.Name x p1)) (some n) (b₀ :: su) p2 :: hs) ((c, ts) :: l)
theorem ps_try_named {X : Cx} {n : Str} {i : Nat} {body : List Stmt} {h₀ : ExceptHandler} {hds : List ExceptHandler} {l : List (Value × (Addr → Value → Option Addr → TS))} {pos : Pos} {tb : WX → TS} {Wout : WX}
    (hs : X.stack = X.env :: X.outer) (hf : X.env.frame = some X.env.locals) (hN : X.N.Nodup) (hi : X.N[i]? = some n) (hln : X.env.kindOf n = some .local) (tk : Takes X Wout)
    (hb : ∀ (W : WX) (pn : List (Addr × Obj)) (xe : Value → Shared → Prop), Takes (X.tr pn xe) W → PassesOwn (model X.prog X.w) X.A X.env xe → PSs (X.tr pn xe) body (tb W)) (hh : Clauses X n (h₀ :: hds) l) :
    PS X (.Try body (h₀ :: hds) [] [] pos) (fun D σ H => tb (wNamed X.K i Wout D l) D σ H) := by
  refine ⟨fun pins s σ H D I h => wpAny_Try_except ?_⟩
  have ok := I.ok
  have fr : X.A.frames = some (X.env :: X.outer) := by rw [ok.frames, hs]
  have lc : Loc X.env.scope n := .inl hln
  refine wpAny_mono ((hb (wNamed X.K i Wout D l) (X.pn ++ pins) (fun e t1 => wpAny (model X.prog X.w) X.A (noteFrame e X.env) (fun _ t2 => wpAny (model X.prog X.w) X.A (setFlight e none) (fun _ t3 =>
    wpAny (model X.prog X.w) X.A (handleBy e X.env (h₀ :: hds)) (SP X pins D) X.xe t3) X.xe t2) X.xe t1) (fun u s' xx => ?caught) PassesOwn.looking).run [] s σ H D (I.toTry _) h) (fun f s1 q => ?through) (fun _ _ z => z)
  case through =>
    cases f with
    | next => obtain ⟨σ', H', J, q⟩ := q; exact wpAny_execs_nil ⟨σ', H', J.ofTry ok, q⟩
    | brk => obtain ⟨σ', H', J, q⟩ := q; exact ⟨σ', H', J.ofTry ok, q⟩
    | cont => obtain ⟨σ', H', J, q⟩ := q; exact ⟨σ', H', J.ofTry ok, q⟩
    | ret u => obtain ⟨v, σ', H', J, r, q⟩ := q; exact ⟨v, σ', H', J.ofTry ok, r, q⟩
  case caught =>
    obtain ⟨a, B, sI, ps', σ', H', cls, d, rfl, J', nb, up, sky, na, os, ag, w⟩ := xx
    have J : L2.Inv X pins σ' H' sI := J'.ofTry ok
    have sk : Sky B (X.env :: X.outer) a (Zc cls d) X.env.locals s'.heap := by rw [← hs]; exact sky
    show wpAny (model X.prog X.w) X.A (noteFrame (.ref a) X.env) _ _ _
    refine Sky.land Zc.steady fr hf sk fun h3 fl3 up3 => ?_
    have J3 : L2.Inv X pins σ' H' { s' with heap := h3 } := J.landed nb fl3.1 (up.trans up3) os ag
    obtain ⟨oe, vs, he, hz, hd⟩ := fl3.there
    have nfr : a ∉ frs (X.env :: X.outer) := fun hm => by
      obtain ⟨_, o', e', hnf⟩ := fl3.2.2.1.mem hm
      rw [he] at e'
      cases e'
      exact hnf _ hd
    have nL : a ≠ X.env.locals := fun z => nfr (List.mem_filterMap.mpr ⟨X.env, .head _, by rw [hf, z]⟩)
    have nF : a ∉ X.fs := fun hm => by
      obtain ⟨e, m, q⟩ := List.mem_filterMap.mp hm
      exact nfr (List.mem_filterMap.mpr ⟨e, .tail _ m, q⟩)
    have S3 := J3.suite he hd na nL nF
    have go : ∀ {hs' : List ExceptHandler} {l' : List (Value × (Addr → Value → Option Addr → TS))}, Clauses X n hs' l' → wNamed X.K i Wout D l' cls d σ' H' → wpAny (model X.prog X.w) X.A (handleBy (.ref a) X.env hs') (SP X pins D) X.xe { s' with heap := h3 } := by
      intro hs' l' hk
      induction hk with
      | nil =>
        intro w
        refine wpAny_handleBy_nil ?_
        obtain ⟨_, _, _, oe1, vs1, T, oT, ts1, he1, hz1, hd1, h1, _⟩ := id fl3
        unfold PySem.passOn
        refine wpAny_bind (wpAny_field he1 hd1 h1 ?_)
        rw [if_neg (show ¬ ((Value.ref T == Value.none) = true) by simp)]
        have fin : wpAny (model X.prog X.w) X.A (setFlight (.ref a) X.env.frame) (fun _ s4 => wpAny (model X.prog X.w) X.A (throw (.ref a) : Sem Flow) (SP X pins D) X.xe s4) X.xe { s' with heap := h3 } := by
          rw [hf]
          exact HandSPX.setFlight_upZ fl3 fun h4 hh4 up4 => wpAny_throw (tk _ _ ⟨a, B, sI, pins, σ', H', cls, d, rfl, J, nb, (up.trans up3).trans up4, .inr (.inr (by rw [hs]; exact hh4)), na, os, ag, w⟩)
        first | exact wpAny_bind (wpAny_pure (wpAny_bind fin)) | exact wpAny_bind fin
      | @cons x c ts b₀ su p1 p2 hs2 l2 hc hsu r ih =>
        rintro ⟨b, hb1, hy, hno⟩
        refine wpAny_handleBy_cons (codeAny_handlers_test ?_) (by intro q; cases q)
        have ty : PySem.W.Looks (model X.prog X.w) h3 (typeOf (.ref a)) cls := fun A Q E t k q => wpAny_typeOf_ref (k _ _ he) (by rw [hz.1]; exact q)
        have lk := PySem.W.exm_one (M := model X.prog X.w) (J3.kIn) ty hb1
        have asked : ∀ {Q E : Value → Shared → Prop}, Q c { s' with heap := h3 } → wpAny (model X.prog X.w) (X.A.mark (some (.ref a))) (eval (.Name x p1) X.env) Q E { s' with heap := h3 } := by
          intro Q E q
          obtain ⟨hg, hdb, hm | ⟨hm, hv, hn⟩⟩ := hc
          · exact ld_glob (X := X.suite a ((a, oe) :: (X.pn ++ pins))) S3 hg hm q hdb
          · exact ld_blt (X := X.suite a ((a, oe) :: (X.pn ++ pins))) S3 hg hm hv q hn hdb
        refine asked (lk.here ?_)
        cases b with
        | false => exact ih (hno rfl)
        | true =>
          refine codeAny_handlers_suite_as (HandSPX.lands_againZ fl3 fun h4 fl4 up4 => ?_)
          have J4 : L2.Inv X pins σ' H' { s' with heap := h4 } := J.landed nb fl4.1 ((up.trans up3).trans up4) os ag
          obtain ⟨oe4, vs4, he4, hz4, hd4⟩ := fl4.there
          refine store_ok (X := X.suite a ((a, oe4) :: (X.pn ++ pins))) (v := .ref a) (J4.suite he4 hd4 na nL nF) hN hi lc rfl (fun s5 S5 => ?_) (.inr hln)
          refine wpAny_mono ((hsu a oe4 cls d (X.pn ++ pins) hz4 ⟨_, hd4⟩).run [] s5 _ H' _ S5 (hy rfl a na)) (fun f s6 q => ?_) (fun _ _ z => False.elim z)
          have over : ∀ {σ6 : L2.St} {H6 : Hp} {Q : Shared → Prop}, L2.Inv (X.suite a ((a, oe4) :: (X.pn ++ pins))) [] σ6 H6 s6 → (∀ s7, L2.Inv X pins (σ6.set i none) H6 s7 → Q s7) →
              wpAny (model X.prog X.w) X.A (do bindName X.env n .none; unbindBehindTheSuite X.env n p2) (fun _ s7 => Q s7) X.xe s6 := fun S6 hq => gone_ok (S6.unsuite ok) hN hi hln hq
          cases f with
          | next => obtain ⟨σ6, H6, S6, q6⟩ := q; exact over S6 fun s7 J7 => ⟨_, _, J7, q6⟩
          | brk => obtain ⟨σ6, H6, S6, q6⟩ := q; exact over S6 fun s7 J7 => ⟨_, _, J7, q6⟩
          | cont => obtain ⟨σ6, H6, S6, q6⟩ := q; exact over S6 fun s7 J7 => ⟨_, _, J7, q6⟩
          | ret u => obtain ⟨v6, σ6, H6, S6, r6, q6⟩ := q; exact over S6 fun s7 J7 => ⟨_, _, _, J7, r6, q6⟩
    exact go hh w
end VX

set_option Elab.async false
set_option linter.all false
set_option maxRecDepth 100000
set_option maxHeartbeats 4000000
/-! # facts of a module's top, as Bools of the written part -/
namespace VY
open PySem PySem.Spec PyProof.Rows L2 VX
/-- a property's getter -/
def pG (K : PySem.W.Frag) (C : Addr) (m : Str) : Addr := match PySem.W.recIn K (He.ma K C m) "property" with
  | some (.ref g :: _) => g
  | _ => 0
def propB (K : PySem.W.Frag) (C : Addr) (m : Str) : Bool := He.eqO (PySem.W.findIn K (.ref C) m) (some (some (.ref (He.ma K C m)))) && (He.eqO (PySem.W.specialIn K (.ref (He.ma K C m)) "__get__") (some (some (.builtin "property.__get__"))) && (decide (PySem.W.takesIn K (.ref (He.ma K C m)) = some true) &&
  (match PySem.W.recIn K (He.ma K C m) "property" with
    | some (.ref _ :: _) => true
    | _ => false)))
theorem propB_ok {K : PySem.W.Frag} {C : Addr} {m : Str} (h : propB K C m = true) : PropOf K C m (He.ma K C m) (pG K C m) := by
  obtain ⟨h1, h⟩ := He.ba h
  obtain ⟨h2, h⟩ := He.ba h
  obtain ⟨h3, h4⟩ := He.ba h
  refine ⟨He.eqO_ok h1, He.eqO_ok h2, of_decide_eq_true h3, ?_⟩
  unfold pG
  split at h4
  · rename_i g r e
    exact ⟨r, by rw [e]⟩
  · cases h4
/-- an empty tuple stands at a -/
def nilB (K : PySem.W.Frag) (a : Addr) : Bool := match K.lookup a with
  | some ⟨.type c, _, .seq its _, _⟩ => decide (c = "tuple") && decide (its.size = 0)
  | _ => false
theorem nilB_ok {K : PySem.W.Frag} {a : Addr} (h : nilB K a = true) (H : Hp) : SqT K H a [] := by
  unfold nilB at h
  cases q : K.lookup a with
  | none => rw [q] at h; cases h
  | some o =>
    obtain ⟨oc, od, dt, osl⟩ := o
    rw [q] at h
    cases oc with
    | type c =>
      cases dt with
      | seq its n =>
        obtain ⟨h1, h2⟩ := He.ba (show (decide (c = "tuple") && decide (its.size = 0)) = true from h)
        have e : its = #[] := Array.eq_empty_of_size_eq_zero (of_decide_eq_true h2)
        subst e
        exact .inr ⟨_, #[], n, q, congrArg Value.type (of_decide_eq_true h1), rfl, by simp, .nil⟩
      | _ => cases h
    | _ => cases dt <;> cases h
/-- a keyword-only default that is an object -/
def kwA (C m x : Str) (K : PySem.W.Frag) : Addr := match K.lookup (He.ma K (He.ga K C) m) with
  | some ⟨_, _, .func fd, _⟩ => (match fd.kwdefaults with
    | .ref D => (match PySem.W.nsIn K D x with
      | some (some (.ref a)) => a
      | _ => 0)
    | _ => 0)
  | _ => 0
def crB (K : PySem.W.Frag) (C : Addr) : Bool := PySem.W.readsIn K C (.type "type") && He.eqO (PySem.W.specialIn K (.ref C) "__getattribute__") (some (some (.builtin "type.__getattribute__")))
theorem crB_ok {K : PySem.W.Frag} {C : Addr} (h : crB K C = true) : ClX.CRead K C (.type "type") := by
  obtain ⟨h1, h2⟩ := He.ba h
  exact ⟨h1, He.eqO_ok h2⟩
def cmB (K : PySem.W.Frag) (C : Addr) (m : Str) : Bool := He5.wrapB K C "classmethod" "classmethod.__get__" m && PySem.W.fnIn K (He5.wf K C "classmethod" m)
theorem cmB_ok {K : PySem.W.Frag} {C : Addr} {m : Str} (h : cmB K C m = true) : ClX.CMet K C (.type "type") m (He.ma K C m) (He5.wf K C "classmethod" m) := by
  obtain ⟨h1, h2⟩ := He.ba h
  exact He5.cmet_of h1 h2
/-- an own operator's def -/
structure OpOf (K : PySem.W.Frag) (C : Addr) (m : Str) : Prop where
  find : PySem.W.findIn K (.ref C) m = some (some (.ref (He.ma K C m)))
  fn : PySem.W.isFn K (.ref (He.ma K C m)) = true
def opB (K : PySem.W.Frag) (C : Addr) (m : Str) : Bool := He.eqO (PySem.W.findIn K (.ref C) m) (some (some (.ref (He.ma K C m)))) && PySem.W.isFn K (.ref (He.ma K C m))
theorem opB_ok {K : PySem.W.Frag} {C : Addr} {m : Str} (h : opB K C m = true) : OpOf K C m := by
  obtain ⟨h1, h2⟩ := He.ba h
  exact ⟨He.eqO_ok h1, h2⟩
/-- what the class of an instance is -/
structure TyOf (K : PySem.W.Frag) (C : Addr) : Prop where
  c1 : PySem.W.findIn K (.ref C) "__class__" = some (some (.builtin "object.__class__"))
  c2 : PySem.W.specialIn K (.builtin "object.__class__") "__get__" = some (some (.builtin "getset_descriptor.__get__"))
  c3 : PySem.W.takesIn K (.builtin "object.__class__") = some true
  c4 : PySem.W.mroIn K C (.type "object") = some true
def tyB (K : PySem.W.Frag) (C : Addr) : Bool := He.eqO (PySem.W.findIn K (.ref C) "__class__") (some (some (.builtin "object.__class__"))) && (He.eqO (PySem.W.specialIn K (.builtin "object.__class__") "__get__") (some (some (.builtin "getset_descriptor.__get__"))) &&
  (decide (PySem.W.takesIn K (.builtin "object.__class__") = some true) && decide (PySem.W.mroIn K C (.type "object") = some true)))
theorem tyB_ok {K : PySem.W.Frag} {C : Addr} (h : tyB K C = true) : TyOf K C := by
  obtain ⟨a1, e⟩ := He.ba h
  obtain ⟨a2, e⟩ := He.ba e
  obtain ⟨a3, a4⟩ := He.ba e
  exact ⟨He.eqO_ok a1, He.eqO_ok a2, of_decide_eq_true a3, of_decide_eq_true a4⟩
structure ExcOf (K : PySem.W.Frag) (C : Addr) : Prop where
  x : PySem.W.excIn K C He.veBase "ValueError.__new__" = true
  k : PySem.W.keepIn K (.ref C) = true
  b : PySem.W.subIn K (.ref C) (.type "BaseException") = some true
  t : PySem.W.typeIn K (.ref C) = some (.type "type")
end VY

set_option Elab.async false
set_option linter.all false
set_option maxRecDepth 100000
set_option maxHeartbeats 4000000
/-! # a written dict with text keys; a Hook with such tables -/
namespace VY
open PySem PySem.Spec PyProof.Rows L2 VX
/-- at a: a written dict with these entries in this order -/
structure WDict (K : PySem.W.Frag) (w : World) (a : Addr) (kvs : List (Str × V)) : Prop where
  ex : ∃ es n, K.lookup a = some ⟨.type "dict", none, .dict es n, #[]⟩ ∧ Paired (fun (e : DictEntry) (q : Str × V) => (∃ t, e.key = .str q.1 t) ∧ e.hash = PyData.keyHash w.params q.1 ∧ RelV q.2 e.val) es.toList kvs
  low : (a == sysModules) = false
  nd : (kvs.map (·.1)).Nodup
  len : kvs.length ≤ sizeLine
def kvK (kvs : List (Str × V)) : List (Key × V) := kvs.map fun q => (Sum.inr q.1, q.2)
theorem WDict.pairs {P : Program} {w : World} : ∀ {es : List DictEntry} {kvs : List (Str × V)}, Paired (fun (e : DictEntry) (q : Str × V) => (∃ t, e.key = .str q.1 t) ∧ e.hash = PyData.keyHash w.params q.1 ∧ RelV q.2 e.val) es kvs →
    Pairs (mixKind P w) es ((es.zip kvs).map fun z => (Sum.inr z.2.1, z.1.val)) ∧ KV (kvK kvs) ((es.zip kvs).map fun z => ((Sum.inr z.2.1 : Key), z.1.val)) ∧ (∀ e ∈ es, ∃ k, (mixKind P w).is k e.key = true ∧ e.hash = (mixKind P w).hash k) ∧ ((es.zip kvs).map fun z => ((Sum.inr z.2.1 : Key), z.1.val)).map (·.1) = kvs.map fun q => (Sum.inr q.1 : Key)
  | _, _, .nil => ⟨Pairs.nil, Paired.nil, (fun e h => nomatch h), rfl⟩
  | e :: es, q :: kvs, .cons ⟨⟨t, hk⟩, hh, hv⟩ r => by
    obtain ⟨a, b, c, d⟩ := WDict.pairs (P := P) r
    have his : (mixKind P w).is (Sum.inr q.1) e.key = true := by rw [hk]; exact keyIs_str q.1 t
    refine ⟨.cons his rfl a, .cons ⟨rfl, hv⟩ b, fun x hx => ?_, ?_⟩
    · rcases List.mem_cons.mp hx with hx | hx
      · rw [hx]
        exact ⟨_, his, hh⟩
      · exact c x hx
    · simp only [List.zip_cons_cons, List.map_cons, d]
theorem WDict.dictOf {K : PySem.W.Frag} {w : World} {a : Addr} {kvs : List (Str × V)} {P : Program} {h : Heap} (D : WDict K w a kvs) (X : K.In h) : ∃ vs, KV (kvK kvs) vs ∧ h.DictOf (mixKind P w) a vs := by
  obtain ⟨es, n, hl, hp⟩ := D.ex
  obtain ⟨p1, p2, p3, p4⟩ := WDict.pairs (P := P) hp
  refine ⟨_, p2, _, es, n, X _ _ hl, ⟨rfl, rfl, rfl⟩, rfl, fun e he => p3 e (by simpa using he), p1, ?_⟩
  rw [p4]
  have : (kvs.map fun q => (Sum.inr q.1 : Key)) = (kvs.map (·.1)).map Sum.inr := by rw [List.map_map]; rfl
  rw [this]
  exact List.Pairwise.map _ (fun a b h e => h (Sum.inr.inj e)) D.nd
/-- dict(d) of a written dict -/
theorem call_dictW {X : Cx} (K : PySem.W.Frag) (w : World) (hK : X.K = K := by rfl) (hw : X.w = w := by rfl) : CallR X (.type "dict") (fun xs H Q => ∃ (a : Addr) (kvs : List (Str × V)), xs = [.ref a] ∧ WDict K w a kvs ∧ ∀ p, H p = none → Q (.ref p) (upd H p (.dK (kvK kvs)))) := by
  subst hK hw
  intro pins s σ H xs us Q I r q
  obtain ⟨a, kvs, ex, hd, q⟩ := q
  subst ex
  obtain ⟨u, eu, rx⟩ := vals1 r
  subst eu
  cases rx
  obtain ⟨vs, rel, dd⟩ := hd.dictOf (P := X.prog) I.kIn
  have hz : (kvK kvs).length ≤ sizeLine := by unfold kvK; rw [List.length_map]; exact hd.len
  refine kt_call_dict hd.low dd (by rw [← rel.length]; exact hz) fun h' d' hs => ?_
  have hm : (s.heap.objs.size == sysModules) = false := beq_eq_false_iff_ne.mpr (Nat.ne_of_gt I.big)
  exact ⟨.ref s.heap.objs.size, upd H s.heap.objs.size (.dK (kvK kvs)), I.laid (t' := s.toks) (fun b u e => (hs.2 b (Nat.ne_of_lt (Heap.lt_size e))).trans (Heap.get?_push_of_some _ e)) (Nat.le_refl _)
    (show ObjOk X.prog X.w _ _ _ (.dK (kvK kvs)) from ⟨hz, hm, vs, rel, d'⟩), rfl, q _ (I.hok.fresh (Nat.le_refl _))⟩
/-- d[k] of a written dict -/
theorem op_itemW {X : Cx} (K : PySem.W.Frag) (w : World) (hK : X.K = K := by rfl) (hw : X.w = w := by rfl) : OpR X getItem (fun x y H Q => ∃ (a : Addr) (kvs : List (Str × V)) (z : Str) (v0 : V), x = .ref a ∧ y = .str z ∧ WDict K w a kvs ∧ (z, v0) ∈ kvs ∧ Q v0 H) := by
  subst hK hw
  intro pins s σ H x y v u Q I rx ry h
  obtain ⟨a, kvs, z, v0, rfl, rfl, D, hm, q⟩ := h
  cases rx
  obtain ⟨t, rfl⟩ := ry
  obtain ⟨es, n, hl, hp⟩ := D.ex
  have lit : ∀ {es : List DictEntry} {kvs : List (Str × V)}, Paired (fun (e : DictEntry) (q : Str × V) => (∃ t, e.key = .str q.1 t) ∧ e.hash = PyData.keyHash X.w.params q.1 ∧ RelV q.2 e.val) es kvs → PySem.W.KeysLit X.w.params es := by
    intro es kvs h
    induction h with
    | nil => trivial
    | cons h _ ih =>
      obtain ⟨⟨t, h1⟩, h2, _⟩ := h
      exact ⟨⟨_, t, h1, h2⟩, ih⟩
  have fnd : ∀ {es : List DictEntry} {kvs : List (Str × V)}, Paired (fun (e : DictEntry) (q : Str × V) => (∃ t, e.key = .str q.1 t) ∧ e.hash = PyData.keyHash X.w.params q.1 ∧ RelV q.2 e.val) es kvs → (kvs.map (·.1)).Nodup → (z, v0) ∈ kvs →
      ∃ e, es.find? (fun d => Value.isStrOf z d.key) = some e ∧ RelV v0 e.val := by
    intro es kvs h
    induction h with
    | nil => intro _ h; cases h
    | @cons e q es kvs h hr ih =>
      intro nd hm
      obtain ⟨⟨t, h1⟩, h2, h3⟩ := h
      have eis : Value.isStrOf z e.key = decide (z = q.1) := by
        rw [h1]
        show (q.1 == z) = decide (z = q.1)
        rw [Bool.eq_iff_iff, beq_iff_eq, decide_eq_true_eq]
        exact eq_comm
      rw [List.find?_cons, eis]
      rw [List.map_cons, List.nodup_cons] at nd
      rcases List.mem_cons.mp hm with hm | hm
      · cases hm
        rw [decide_eq_true rfl]
        exact ⟨e, rfl, h3⟩
      · have ne : z ≠ q.1 := fun e => nd.1 (by rw [← e]; exact List.mem_map.mpr ⟨_, hm, rfl⟩)
        rw [decide_eq_false ne]
        exact ih nd.2 hm
  obtain ⟨e, he, hv⟩ := fnd hp D.nd hm
  refine wpAny_getItem_of (PySem.strKind_is X.prog X.w z t) (PySem.W.mapOf_K (prog := X.prog) I.kIn hl (lit hp)) (v := e.val) ?_ ⟨v0, H, I.tok _, hv, q⟩
  show findBy Value.isStrOf es z = some e.val
  obtain ⟨l⟩ := es
  unfold findBy
  rw [List.find?_toArray]
  rw [show l.find? (fun d => Value.isStrOf z d.key) = some e from he]
  rfl
/-- the i-th value of the dict x of the module, if it is an object -/
def dvalA (x : Str) (i : Nat) (K : PySem.W.Frag) : Addr := match K.lookup (He.ga K x) with
  | some ⟨_, _, .dict es _, _⟩ => (match es.toList[i]? with
    | some ⟨_, _, .ref a⟩ => a
    | _ => 0)
  | _ => 0
/-- a tuple of these stands at a -/
def tupAB (K : PySem.W.Frag) (a : Addr) (vs : List He.Dv) : Bool := match K.lookup a with
  | some ⟨.type c, _, .seq its _, _⟩ => decide (c = "tuple") && (decide (its.size ≤ sizeLine) && He.relAll (vs.map (He.Dv.v K)) its.toList)
  | _ => false
theorem tupAB_ok {K : PySem.W.Frag} {a : Addr} {vs : List He.Dv} (h : tupAB K a vs = true) (H : Hp) : SqT K H a (vs.map (He.Dv.v K)) := by
  unfold tupAB at h
  cases q : K.lookup a with
  | none =>
    rw [q] at h
    cases h
  | some o =>
    obtain ⟨oc, od, dt, osl⟩ := o
    rw [q] at h
    cases oc with
    | type c =>
      cases dt with
      | seq its n =>
        obtain ⟨h1, h2⟩ := He.ba (show (decide (c = "tuple") && (decide (its.size ≤ sizeLine) && He.relAll (vs.map (He.Dv.v K)) its.toList)) = true from h)
        obtain ⟨h3, h4⟩ := He.ba h2
        exact .inr ⟨_, its, n, q, congrArg Value.type (of_decide_eq_true h1), rfl, of_decide_eq_true h3, He.relAll_ok h4⟩
      | _ => cases h
    | _ => cases dt <;> cases h
/-! ### the Hook -/
abbrev Tab : Type := Str × List (Str × He.Dv)
def obsV (K : PySem.W.Frag) (a : Addr) (vs : List He.Dv) : Bool := match K.lookup a with
  | some ⟨_, _, .dict es _, _⟩ => He.relAll (vs.map (He.Dv.v K)) (es.toList.map (·.val))
  | _ => false
open He5 in
def hookMT (n : Nat) (fa : List He.Fa) (fn : List DefA) (ex : PySem.W.Frag → Bool) (ts : List Tab) : PySem.W.Hook where
  α := (He.AlD × Bool) × List (Option (List (Option (Str × Int))))
  obs := fun s => ((obsA fa fn (He.frG s.heap.get? (asA s.heap.get? n)), ex (He.frG s.heap.get? (asA s.heap.get? n))), ts.map fun t => He.dicW (He.frG s.heap.get? (asA s.heap.get? n)) (He.ga (He.frG s.heap.get? (asA s.heap.get? n)) t.1))
  val := fun w => ((valA fn, true), ts.map fun t => some (He.keysIn w.params (t.2.map (·.1))))
  says := fun w h => ∃ K : PySem.W.Frag, K.In h ∧ SaysA fa fn K ∧ ex K = true ∧ (ts.map fun t => He.dicW K (He.ga K t.1)) = ts.map fun t => some (He.keysIn w.params (t.2.map (·.1)))
  of := fun _ _ e => ⟨_, He.frG_in, congrArg (fun z : (He.AlD × Bool) × List (Option (List (Option (Str × Int)))) => z.1.1) e, congrArg (fun z : (He.AlD × Bool) × List (Option (List (Option (Str × Int)))) => z.1.2) e, congrArg (fun z : (He.AlD × Bool) × List (Option (List (Option (Str × Int)))) => z.2) e⟩
  keeps := fun _ _ _ ⟨K, hK, c⟩ k => ⟨K, PySem.W.Frag.In.keeps hK k, c⟩
open He5 in
def obsMT (n : Nat) (fa : List He.Fa) (fn : List DefA) (ex : PySem.W.Frag → Bool) (ts : List Tab) (g : Addr → Option Obj) : (He.AlD × Bool) × List (Option (List (Option (Str × Int)))) := (fun K => ((obsA fa fn K, ex K), ts.map fun t => He.dicW K (He.ga K t.1))) (He.frG g (asA g n))
theorem obsMT_eq {n : Nat} {fa : List He.Fa} {fn : List He5.DefA} {ex : PySem.W.Frag → Bool} {ts : List Tab} {g : Addr → Option Obj} {s : Shared} (h : ∀ a, g a = s.heap.get? a) : obsMT n fa fn ex ts g = (hookMT n fa fn ex ts).obs s := by
  have e : g = s.heap.get? := funext h
  rw [e] <;> rfl
theorem pair_of {P : Params} {K : PySem.W.Frag} : ∀ {es : List DictEntry} {kds : List (Str × He.Dv)}, es.map He.keyOf = He.keysIn P (kds.map (·.1)) → He.relAll ((kds.map (·.2)).map (He.Dv.v K)) (es.map (·.val)) = true →
    Paired (fun (e : DictEntry) (q : Str × V) => (∃ t, e.key = .str q.1 t) ∧ e.hash = PyData.keyHash P q.1 ∧ RelV q.2 e.val) es (kds.map fun q => (q.1, q.2.v K))
  | [], [], _, _ => .nil
  | [], _ :: _, h, _ => by cases h
  | e :: es, [], h, _ => by cases h
  | e :: es, q :: kds, h, hr => by
    have h1 : He.keyOf e :: es.map He.keyOf = some (q.1, PyData.keyHash P q.1) :: He.keysIn P (kds.map (·.1)) := h
    injection h1 with h2 h3
    have hr2 : Vals ((q.2.v K) :: ((kds.map (·.2)).map (He.Dv.v K))) (e.val :: es.map (·.val)) := He.relAll_ok hr
    cases hr2 with
    | cons r1 r2 =>
      refine .cons ⟨?_, ?_, r1⟩ (pair_of h3 ?_)
      · unfold He.keyOf at h2
        split at h2
        · rename_i x t hq
          obtain ⟨h5, h6⟩ := Prod.mk.inj (Option.some.inj h2)
          exact ⟨t, by rw [hq, h5]⟩
        · cases h2
      · unfold He.keyOf at h2
        split at h2
        · rename_i x t hq
          obtain ⟨h5, h6⟩ := Prod.mk.inj (Option.some.inj h2)
          exact h6
        · cases h2
      · have := hr
        simp only [List.map_cons, He.relAll, Bool.and_eq_true] at this
        exact this.2
theorem wdict_of {K : PySem.W.Frag} {w : World} {ts : List Tab} (c : (ts.map fun t => He.dicW K (He.ga K t.1)) = ts.map fun t => some (He.keysIn w.params (t.2.map (·.1)))) (t : Tab) (ht : t ∈ ts) (hv : obsV K (He.ga K t.1) (t.2.map (·.2)) = true) (hn : (t.2.map (·.1)).Nodup) (hl : t.2.length ≤ sizeLine) :
    WDict K w (He.ga K t.1) (t.2.map fun q => (q.1, q.2.v K)) := by
  have e : He.dicW K (He.ga K t.1) = some (He.keysIn w.params (t.2.map (·.1))) := by
    obtain ⟨i, hi, rfl⟩ := List.mem_iff_getElem.mp ht
    have q : (ts.map fun t => He.dicW K (He.ga K t.1))[i]? = (ts.map fun t => some (He.keysIn w.params (t.2.map (·.1))))[i]? := by rw [c]
    rw [List.getElem?_map, List.getElem?_map, List.getElem?_eq_getElem hi] at q
    exact Option.some.inj q
  have ee := e
  unfold He.dicW at e
  unfold obsV at hv
  cases q : K.lookup (He.ga K t.1) with
  | none => rw [q] at e; cases e
  | some o =>
    obtain ⟨oc, od, dt, osl⟩ := o
    rw [q] at e hv
    cases oc with
    | type c =>
      cases od with
      | none =>
        cases dt with
        | dict es n =>
          have h1 : (match decide (c = "dict") && (osl.isEmpty && !((He.ga K t.1) == sysModules)) with
            | true => some (es.toList.map He.keyOf)
            | false => none) = some (He.keysIn w.params (t.2.map (·.1))) := e
          cases z : decide (c = "dict") && (osl.isEmpty && !((He.ga K t.1) == sysModules)) with
          | false => rw [z] at h1; cases h1
          | true =>
            rw [z] at h1
            obtain ⟨z1, z2⟩ := He.ba z
            obtain ⟨z3, z4⟩ := He.ba z2
            have e1 : c = "dict" := of_decide_eq_true z1
            have e2 : osl = #[] := Array.isEmpty_iff.mp z3
            have e3 : ((He.ga K t.1) == sysModules) = false := by
              cases y : (He.ga K t.1) == sysModules with
              | false => rfl
              | true => rw [y] at z4; cases z4
            subst e1 e2
            exact ⟨⟨es, n, q, pair_of (Option.some.inj h1) hv⟩, e3, by rw [List.map_map]; exact hn, by rw [List.length_map]; exact hl⟩
        | _ => cases e
      | some b => cases dt <;> cases e
    | _ => cases od <;> cases dt <;> cases e
end VY

set_option Elab.async false
set_option linter.all false
set_option maxRecDepth 100000
set_option maxHeartbeats 4000000
/-! # law_k91_whole_facts_of_a_triple: the defs of the text, what a walk knows of the module -/
namespace KV
open PySem PySem.Spec PyProof.Rows L2 VX
def top (i : Nat) : Stmt := PySem.Challenge.pw_handspaces_k91_whole_facts_of_a_triple.main.body.getD i (.Pass ⟨0, 0, 0, 0⟩)
abbrev iIsInt : Nat := 8
abbrev iHasAll : Nat := 12
abbrev iFits : Nat := 17
abbrev iLeaves : Nat := 18
abbrev iPText : Nat := 19
abbrev iCheck : Nat := 20
abbrev iSum : Nat := 21
abbrev iInter : Nat := 22
abbrev iPart : Nat := 23
abbrev iRW : Nat := 24
abbrev iWithin : Nat := 27
abbrev iSumM : Nat := 28
abbrev iComM : Nat := 29
abbrev iLetM : Nat := 30
abbrev iMark : Nat := 31
abbrev iWon : Nat := 32
abbrev iFirstB : Nat := 37
abbrev iIsBr : Nat := 38
abbrev iWonAll : Nat := 39
abbrev iOpenK : Nat := 40
abbrev iLCell : Nat := 43
abbrev iLBox : Nat := 44
abbrev iLTake : Nat := 45
abbrev iLPlus : Nat := 46
abbrev iLGrown : Nat := 47
abbrev iLPower : Nat := 48
abbrev iLSpan : Nat := 49
abbrev iLVec : Nat := 50
abbrev iLRows : Nat := 51
abbrev iLBoth : Nat := 52
abbrev iLSum : Nat := 53
abbrev iLSize : Nat := 54
abbrev iLCounts : Nat := 55
abbrev iLBuilt : Nat := 56
abbrev iLStir : Nat := 57
abbrev iLHands : Nat := 58
abbrev iLSets : Nat := 59
abbrev iTree : Nat := 60
abbrev iLWord : Nat := 61
abbrev iLValue : Nat := 62
abbrev iLIn : Nat := 63
abbrev iLMr : Nat := 64
abbrev iWords : Nat := 65
abbrev iLaw : Nat := 66
abbrev iWord : Nat := 25
abbrev s_Word_init : Stmt := inClass (top 25) 0
abbrev s_Word_read : Stmt := inClass (top 25) 1
abbrev s_Word_sign : Stmt := inClass (top 25) 2
abbrev s_Word_parts : Stmt := inClass (top 25) 3
abbrev s_Word_add : Stmt := inClass (top 25) 4
abbrev s_Word_and : Stmt := inClass (top 25) 5
abbrev s_Word_eq : Stmt := inClass (top 25) 6
abbrev s_Word_len : Stmt := inClass (top 25) 7
abbrev s_Word_text : Stmt := inClass (top 25) 8
abbrev iFacts : Nat := 41
abbrev s_Facts_init : Stmt := inClass (top 41) 0
abbrev s_Facts_within : Stmt := inClass (top 41) 1
abbrev s_Facts_not_within : Stmt := inClass (top 41) 2
abbrev s_Facts_kinds : Stmt := inClass (top 41) 3
abbrev s_Facts_clashes : Stmt := inClass (top 41) 4
abbrev s_Facts_verdict : Stmt := inClass (top 41) 5
abbrev s_Facts_model : Stmt := inClass (top 41) 6
abbrev s_Facts_reason : Stmt := inClass (top 41) 7
abbrev s_Facts_clash_reason : Stmt := inClass (top 41) 8
abbrev s_Facts_shows : Stmt := inClass (top 41) 9
abbrev s_Facts__supposed : Stmt := inClass (top 41) 11
abbrev s_Facts__check : Stmt := inClass (top 41) 12
abbrev s_Facts__paper : Stmt := inClass (top 41) 13
abbrev s_Facts__is_paper : Stmt := inClass (top 41) 14
abbrev s_Facts__is_never : Stmt := inClass (top 41) 15
abbrev s_BadSign_init : Stmt := inClass (top 3) 0
abbrev s_BadColumn_init : Stmt := inClass (top 4) 0
def defs : List (Str × Nat) := ([("is_integer", iIsInt), ("has_all_kinds", iHasAll), ("fits", iFits), ("is_within", iWithin), ("sum_mark", iSumM), ("common_mark", iComM), ("letter_mark", iLetM), ("mark", iMark), ("within_on", iWon), ("first_breach", iFirstB), ("is_breach", iIsBr), ("within_on_all", iWonAll), ("open_kinds", iOpenK), ("_law_cell", iLCell), ("_law_box", iLBox), ("_law_take", iLTake), ("_law_plus", iLPlus), ("_law_grown", iLGrown), ("_law_span", iLSpan), ("_law_vector", iLVec), ("_law_rows", iLRows), ("_law_both", iLBoth), ("_law_sum", iLSum), ("_law_counts", iLCounts)] : List (Str × Nat)) ++
  ([("_law_built", iLBuilt), ("_law_stirred", iLStir), ("_law_hands", iLHands), ("_law_sets", iLSets), ("_law_tree", iTree), ("_law_word", iLWord), ("_law_value", iLValue), ("_law_inside", iLIn), ("_law_model_right", iLMr), ("_law_words", iWords), ("law", iLaw)] : List (Str × Nat))
def free : List Str := ["len", "int", "abs", "range", "tuple", "list", "isinstance", "bool", "all", "sum", "enumerate", "str"]
abbrev FnP (K : PySem.W.Frag) (x : Str) (i : Nat) (f : Addr) (fd : FuncData) : Prop := FunD K x x (defArgs (top i)) (defBody (top i)) (defScope (top i)) [] [] f fd
structure Txt (K : PySem.W.Frag) (mg : Str → Option Value) : Prop where
  dfs : ∀ p ∈ defs, mg p.1 = some (.ref (He.ga K p.1))
  free : ∀ x ∈ free, mg x = none
  g_HANDS : mg "HANDS" = some (.ref (He.ga K "HANDS"))
  t_HANDS : ∀ H, SqT K H (He.ga K "HANDS") [.str "a", .str "b", .str "c"]
  s_PLANE : ∃ t, mg "PLANE" = some (.str "plane" t)
  g_KINDS : mg "KINDS" = some (.ref (He.ga K "KINDS"))
  t_KINDS : ∀ H, SqT K H (He.ga K "KINDS") [.str "", .str "a", .str "b", .str "c", .str "ab", .str "ac", .str "bc", .str "abc", .str "plane"]
  g_LEAVES : mg "LEAVES" = some (.ref (He.ga K "LEAVES"))
  t_LEAVES : ∀ H, SqT K H (He.ga K "LEAVES") [.str "a", .str "b", .str "c", .str "0", .str "1"]
  g_JOINTS : mg "JOINTS" = some (.ref (He.ga K "JOINTS"))
  t_JOINTS : ∀ H, SqT K H (He.ga K "JOINTS") [.str "+", .str "&"]
  s_SURE : ∃ t, mg "SURE" = some (.str "sure" t)
  s_BARRED : ∃ t, mg "BARRED" = some (.str "barred" t)
  s_OPEN : ∃ t, mg "OPEN" = some (.str "open" t)
  g_Word : mg "Word" = some (.ref (He.ga K "Word"))
  c_Word : Cls K (He.ga K "Word")
  a_Word_sign : NoAttr K (He.ga K "Word") "_sign"
  a_Word_parts : NoAttr K (He.ga K "Word") "_parts"
  k_Word : Mk K (He.ga K "Word") (He.ma K (He.ga K "Word") "__init__")
  p_Word_sign : PropOf K (He.ga K "Word") "sign" (He.ma K (He.ga K "Word") "sign") (VY.pG K (He.ga K "Word") "sign")
  p_Word_parts : PropOf K (He.ga K "Word") "parts" (He.ma K (He.ga K "Word") "parts") (VY.pG K (He.ga K "Word") "parts")
  g_Facts : mg "Facts" = some (.ref (He.ga K "Facts"))
  c_Facts : Cls K (He.ga K "Facts")
  a_Facts_within : NoAttr K (He.ga K "Facts") "_within"
  a_Facts_not_within : NoAttr K (He.ga K "Facts") "_not_within"
  k_Facts : Mk K (He.ga K "Facts") (He.ma K (He.ga K "Facts") "__init__")
  m_Facts_kinds : Meth K (He.ga K "Facts") "kinds" (He.ma K (He.ga K "Facts") "kinds")
  m_Facts_clashes : Meth K (He.ga K "Facts") "clashes" (He.ma K (He.ga K "Facts") "clashes")
  m_Facts_verdict : Meth K (He.ga K "Facts") "verdict" (He.ma K (He.ga K "Facts") "verdict")
  m_Facts_model : Meth K (He.ga K "Facts") "model" (He.ma K (He.ga K "Facts") "model")
  m_Facts_reason : Meth K (He.ga K "Facts") "reason" (He.ma K (He.ga K "Facts") "reason")
  m_Facts_clash_reason : Meth K (He.ga K "Facts") "clash_reason" (He.ma K (He.ga K "Facts") "clash_reason")
  m_Facts_shows : Meth K (He.ga K "Facts") "shows" (He.ma K (He.ga K "Facts") "shows")
  m_Facts__supposed : Meth K (He.ga K "Facts") "_supposed" (He.ma K (He.ga K "Facts") "_supposed")
  m_Facts__check : Meth K (He.ga K "Facts") "_check" (He.ma K (He.ga K "Facts") "_check")
  m_Facts__paper : Meth K (He.ga K "Facts") "_paper" (He.ma K (He.ga K "Facts") "_paper")
  m_Facts__is_paper : Meth K (He.ga K "Facts") "_is_paper" (He.ma K (He.ga K "Facts") "_is_paper")
  m_Facts__is_never : Meth K (He.ga K "Facts") "_is_never" (He.ma K (He.ga K "Facts") "_is_never")
  g_Clash : mg "Clash" = some (.ref (He.ga K "Clash"))
  x_Clash : VY.ExcOf K (He.ga K "Clash")
theorem Txt.fr {K : PySem.W.Frag} {mg : Str → Option Value} (T : Txt K mg) (x : Str) (h : x ∈ KV.free := by decide +kernel) : mg x = none := T.free x h
theorem Txt.df {K : PySem.W.Frag} {mg : Str → Option Value} (T : Txt K mg) (x : Str) (i : Nat) (h : (x, i) ∈ defs := by decide +kernel) : mg x = some (.ref (He.ga K x)) := T.dfs (x, i) h
structure Dfs (K : PySem.W.Frag) : Prop where
  d : ∀ p ∈ defs, ∃ fd, FnP K p.1 p.2 (He.ga K p.1) fd
  Word_init : (∃ fd, FunD K "__init__" "Word.__init__" (defArgs s_Word_init) (defBody s_Word_init) (defScope s_Word_init) [.ref (He.dflAt ("Word", some "__init__") 0 K)] [] (He.ma K (He.ga K "Word") "__init__") fd) ∧ (∀ H, SqT K H (He.dflAt ("Word", some "__init__") 0 K) [])
  Word_sign : (∃ fd, FunD K "sign" "Word.sign" (defArgs s_Word_sign) (defBody s_Word_sign) (defScope s_Word_sign) [] [] (VY.pG K (He.ga K "Word") "sign") fd)
  Word_parts : (∃ fd, FunD K "parts" "Word.parts" (defArgs s_Word_parts) (defBody s_Word_parts) (defScope s_Word_parts) [] [] (VY.pG K (He.ga K "Word") "parts") fd)
  Facts_init : (∃ fd, FunD K "__init__" "Facts.__init__" (defArgs s_Facts_init) (defBody s_Facts_init) (defScope s_Facts_init) [] [("within", .ref (VY.kwA "Facts" "__init__" "within" K)), ("not_within", .ref (VY.kwA "Facts" "__init__" "not_within" K))] (He.ma K (He.ga K "Facts") "__init__") fd) ∧ (∀ H, SqT K H (VY.kwA "Facts" "__init__" "within" K) []) ∧ (∀ H, SqT K H (VY.kwA "Facts" "__init__" "not_within" K) [])
  Facts_kinds : (∃ fd, FunD K "kinds" "Facts.kinds" (defArgs s_Facts_kinds) (defBody s_Facts_kinds) (defScope s_Facts_kinds) [] [] (He.ma K (He.ga K "Facts") "kinds") fd)
  Facts_clashes : (∃ fd, FunD K "clashes" "Facts.clashes" (defArgs s_Facts_clashes) (defBody s_Facts_clashes) (defScope s_Facts_clashes) [] [] (He.ma K (He.ga K "Facts") "clashes") fd)
  Facts_verdict : (∃ fd, FunD K "verdict" "Facts.verdict" (defArgs s_Facts_verdict) (defBody s_Facts_verdict) (defScope s_Facts_verdict) [] [] (He.ma K (He.ga K "Facts") "verdict") fd)
  Facts_model : (∃ fd, FunD K "model" "Facts.model" (defArgs s_Facts_model) (defBody s_Facts_model) (defScope s_Facts_model) [] [] (He.ma K (He.ga K "Facts") "model") fd)
  Facts_reason : (∃ fd, FunD K "reason" "Facts.reason" (defArgs s_Facts_reason) (defBody s_Facts_reason) (defScope s_Facts_reason) [] [] (He.ma K (He.ga K "Facts") "reason") fd)
  Facts_clash_reason : (∃ fd, FunD K "clash_reason" "Facts.clash_reason" (defArgs s_Facts_clash_reason) (defBody s_Facts_clash_reason) (defScope s_Facts_clash_reason) [] [] (He.ma K (He.ga K "Facts") "clash_reason") fd)
  Facts_shows : (∃ fd, FunD K "shows" "Facts.shows" (defArgs s_Facts_shows) (defBody s_Facts_shows) (defScope s_Facts_shows) [] [] (He.ma K (He.ga K "Facts") "shows") fd)
  Facts__supposed : (∃ fd, FunD K "_supposed" "Facts._supposed" (defArgs s_Facts__supposed) (defBody s_Facts__supposed) (defScope s_Facts__supposed) [] [] (He.ma K (He.ga K "Facts") "_supposed") fd)
  Facts__check : (∃ fd, FunD K "_check" "Facts._check" (defArgs s_Facts__check) (defBody s_Facts__check) (defScope s_Facts__check) [] [] (He.ma K (He.ga K "Facts") "_check") fd)
  Facts__paper : (∃ fd, FunD K "_paper" "Facts._paper" (defArgs s_Facts__paper) (defBody s_Facts__paper) (defScope s_Facts__paper) [] [] (He.ma K (He.ga K "Facts") "_paper") fd)
  Facts__is_paper : (∃ fd, FunD K "_is_paper" "Facts._is_paper" (defArgs s_Facts__is_paper) (defBody s_Facts__is_paper) (defScope s_Facts__is_paper) [] [] (He.ma K (He.ga K "Facts") "_is_paper") fd)
  Facts__is_never : (∃ fd, FunD K "_is_never" "Facts._is_never" (defArgs s_Facts__is_never) (defBody s_Facts__is_never) (defScope s_Facts__is_never) [] [] (He.ma K (He.ga K "Facts") "_is_never") fd)
theorem Dfs.def {K : PySem.W.Frag} (A : Dfs K) (x : Str) (i : Nat) (h : (x, i) ∈ defs := by decide +kernel) : ∃ fd, FnP K x i (He.ga K x) fd := A.d (x, i) h
end KV

set_option Elab.async false
set_option linter.all false
set_option maxRecDepth 100000
set_option maxHeartbeats 4000000
/-! # a Hook that looks at the first N objects as they lie: no search for what is reached -/
namespace VX
open PySem PySem.Spec PyProof.Rows L2
/-- the globals and what every text has, then all the others -/
def asR (N : Nat) : List Addr := PySem.mainGlobals :: cStatics :: List.range N
open He5 in
def hookR (N : Nat) (fa : List He.Fa) (fn : List DefA) (ex : PySem.W.Frag → Bool) : PySem.W.Hook where
  α := He.AlD × Bool
  obs := fun s => (obsA fa fn (He.frG s.heap.get? (asR N)), ex (He.frG s.heap.get? (asR N)))
  val := fun _ => (valA fn, true)
  says := fun _ h => ∃ K : PySem.W.Frag, K.In h ∧ SaysA fa fn K ∧ ex K = true
  of := fun _ _ e => ⟨_, He.frG_in, congrArg (fun z : He.AlD × Bool => z.1) e, congrArg (fun z : He.AlD × Bool => z.2) e⟩
  keeps := fun _ _ _ ⟨K, hK, c⟩ k => ⟨K, PySem.W.Frag.In.keeps hK k, c⟩
open He5 in
def obsR (N : Nat) (fa : List He.Fa) (fn : List DefA) (ex : PySem.W.Frag → Bool) (g : Addr → Option Obj) : He.AlD × Bool := (fun K => (obsA fa fn K, ex K)) (He.frG g (asR N))
theorem obsR_eq {N : Nat} {fa : List He.Fa} {fn : List He5.DefA} {ex : PySem.W.Frag → Bool} {g : Addr → Option Obj} {s : Shared} (h : ∀ a, g a = s.heap.get? a) : obsR N fa fn ex g = (hookR N fa fn ex).obs s := by
  have e : g = s.heap.get? := funext h
  rw [e] <;> rfl
open He5 VY in
def hookRT (N : Nat) (fa : List He.Fa) (fn : List DefA) (ex : PySem.W.Frag → Bool) (ts : List Tab) : PySem.W.Hook where
  α := (He.AlD × Bool) × List (Option (List (Option (Str × Int))))
  obs := fun s => ((obsA fa fn (He.frG s.heap.get? (asR N)), ex (He.frG s.heap.get? (asR N))), ts.map fun t => He.dicW (He.frG s.heap.get? (asR N)) (He.ga (He.frG s.heap.get? (asR N)) t.1))
  val := fun w => ((valA fn, true), ts.map fun t => some (He.keysIn w.params (t.2.map (·.1))))
  says := fun w h => ∃ K : PySem.W.Frag, K.In h ∧ SaysA fa fn K ∧ ex K = true ∧ (ts.map fun t => He.dicW K (He.ga K t.1)) = ts.map fun t => some (He.keysIn w.params (t.2.map (·.1)))
  of := fun _ _ e => ⟨_, He.frG_in, congrArg (fun z : (He.AlD × Bool) × List (Option (List (Option (Str × Int)))) => z.1.1) e, congrArg (fun z : (He.AlD × Bool) × List (Option (List (Option (Str × Int)))) => z.1.2) e, congrArg (fun z : (He.AlD × Bool) × List (Option (List (Option (Str × Int)))) => z.2) e⟩
  keeps := fun _ _ _ ⟨K, hK, c⟩ k => ⟨K, PySem.W.Frag.In.keeps hK k, c⟩
open He5 VY in
def obsRT (N : Nat) (fa : List He.Fa) (fn : List DefA) (ex : PySem.W.Frag → Bool) (ts : List Tab) (g : Addr → Option Obj) : (He.AlD × Bool) × List (Option (List (Option (Str × Int)))) := (fun K => ((obsA fa fn K, ex K), ts.map fun t => He.dicW K (He.ga K t.1))) (He.frG g (asR N))
theorem obsRT_eq {N : Nat} {fa : List He.Fa} {fn : List He5.DefA} {ex : PySem.W.Frag → Bool} {ts : List VY.Tab} {g : Addr → Option Obj} {s : Shared} (h : ∀ a, g a = s.heap.get? a) : obsRT N fa fn ex ts g = (hookRT N fa fn ex ts).obs s := by
  have e : g = s.heap.get? := funext h
  rw [e] <;> rfl
end VX

set_option Elab.async false
set_option linter.all false
set_option maxRecDepth 100000
set_option maxHeartbeats 0
/-! ## the facts of the top -/
namespace KV
open PySem PySem.Spec PyProof.Rows L2 VX
def dD (x : Str) (i : Nat) : He5.DefA := ⟨fun K => He.ga K x, x, x, defArgs (top i), defBody (top i), defScope (top i), [], []⟩
def mets : List He5.DefA := (⟨fun K => (He.ma K (He.ga K "Word") "__init__"), "__init__", "Word.__init__", defArgs s_Word_init, defBody s_Word_init, defScope s_Word_init, [.adr (He.dflAt ("Word", some "__init__") 0)], []⟩) :: (⟨fun K => (VY.pG K (He.ga K "Word") "sign"), "sign", "Word.sign", defArgs s_Word_sign, defBody s_Word_sign, defScope s_Word_sign, [], []⟩) :: (⟨fun K => (VY.pG K (He.ga K "Word") "parts"), "parts", "Word.parts", defArgs s_Word_parts, defBody s_Word_parts, defScope s_Word_parts, [], []⟩) :: (⟨fun K => (He.ma K (He.ga K "Facts") "__init__"), "__init__", "Facts.__init__", defArgs s_Facts_init, defBody s_Facts_init, defScope s_Facts_init, [], [("within", .adr (VY.kwA "Facts" "__init__" "within")), ("not_within", .adr (VY.kwA "Facts" "__init__" "not_within"))]⟩) :: (⟨fun K => (He.ma K (He.ga K "Facts") "kinds"), "kinds", "Facts.kinds", defArgs s_Facts_kinds, defBody s_Facts_kinds, defScope s_Facts_kinds, [], []⟩) :: (⟨fun K => (He.ma K (He.ga K "Facts") "clashes"), "clashes", "Facts.clashes", defArgs s_Facts_clashes, defBody s_Facts_clashes, defScope s_Facts_clashes, [], []⟩) :: (⟨fun K => (He.ma K (He.ga K "Facts") "verdict"), "verdict", "Facts.verdict", defArgs s_Facts_verdict, defBody s_Facts_verdict, defScope s_Facts_verdict, [], []⟩) :: (⟨fun K => (He.ma K (He.ga K "Facts") "model"), "model", "Facts.model", defArgs s_Facts_model, defBody s_Facts_model, defScope s_Facts_model, [], []⟩) :: (⟨fun K => (He.ma K (He.ga K "Facts") "reason"), "reason", "Facts.reason", defArgs s_Facts_reason, defBody s_Facts_reason, defScope s_Facts_reason, [], []⟩) :: (⟨fun K => (He.ma K (He.ga K "Facts") "clash_reason"), "clash_reason", "Facts.clash_reason", defArgs s_Facts_clash_reason, defBody s_Facts_clash_reason, defScope s_Facts_clash_reason, [], []⟩) :: (⟨fun K => (He.ma K (He.ga K "Facts") "shows"), "shows", "Facts.shows", defArgs s_Facts_shows, defBody s_Facts_shows, defScope s_Facts_shows, [], []⟩) :: (⟨fun K => (He.ma K (He.ga K "Facts") "_supposed"), "_supposed", "Facts._supposed", defArgs s_Facts__supposed, defBody s_Facts__supposed, defScope s_Facts__supposed, [], []⟩) :: (⟨fun K => (He.ma K (He.ga K "Facts") "_check"), "_check", "Facts._check", defArgs s_Facts__check, defBody s_Facts__check, defScope s_Facts__check, [], []⟩) :: (⟨fun K => (He.ma K (He.ga K "Facts") "_paper"), "_paper", "Facts._paper", defArgs s_Facts__paper, defBody s_Facts__paper, defScope s_Facts__paper, [], []⟩) :: (⟨fun K => (He.ma K (He.ga K "Facts") "_is_paper"), "_is_paper", "Facts._is_paper", defArgs s_Facts__is_paper, defBody s_Facts__is_paper, defScope s_Facts__is_paper, [], []⟩) :: (⟨fun K => (He.ma K (He.ga K "Facts") "_is_never"), "_is_never", "Facts._is_never", defArgs s_Facts__is_never, defBody s_Facts__is_never, defScope s_Facts__is_never, [], []⟩) :: []
def fn : List He5.DefA := (defs.map fun p => dD p.1 p.2) ++ mets
def more : List He.Fa := (.glo "HANDS") :: (.str "PLANE" "plane") :: (.glo "KINDS") :: (.glo "LEAVES") :: (.glo "JOINTS") :: (.str "SURE" "sure") :: (.str "BARRED" "barred") :: (.str "OPEN" "open") :: (.glo "Word") :: (.cls "Word") :: (.noat "Word" "_sign") :: (.noat "Word" "_parts") :: (.mkr "Word") :: (.glo "Facts") :: (.cls "Facts") :: (.noat "Facts" "_within") :: (.noat "Facts" "_not_within") :: (.mkr "Facts") :: (.meth "Facts" "kinds") :: (.meth "Facts" "clashes") :: (.meth "Facts" "verdict") :: (.meth "Facts" "model") :: (.meth "Facts" "reason") :: (.meth "Facts" "clash_reason") :: (.meth "Facts" "shows") :: (.meth "Facts" "_supposed") :: (.meth "Facts" "_check") :: (.meth "Facts" "_paper") :: (.meth "Facts" "_is_paper") :: (.meth "Facts" "_is_never") :: (.glo "Clash") :: (.exc "Clash") :: []
def fa : List He.Fa := ((defs.map fun p => He.Fa.glo p.1) ++ free.map He.Fa.free) ++ more
def exL (K : PySem.W.Frag) : List Bool := (He.tupB K "HANDS" [.str "a", .str "b", .str "c"]) :: (He.tupB K "KINDS" [.str "", .str "a", .str "b", .str "c", .str "ab", .str "ac", .str "bc", .str "abc", .str "plane"]) :: (He.tupB K "LEAVES" [.str "a", .str "b", .str "c", .str "0", .str "1"]) :: (He.tupB K "JOINTS" [.str "+", .str "&"]) :: (VY.propB K (He.ga K "Word") "sign") :: (VY.propB K (He.ga K "Word") "parts") :: (VY.nilB K (He.dflAt ("Word", some "__init__") 0 K)) :: (VY.nilB K (VY.kwA "Facts" "__init__" "within" K)) :: (VY.nilB K (VY.kwA "Facts" "__init__" "not_within" K)) :: []
def ex (K : PySem.W.Frag) : Bool := (exL K).all id
theorem ex_in {K : PySem.W.Frag} (e : ex K = true) {b : Bool} (h : b ∈ exL K) : b = true := List.all_eq_true.mp e b h
theorem fa_in {K : PySem.W.Frag} (c : He5.SaysA fa fn K) (f : He.Fa) (hf : f ∈ fa) : f.ok K = true := by
  obtain ⟨i, hi, e⟩ := List.mem_iff_getElem.mp hf
  exact c.fact i (f := f) (by rw [List.getElem?_eq_getElem hi, e])
theorem fn_in {K : PySem.W.Frag} (c : He5.SaysA fa fn K) (d : He5.DefA) (hd : d ∈ fn) : ∃ fd, FunD K d.name d.qual d.params d.body d.scope (d.dvs K) (d.kws K) (d.at_ K) fd := by
  obtain ⟨i, hi, e⟩ := List.mem_iff_getElem.mp hd
  exact c.def_ i (d := d) (by rw [List.getElem?_eq_getElem hi, e])
theorem met_in {K : PySem.W.Frag} (c : He5.SaysA fa fn K) (i : Nat) (h : i < mets.length) : ∃ fd, FunD K mets[i].name mets[i].qual mets[i].params mets[i].body mets[i].scope (mets[i].dvs K) (mets[i].kws K) (mets[i].at_ K) fd := fn_in c _ (List.mem_append_right _ (List.getElem_mem h))
theorem txt_mk {K : PySem.W.Frag} {h : Heap} {mg : Str → Option Value} (X : K.In h) (G : h.Ns mainGlobals mg) (c : He5.SaysA fa fn K) (e : ex K = true) : Txt K mg where
  dfs := fun p hp => He.glo_ok X G (fa_in c _ (List.mem_append_left _ (List.mem_append_left _ (List.mem_map.mpr ⟨p, hp, rfl⟩))))
  free := fun x hx => He.free_ok X G (fa_in c _ (List.mem_append_left _ (List.mem_append_right _ (List.mem_map.mpr ⟨x, hx, rfl⟩))))
  g_HANDS := He.glo_ok X G (fa_in c (.glo "HANDS") (List.mem_append_right _ (.head _)))
  t_HANDS := fun H => He.tupB_ok (ex_in e (.head _)) H
  s_PLANE := He.str_ok X G (fa_in c (.str "PLANE" "plane") (List.mem_append_right _ (.tail _ (.head _))))
  g_KINDS := He.glo_ok X G (fa_in c (.glo "KINDS") (List.mem_append_right _ (.tail _ (.tail _ (.head _)))))
  t_KINDS := fun H => He.tupB_ok (ex_in e (.tail _ (.head _))) H
  g_LEAVES := He.glo_ok X G (fa_in c (.glo "LEAVES") (List.mem_append_right _ (.tail _ (.tail _ (.tail _ (.head _))))))
  t_LEAVES := fun H => He.tupB_ok (ex_in e (.tail _ (.tail _ (.head _)))) H
  g_JOINTS := He.glo_ok X G (fa_in c (.glo "JOINTS") (List.mem_append_right _ (.tail _ (.tail _ (.tail _ (.tail _ (.head _)))))))
  t_JOINTS := fun H => He.tupB_ok (ex_in e (.tail _ (.tail _ (.tail _ (.head _))))) H
  s_SURE := He.str_ok X G (fa_in c (.str "SURE" "sure") (List.mem_append_right _ (.tail _ (.tail _ (.tail _ (.tail _ (.tail _ (.head _))))))))
  s_BARRED := He.str_ok X G (fa_in c (.str "BARRED" "barred") (List.mem_append_right _ (.tail _ (.tail _ (.tail _ (.tail _ (.tail _ (.tail _ (.head _)))))))))
  s_OPEN := He.str_ok X G (fa_in c (.str "OPEN" "open") (List.mem_append_right _ (.tail _ (.tail _ (.tail _ (.tail _ (.tail _ (.tail _ (.tail _ (.head _))))))))))
  g_Word := He.glo_ok X G (fa_in c (.glo "Word") (List.mem_append_right _ (.tail _ (.tail _ (.tail _ (.tail _ (.tail _ (.tail _ (.tail _ (.tail _ (.head _)))))))))))
  c_Word := He.cls_ok (fa_in c (.cls "Word") (List.mem_append_right _ (.tail _ (.tail _ (.tail _ (.tail _ (.tail _ (.tail _ (.tail _ (.tail _ (.tail _ (.head _))))))))))))
  a_Word_sign := He.noat_ok (fa_in c (.noat "Word" "_sign") (List.mem_append_right _ (.tail _ (.tail _ (.tail _ (.tail _ (.tail _ (.tail _ (.tail _ (.tail _ (.tail _ (.tail _ (.head _)))))))))))))
  a_Word_parts := He.noat_ok (fa_in c (.noat "Word" "_parts") (List.mem_append_right _ (.tail _ (.tail _ (.tail _ (.tail _ (.tail _ (.tail _ (.tail _ (.tail _ (.tail _ (.tail _ (.tail _ (.head _))))))))))))))
  k_Word := He.mkr_ok (fa_in c (.mkr "Word") (List.mem_append_right _ (.tail _ (.tail _ (.tail _ (.tail _ (.tail _ (.tail _ (.tail _ (.tail _ (.tail _ (.tail _ (.tail _ (.tail _ (.head _)))))))))))))))
  p_Word_sign := VY.propB_ok (ex_in e (.tail _ (.tail _ (.tail _ (.tail _ (.head _))))))
  p_Word_parts := VY.propB_ok (ex_in e (.tail _ (.tail _ (.tail _ (.tail _ (.tail _ (.head _)))))))
  g_Facts := He.glo_ok X G (fa_in c (.glo "Facts") (List.mem_append_right _ (.tail _ (.tail _ (.tail _ (.tail _ (.tail _ (.tail _ (.tail _ (.tail _ (.tail _ (.tail _ (.tail _ (.tail _ (.tail _ (.head _))))))))))))))))
  c_Facts := He.cls_ok (fa_in c (.cls "Facts") (List.mem_append_right _ (.tail _ (.tail _ (.tail _ (.tail _ (.tail _ (.tail _ (.tail _ (.tail _ (.tail _ (.tail _ (.tail _ (.tail _ (.tail _ (.tail _ (.head _)))))))))))))))))
  a_Facts_within := He.noat_ok (fa_in c (.noat "Facts" "_within") (List.mem_append_right _ (.tail _ (.tail _ (.tail _ (.tail _ (.tail _ (.tail _ (.tail _ (.tail _ (.tail _ (.tail _ (.tail _ (.tail _ (.tail _ (.tail _ (.tail _ (.head _))))))))))))))))))
  a_Facts_not_within := He.noat_ok (fa_in c (.noat "Facts" "_not_within") (List.mem_append_right _ (.tail _ (.tail _ (.tail _ (.tail _ (.tail _ (.tail _ (.tail _ (.tail _ (.tail _ (.tail _ (.tail _ (.tail _ (.tail _ (.tail _ (.tail _ (.tail _ (.head _)))))))))))))))))))
  k_Facts := He.mkr_ok (fa_in c (.mkr "Facts") (List.mem_append_right _ (.tail _ (.tail _ (.tail _ (.tail _ (.tail _ (.tail _ (.tail _ (.tail _ (.tail _ (.tail _ (.tail _ (.tail _ (.tail _ (.tail _ (.tail _ (.tail _ (.tail _ (.head _))))))))))))))))))))
  m_Facts_kinds := He.meth_ok (fa_in c (.meth "Facts" "kinds") (List.mem_append_right _ (.tail _ (.tail _ (.tail _ (.tail _ (.tail _ (.tail _ (.tail _ (.tail _ (.tail _ (.tail _ (.tail _ (.tail _ (.tail _ (.tail _ (.tail _ (.tail _ (.tail _ (.tail _ (.head _)))))))))))))))))))))
  m_Facts_clashes := He.meth_ok (fa_in c (.meth "Facts" "clashes") (List.mem_append_right _ (.tail _ (.tail _ (.tail _ (.tail _ (.tail _ (.tail _ (.tail _ (.tail _ (.tail _ (.tail _ (.tail _ (.tail _ (.tail _ (.tail _ (.tail _ (.tail _ (.tail _ (.tail _ (.tail _ (.head _))))))))))))))))))))))
  m_Facts_verdict := He.meth_ok (fa_in c (.meth "Facts" "verdict") (List.mem_append_right _ (.tail _ (.tail _ (.tail _ (.tail _ (.tail _ (.tail _ (.tail _ (.tail _ (.tail _ (.tail _ (.tail _ (.tail _ (.tail _ (.tail _ (.tail _ (.tail _ (.tail _ (.tail _ (.tail _ (.tail _ (.head _)))))))))))))))))))))))
  m_Facts_model := He.meth_ok (fa_in c (.meth "Facts" "model") (List.mem_append_right _ (.tail _ (.tail _ (.tail _ (.tail _ (.tail _ (.tail _ (.tail _ (.tail _ (.tail _ (.tail _ (.tail _ (.tail _ (.tail _ (.tail _ (.tail _ (.tail _ (.tail _ (.tail _ (.tail _ (.tail _ (.tail _ (.head _))))))))))))))))))))))))
  m_Facts_reason := He.meth_ok (fa_in c (.meth "Facts" "reason") (List.mem_append_right _ (.tail _ (.tail _ (.tail _ (.tail _ (.tail _ (.tail _ (.tail _ (.tail _ (.tail _ (.tail _ (.tail _ (.tail _ (.tail _ (.tail _ (.tail _ (.tail _ (.tail _ (.tail _ (.tail _ (.tail _ (.tail _ (.tail _ (.head _)))))))))))))))))))))))))
  m_Facts_clash_reason := He.meth_ok (fa_in c (.meth "Facts" "clash_reason") (List.mem_append_right _ (.tail _ (.tail _ (.tail _ (.tail _ (.tail _ (.tail _ (.tail _ (.tail _ (.tail _ (.tail _ (.tail _ (.tail _ (.tail _ (.tail _ (.tail _ (.tail _ (.tail _ (.tail _ (.tail _ (.tail _ (.tail _ (.tail _ (.tail _ (.head _))))))))))))))))))))))))))
  m_Facts_shows := He.meth_ok (fa_in c (.meth "Facts" "shows") (List.mem_append_right _ (.tail _ (.tail _ (.tail _ (.tail _ (.tail _ (.tail _ (.tail _ (.tail _ (.tail _ (.tail _ (.tail _ (.tail _ (.tail _ (.tail _ (.tail _ (.tail _ (.tail _ (.tail _ (.tail _ (.tail _ (.tail _ (.tail _ (.tail _ (.tail _ (.head _)))))))))))))))))))))))))))
  m_Facts__supposed := He.meth_ok (fa_in c (.meth "Facts" "_supposed") (List.mem_append_right _ (.tail _ (.tail _ (.tail _ (.tail _ (.tail _ (.tail _ (.tail _ (.tail _ (.tail _ (.tail _ (.tail _ (.tail _ (.tail _ (.tail _ (.tail _ (.tail _ (.tail _ (.tail _ (.tail _ (.tail _ (.tail _ (.tail _ (.tail _ (.tail _ (.tail _ (.head _))))))))))))))))))))))))))))
  m_Facts__check := He.meth_ok (fa_in c (.meth "Facts" "_check") (List.mem_append_right _ (.tail _ (.tail _ (.tail _ (.tail _ (.tail _ (.tail _ (.tail _ (.tail _ (.tail _ (.tail _ (.tail _ (.tail _ (.tail _ (.tail _ (.tail _ (.tail _ (.tail _ (.tail _ (.tail _ (.tail _ (.tail _ (.tail _ (.tail _ (.tail _ (.tail _ (.tail _ (.head _)))))))))))))))))))))))))))))
  m_Facts__paper := He.meth_ok (fa_in c (.meth "Facts" "_paper") (List.mem_append_right _ (.tail _ (.tail _ (.tail _ (.tail _ (.tail _ (.tail _ (.tail _ (.tail _ (.tail _ (.tail _ (.tail _ (.tail _ (.tail _ (.tail _ (.tail _ (.tail _ (.tail _ (.tail _ (.tail _ (.tail _ (.tail _ (.tail _ (.tail _ (.tail _ (.tail _ (.tail _ (.tail _ (.head _))))))))))))))))))))))))))))))
  m_Facts__is_paper := He.meth_ok (fa_in c (.meth "Facts" "_is_paper") (List.mem_append_right _ (.tail _ (.tail _ (.tail _ (.tail _ (.tail _ (.tail _ (.tail _ (.tail _ (.tail _ (.tail _ (.tail _ (.tail _ (.tail _ (.tail _ (.tail _ (.tail _ (.tail _ (.tail _ (.tail _ (.tail _ (.tail _ (.tail _ (.tail _ (.tail _ (.tail _ (.tail _ (.tail _ (.tail _ (.head _)))))))))))))))))))))))))))))))
  m_Facts__is_never := He.meth_ok (fa_in c (.meth "Facts" "_is_never") (List.mem_append_right _ (.tail _ (.tail _ (.tail _ (.tail _ (.tail _ (.tail _ (.tail _ (.tail _ (.tail _ (.tail _ (.tail _ (.tail _ (.tail _ (.tail _ (.tail _ (.tail _ (.tail _ (.tail _ (.tail _ (.tail _ (.tail _ (.tail _ (.tail _ (.tail _ (.tail _ (.tail _ (.tail _ (.tail _ (.tail _ (.head _))))))))))))))))))))))))))))))))
  g_Clash := He.glo_ok X G (fa_in c (.glo "Clash") (List.mem_append_right _ (.tail _ (.tail _ (.tail _ (.tail _ (.tail _ (.tail _ (.tail _ (.tail _ (.tail _ (.tail _ (.tail _ (.tail _ (.tail _ (.tail _ (.tail _ (.tail _ (.tail _ (.tail _ (.tail _ (.tail _ (.tail _ (.tail _ (.tail _ (.tail _ (.tail _ (.tail _ (.tail _ (.tail _ (.tail _ (.tail _ (.head _)))))))))))))))))))))))))))))))))
  x_Clash := (fun z => ⟨z.1, z.2.1, z.2.2.1, z.2.2.2⟩) (He.exc_ok (fa_in c (.exc "Clash") (List.mem_append_right _ (.tail _ (.tail _ (.tail _ (.tail _ (.tail _ (.tail _ (.tail _ (.tail _ (.tail _ (.tail _ (.tail _ (.tail _ (.tail _ (.tail _ (.tail _ (.tail _ (.tail _ (.tail _ (.tail _ (.tail _ (.tail _ (.tail _ (.tail _ (.tail _ (.tail _ (.tail _ (.tail _ (.tail _ (.tail _ (.tail _ (.tail _ (.head _)))))))))))))))))))))))))))))))))))
theorem dfs_mk {K : PySem.W.Frag} (c : He5.SaysA fa fn K) (e : ex K = true) : Dfs K where
  d := fun p hp => fn_in c (dD p.1 p.2) (List.mem_append_left _ (List.mem_map.mpr ⟨p, hp, rfl⟩))
  Word_init := ⟨met_in c 0 (by decide), VY.nilB_ok (ex_in e (.tail _ (.tail _ (.tail _ (.tail _ (.tail _ (.tail _ (.head _))))))))⟩
  Word_sign := met_in c 1 (by decide)
  Word_parts := met_in c 2 (by decide)
  Facts_init := ⟨met_in c 3 (by decide), VY.nilB_ok (ex_in e (.tail _ (.tail _ (.tail _ (.tail _ (.tail _ (.tail _ (.tail _ (.head _))))))))), VY.nilB_ok (ex_in e (.tail _ (.tail _ (.tail _ (.tail _ (.tail _ (.tail _ (.tail _ (.tail _ (.head _))))))))))⟩
  Facts_kinds := met_in c 4 (by decide)
  Facts_clashes := met_in c 5 (by decide)
  Facts_verdict := met_in c 6 (by decide)
  Facts_model := met_in c 7 (by decide)
  Facts_reason := met_in c 8 (by decide)
  Facts_clash_reason := met_in c 9 (by decide)
  Facts_shows := met_in c 10 (by decide)
  Facts__supposed := met_in c 11 (by decide)
  Facts__check := met_in c 12 (by decide)
  Facts__paper := met_in c 13 (by decide)
  Facts__is_paper := met_in c 14 (by decide)
  Facts__is_never := met_in c 15 (by decide)
abbrev R : PySem.W.OpenRow := PySem.W.OpenLaw.row PySem.Challenge.rw_handspaces_k91_whole_facts_of_a_triple
abbrev hk : PySem.W.Hook := hookR 1200 fa fn ex
def ob (s : PySem.W.SharedT) : He.AlD × Bool := obsR 1200 fa fn ex (HandSHeadRun.getT s)
theorem ob_eq (s : PySem.W.SharedT) : ob s = hk.obs s.abs := obsR_eq (HandSHeadRun.getT_eq s)
def loose : List Str := (["_wall", "HandError", "BadSign", "BadColumn", "Clash", "HANDS", "is_integer", "PLANE", "KINDS", "has_all_kinds", "LEAVES", "JOINTS", "MOST_OPEN", "fits", "leaves", "part_text", "check_text", "read_sum", "read_intersection", "read_part", "read_word", "Word", "is_within", "sum_mark"] : List Str) ++
  (["common_mark", "letter_mark", "mark", "within_on", "SURE", "BARRED", "OPEN", "first_breach", "is_breach", "within_on_all", "open_kinds", "Facts", "_law_cell", "_law_box", "_law_take", "_law_plus", "_law_grown", "_law_power", "_law_span", "_law_vector", "_law_rows", "_law_both", "_law_sum", "_law_size"] : List Str) ++
  (["_law_counts", "_law_built", "_law_stirred", "_law_hands", "_law_sets", "_law_tree", "_law_word", "_law_value", "_law_inside", "_law_model_right", "_law_words"] : List Str)
set_option maxRecDepth 1000000 in
theorem runA (w : World) (os : PySem.OsState) : (HandSHeadRun.endF (HandSHeadRun.stepQ (HandSHeadRun.denQ HandSHeadRun.tabQ) R.prog w) 60000 R.prog w os).map (fun s => HandSHeadRun.looksF R.prog (PySem.W.boot_heap (w).params) s.abs) = some true := by
  kernel_rfl
set_option maxRecDepth 1000000 in
theorem runB (w : World) (os : PySem.OsState) : (HandSHeadRun.endF (HandSHeadRun.stepQ (HandSHeadRun.denQ HandSHeadRun.tabQ) R.prog w) 60000 R.prog w os).map (fun s => HandSHeadRun.seenQ (PySem.W.view R.prog [66]) loose (PySem.importedModules R.prog.main.body) (fun s => PySem.W.xlAt (PySem.W.view R.prog [66]) [] s && PySem.W.recOk R.records s) s.abs) = some (PySem.W.openGood (PySem.W.view R.prog [66]) loose) := by
  kernel_rfl
set_option maxRecDepth 1000000 in
theorem runC (w : World) (os : PySem.OsState) : (HandSHeadRun.endF (HandSHeadRun.stepQ (HandSHeadRun.denQ HandSHeadRun.tabQ) R.prog w) 60000 R.prog w os).map ob = some (hk.val w) := by
  kernel_rfl
theorem run (w : World) : HandSHeadRun.RunEq R (PySem.W.view R.prog [66]) hk ob 60000 loose w := by
  intro os
  have h1 := runA w os
  have h2 := runB w os
  have h3 := runC w os
  revert h1 h2 h3
  generalize HandSHeadRun.endF (HandSHeadRun.stepQ (HandSHeadRun.denQ HandSHeadRun.tabQ) R.prog w) 60000 R.prog w os = x
  intro h1 h2 h3
  cases x with
  | none => cases h1
  | some s =>
    have e1 := Option.some.inj h1
    have e2 := Option.some.inj h2
    have e3 := Option.some.inj h3
    show some (_, _, _) = some (_, _, _)
    rw [← e1, ← e2, ← e3]
end KV

set_option linter.all false
/-! # Rows modulo a prime, as the program calculates with them (plain mathematics, no Python) -/
namespace RX
def at0 (r : List Int) (i : Nat) : Int := r.getD i 0
def lead (r : List Int) : Nat := r.findIdx (fun x => x != 0)
def addR (p : Int) (r : List Int) (f : Int) (o : List Int) : List Int := List.zipWith (fun a b => (a + f * b) % p) r o
def scale (p f : Int) (r : List Int) : List Int := r.map fun x => f * x % p
def restOf (p : Int) (b : List (List Int)) (r : List Int) : List Int := b.foldl (fun r o => if at0 r (lead o) = 0 then r else addR p r (-at0 r (lead o)) o) r
def joinL (p : Int) (b : List (List Int)) (at' : Nat) (new : List Int) : List (List Int) :=
  (b.filter fun o => decide (lead o < at')).map (fun o => addR p o (-at0 o at') new) ++ new :: b.filter fun o => decide (at' < lead o)
def joined (inv : Int → Int) (p : Int) (b : List (List Int)) (r : List Int) : List (List Int) :=
  if lead (restOf p b r) = (restOf p b r).length then b
  else joinL p b (lead (restOf p b r)) (scale p (inv (at0 (restOf p b r) (lead (restOf p b r)))) (restOf p b r))
def reduced (inv : Int → Int) (p : Int) (rows : List (List Int)) : List (List Int) := rows.foldl (joined inv p) []
def Row (p : Int) (n : Nat) (r : List Int) : Prop := r.length = n ∧ ∀ x ∈ r, 0 ≤ x ∧ x < p
/-- of an inverse: it is one, and that of 1 is 1 -/
structure Inv (p : Int) (inv : Int → Int) : Prop where
  two : 2 ≤ p
  mul : ∀ x, 0 < x → x < p → inv x * x % p = 1
structure Rref (p : Int) (n : Nat) (b : List (List Int)) : Prop where
  rows : ∀ r ∈ b, Row p n r
  lt : ∀ r ∈ b, lead r < n
  one : ∀ r ∈ b, at0 r (lead r) = 1
  inc : b.Pairwise fun r s => lead r < lead s
  col : b.Pairwise fun r s => at0 r (lead s) = 0
/-! ## items -/
theorem at0_of {r : List Int} {i : Nat} (h : i < r.length) : at0 r i = r[i] := by simp [at0, List.getD, h]
theorem at0_out {r : List Int} {i : Nat} (h : r.length ≤ i) : at0 r i = 0 := by simp [at0, List.getD, h]
theorem at0_mem {r : List Int} {i : Nat} (h : i < r.length) : at0 r i ∈ r := by rw [at0_of h]; exact List.getElem_mem h
theorem at0_rep {n i : Nat} : at0 (List.replicate n 0) i = 0 := by
  by_cases h : i < n
  · rw [at0_of (by simpa using h)]; simp
  · rw [at0_out (by simpa using Nat.le_of_not_lt h)]
theorem ext0 {r s : List Int} (h : r.length = s.length) (e : ∀ i, i < r.length → at0 r i = at0 s i) : r = s := by
  refine List.ext_getElem h fun i h1 h2 => ?_
  have := e i h1
  rwa [at0_of h1, at0_of h2] at this
theorem Row.bound {p : Int} {n : Nat} {r : List Int} (h : Row p n r) (h2 : 0 < p) (i : Nat) : 0 ≤ at0 r i ∧ at0 r i < p := by
  by_cases hi : i < r.length
  · exact h.2 _ (at0_mem hi)
  · rw [at0_out (Nat.le_of_not_lt hi)]; omega
theorem Row.emod {p : Int} {n : Nat} {r : List Int} (h : Row p n r) (h2 : 0 < p) (i : Nat) : at0 r i % p = at0 r i := by
  have := h.bound h2 i
  exact Int.emod_eq_of_lt this.1 this.2
theorem addR_len {p f : Int} {n : Nat} {r o : List Int} (h : r.length = n) (h' : o.length = n) : (addR p r f o).length = n := by simp [addR, h, h']
theorem at0_addR {p f : Int} {r o : List Int} (h : r.length = o.length) (i : Nat) : at0 (addR p r f o) i = (at0 r i + f * at0 o i) % p := by
  by_cases hi : i < r.length
  · rw [at0_of (by rw [addR_len rfl h.symm]; exact hi), at0_of hi, at0_of (by omega)]
    simp [addR]
  · rw [at0_out (by rw [addR_len rfl h.symm]; omega), at0_out (by omega), at0_out (by omega)]
    simp
theorem addR_row {p f : Int} {n : Nat} {r o : List Int} (h2 : 0 < p) (h : r.length = n) (h' : o.length = n) : Row p n (addR p r f o) := by
  refine ⟨addR_len h h', fun x hx => ?_⟩
  obtain ⟨i, hi, rfl⟩ := List.mem_iff_getElem.mp hx
  rw [← at0_of hi, at0_addR (by omega)]
  exact ⟨Int.emod_nonneg _ (by omega), Int.emod_lt_of_pos _ h2⟩
theorem scale_len {p f : Int} {r : List Int} : (scale p f r).length = r.length := by simp [scale]
theorem at0_scale {p f : Int} {r : List Int} (i : Nat) : at0 (scale p f r) i = f * at0 r i % p := by
  by_cases hi : i < r.length
  · rw [at0_of (by rw [scale_len]; exact hi), at0_of hi]; simp [scale]
  · rw [at0_out (by rw [scale_len]; omega), at0_out (by omega)]; simp
theorem scale_row {p f : Int} {n : Nat} {r : List Int} (h2 : 0 < p) (h : r.length = n) : Row p n (scale p f r) := by
  refine ⟨by rw [scale_len, h], fun x hx => ?_⟩
  obtain ⟨i, hi, rfl⟩ := List.mem_iff_getElem.mp hx
  rw [← at0_of hi, at0_scale]
  exact ⟨Int.emod_nonneg _ (by omega), Int.emod_lt_of_pos _ h2⟩
/-! ## the first item other than 0 -/
theorem lead_le {r : List Int} : lead r ≤ r.length := List.findIdx_le_length
theorem lead_ne {r : List Int} (h : lead r < r.length) : at0 r (lead r) ≠ 0 := by
  rw [at0_of h]
  have k : (r[lead r] != 0) = true := List.findIdx_getElem (p := fun x : Int => x != 0) (xs := r) (w := h)
  exact bne_iff_ne.mp k
theorem lead_zero {r : List Int} {i : Nat} (h : i < lead r) : at0 r i = 0 := by
  have hl : i < r.length := Nat.lt_of_lt_of_le h lead_le
  rw [at0_of hl]
  have := List.not_of_lt_findIdx (p := fun x : Int => x != 0) (xs := r) h
  simpa using this
theorem lead_eq {r : List Int} {i : Nat} (hi : at0 r i ≠ 0) (h : ∀ j, j < i → at0 r j = 0) : lead r = i := by
  have hl : i < r.length := by
    refine Nat.lt_of_not_le fun hh => hi (at0_out hh)
  rcases Nat.lt_trichotomy (lead r) i with h1 | h1 | h1
  · exact absurd (h _ h1) (lead_ne (by omega))
  · exact h1
  · exact absurd (lead_zero h1) hi
theorem lead_out {r : List Int} (h : lead r = r.length) (i : Nat) : at0 r i = 0 := by
  by_cases hi : i < r.length
  · exact lead_zero (by omega)
  · exact at0_out (by omega)
/-! ## what a basis leaves of a row -/
theorem restOf_ok {p : Int} {n : Nat} (h2 : 0 < p) : ∀ (l : List (List Int)) (C : List Nat) (r : List Int), Row p n r → (∀ o ∈ l, Row p n o) → (∀ o ∈ l, at0 o (lead o) = 1) → (l.Pairwise fun a b => at0 b (lead a) = 0) →
    (∀ o ∈ l, ∀ c ∈ C, at0 o c = 0) → (∀ c ∈ C, at0 r c = 0) → Row p n (restOf p l r) ∧ (∀ c ∈ C, at0 (restOf p l r) c = 0) ∧ ∀ o ∈ l, at0 (restOf p l r) (lead o) = 0
  | [], C, r, hr, _, _, _, _, hc => ⟨hr, hc, fun o h => nomatch h⟩
  | o :: l, C, r, hr, hl, h1, hw, hC, hc => by
    have ho := hl o (.head _)
    have hlen : r.length = o.length := by rw [hr.1, ho.1]
    obtain ⟨hw1, hw2⟩ := List.pairwise_cons.mp hw
    obtain ⟨r', er, hr', hz, hcz⟩ : ∃ r', (if at0 r (lead o) = 0 then r else addR p r (-at0 r (lead o)) o) = r' ∧ Row p n r' ∧ at0 r' (lead o) = 0 ∧ ∀ c ∈ C, at0 r' c = 0 := by
      by_cases e : at0 r (lead o) = 0
      · exact ⟨r, if_pos e, hr, e, hc⟩
      · refine ⟨_, if_neg e, addR_row h2 hr.1 ho.1, ?_, fun c h => ?_⟩
        · rw [at0_addR hlen, h1 o (.head _), Int.mul_one, Int.add_neg_eq_sub, Int.sub_self, Int.zero_emod]
        · rw [at0_addR hlen, hC o (.head _) c h, hc c h]; simp
    have := restOf_ok h2 l (lead o :: C) r' hr' (fun a h => hl a (.tail _ h)) (fun a h => h1 a (.tail _ h)) hw2 (fun a h c hcc => by
      rcases List.mem_cons.mp hcc with rfl | hcc
      · exact hw1 a h
      · exact hC a (.tail _ h) c hcc) (fun c hcc => by
      rcases List.mem_cons.mp hcc with rfl | hcc
      · exact hz
      · exact hcz c hcc)
    have e2 : restOf p (o :: l) r = restOf p l r' := by rw [← er]; rfl
    rw [e2]
    refine ⟨this.1, fun c h => this.2.1 c (.tail _ h), fun a h => ?_⟩
    rcases List.mem_cons.mp h with rfl | h
    · exact this.2.1 _ (.head _)
    · exact this.2.2 a h
theorem restOf_id {p : Int} : ∀ (l : List (List Int)) (r : List Int), (∀ o ∈ l, at0 r (lead o) = 0) → restOf p l r = r
  | [], r, _ => rfl
  | o :: l, r, h => by
    have e : restOf p (o :: l) r = restOf p l r := by
      show restOf p l (if at0 r (lead o) = 0 then r else addR p r (-at0 r (lead o)) o) = _
      rw [if_pos (h o (.head _))]
    rw [e]
    exact restOf_id l r fun a ha => h a (.tail _ ha)
theorem Rref.pw {p : Int} {n : Nat} {b : List (List Int)} (h : Rref p n b) : b.Pairwise fun a c => at0 c (lead a) = 0 :=
  h.inc.imp fun h => lead_zero h
theorem Rref.rest {p : Int} {n : Nat} {b : List (List Int)} (h : Rref p n b) (h2 : 0 < p) {r : List Int} (hr : Row p n r) : Row p n (restOf p b r) ∧ ∀ o ∈ b, at0 (restOf p b r) (lead o) = 0 := by
  have := restOf_ok h2 b [] r hr h.rows h.one h.pw (fun _ _ c hc => nomatch hc) (fun c hc => nomatch hc)
  exact ⟨this.1, this.2.2⟩
/-! ## one more row -/
theorem joinL_ok {p : Int} {n : Nat} {b : List (List Int)} (h2 : 2 ≤ p) (h : Rref p n b) {new : List Int} (hn : Row p n new) (hl : lead new < n) (h1 : at0 new (lead new) = 1) (hz : ∀ o ∈ b, at0 new (lead o) = 0) : Rref p n (joinL p b (lead new) new) := by
  have h0 : 0 < p := by omega
  have ne : ∀ o ∈ b, lead o ≠ lead new := fun o ho e => by
    have := hz o ho
    rw [e, h1] at this
    omega
  -- of a row ahead
  have bef : ∀ o ∈ b, lead o < lead new → Row p n (addR p o (-at0 o (lead new)) new) ∧ (∀ i, at0 new i = 0 → at0 (addR p o (-at0 o (lead new)) new) i = at0 o i) ∧ at0 (addR p o (-at0 o (lead new)) new) (lead new) = 0 ∧ lead (addR p o (-at0 o (lead new)) new) = lead o := fun o ho hlt => by
    have hlen : o.length = new.length := by rw [(h.rows o ho).1, hn.1]
    have k1 : ∀ i, at0 new i = 0 → at0 (addR p o (-at0 o (lead new)) new) i = at0 o i := fun i hi => by
      rw [at0_addR hlen, hi, Int.mul_zero, Int.add_zero, (h.rows o ho).emod h0]
    refine ⟨addR_row h0 (h.rows o ho).1 hn.1, k1, ?_, lead_eq ?_ fun j hj => ?_⟩
    · rw [at0_addR hlen, h1, Int.mul_one, Int.add_neg_eq_sub, Int.sub_self, Int.zero_emod]
    · rw [k1 _ (lead_zero hlt), h.one o ho]; decide
    · rw [k1 j (lead_zero (by omega)), lead_zero hj]
  have mem : ∀ r ∈ joinL p b (lead new) new, (∃ o ∈ b, lead o < lead new ∧ r = addR p o (-at0 o (lead new)) new) ∨ r = new ∨ (r ∈ b ∧ lead new < lead r) := fun r hr => by
    rcases List.mem_append.mp hr with hr | hr
    · obtain ⟨o, ho, rfl⟩ := List.mem_map.mp hr
      have := List.mem_filter.mp ho
      exact .inl ⟨o, this.1, of_decide_eq_true this.2, rfl⟩
    · rcases List.mem_cons.mp hr with rfl | hr
      · exact .inr (.inl rfl)
      · have := List.mem_filter.mp hr
        exact .inr (.inr ⟨this.1, of_decide_eq_true this.2⟩)
  have ic : b.Pairwise fun r s => lead r < lead s ∧ at0 r (lead s) = 0 := List.pairwise_and_iff.mpr ⟨h.inc, h.col⟩
  have all : (joinL p b (lead new) new).Pairwise fun r s => lead r < lead s ∧ at0 r (lead s) = 0 := by
    refine List.pairwise_append.mpr ⟨?_, ?_, ?_⟩
    · refine List.pairwise_map.mpr ?_
      refine List.Pairwise.imp_of_mem ?_ (ic.filter _)
      intro r s hr hs ⟨e1, e2⟩
      have hr' := List.mem_filter.mp hr
      have hs' := List.mem_filter.mp hs
      obtain ⟨_, k1, _, k3⟩ := bef r hr'.1 (of_decide_eq_true hr'.2)
      obtain ⟨_, _, _, k4⟩ := bef s hs'.1 (of_decide_eq_true hs'.2)
      rw [k3, k4, k1 _ (hz s hs'.1)]
      exact ⟨e1, e2⟩
    · refine List.pairwise_cons.mpr ⟨fun s hs => ?_, ic.filter _⟩
      have hs' := List.mem_filter.mp hs
      exact ⟨of_decide_eq_true hs'.2, hz s hs'.1⟩
    · intro r hr s hs
      obtain ⟨o, ho, rfl⟩ := List.mem_map.mp hr
      have ho' := List.mem_filter.mp ho
      have ol := of_decide_eq_true ho'.2
      obtain ⟨_, k1, k2, k3⟩ := bef o ho'.1 ol
      rw [k3]
      rcases List.mem_cons.mp hs with rfl | hs
      · exact ⟨ol, k2⟩
      · have hs' := List.mem_filter.mp hs
        have sl := of_decide_eq_true hs'.2
        rw [k1 _ (hz s hs'.1)]
        have lt : lead o < lead s := Nat.lt_trans ol sl
        refine ⟨lt, ?_⟩
        -- o stands ahead of s in b
        obtain ⟨i, hi, rfl⟩ := List.mem_iff_getElem.mp ho'.1
        obtain ⟨j, hj, rfl⟩ := List.mem_iff_getElem.mp hs'.1
        rcases Nat.lt_trichotomy i j with e | e | e
        · exact List.pairwise_iff_getElem.mp h.col i j hi hj e
        · subst e; omega
        · have := List.pairwise_iff_getElem.mp h.inc j i hj hi e; omega
  obtain ⟨a1, a2⟩ := List.pairwise_and_iff.mp all
  refine ⟨fun r hr => ?_, fun r hr => ?_, fun r hr => ?_, a1, a2⟩
  · rcases mem r hr with ⟨o, ho, hlt, rfl⟩ | rfl | ⟨ho, _⟩
    · exact (bef o ho hlt).1
    · exact hn
    · exact h.rows r ho
  · rcases mem r hr with ⟨o, ho, hlt, rfl⟩ | rfl | ⟨ho, _⟩
    · rw [(bef o ho hlt).2.2.2]; exact h.lt o ho
    · exact hl
    · exact h.lt r ho
  · rcases mem r hr with ⟨o, ho, hlt, rfl⟩ | rfl | ⟨ho, _⟩
    · obtain ⟨_, k1, _, k3⟩ := bef o ho hlt
      rw [k3, k1 _ (hz o ho)]; exact h.one o ho
    · exact h1
    · exact h.one r ho
theorem new_ok {p : Int} {inv : Int → Int} (I : Inv p inv) {n : Nat} {left : List Int} (hr : Row p n left) (hl : lead left < left.length) :
    Row p n (scale p (inv (at0 left (lead left))) left) ∧ lead (scale p (inv (at0 left (lead left))) left) = lead left ∧ at0 (scale p (inv (at0 left (lead left))) left) (lead left) = 1 := by
  have h2 := I.two
  have b := hr.bound (by omega) (lead left)
  have nz := lead_ne hl
  have e : at0 (scale p (inv (at0 left (lead left))) left) (lead left) = 1 := by rw [at0_scale]; exact I.mul _ (by omega) b.2
  refine ⟨scale_row (by omega) hr.1, lead_eq (by rw [e]; decide) fun j hj => ?_, e⟩
  rw [at0_scale, lead_zero hj]; simp
theorem joined_ok {p : Int} {inv : Int → Int} (I : Inv p inv) {n : Nat} {b : List (List Int)} (h : Rref p n b) {r : List Int} (hr : Row p n r) : Rref p n (joined inv p b r) := by
  have h2 := I.two
  obtain ⟨hl, hz⟩ := h.rest (by omega) hr
  unfold joined
  by_cases e : lead (restOf p b r) = (restOf p b r).length
  · rw [if_pos e]; exact h
  · rw [if_neg e]
    have lt : lead (restOf p b r) < (restOf p b r).length := Nat.lt_of_le_of_ne lead_le e
    obtain ⟨k1, k2, k3⟩ := new_ok I hl lt
    have := joinL_ok h2 h k1 (by rw [k2]; rw [hl.1] at lt; exact lt) (by rw [k2]; exact k3) (fun o ho => by rw [at0_scale, hz o ho]; simp)
    rwa [k2] at this
theorem Rref.nil {p : Int} {n : Nat} : Rref p n [] := ⟨(fun _ h => nomatch h), (fun _ h => nomatch h), (fun _ h => nomatch h), .nil, .nil⟩
theorem fold_ok {p : Int} {inv : Int → Int} (I : Inv p inv) {n : Nat} : ∀ (rows b : List (List Int)), Rref p n b → (∀ r ∈ rows, Row p n r) → Rref p n (rows.foldl (joined inv p) b)
  | [], b, h, _ => h
  | r :: rows, b, h, hr => fold_ok I rows _ (joined_ok I h (hr r (.head _))) fun s hs => hr s (.tail _ hs)
theorem reduced_ok {p : Int} {inv : Int → Int} (I : Inv p inv) {n : Nat} {rows : List (List Int)} (hr : ∀ r ∈ rows, Row p n r) : Rref p n (reduced inv p rows) := fold_ok I rows [] .nil hr
/-! ## the reduced basis of a reduced basis is itself -/
theorem addR_zero {p : Int} {n : Nat} {r o : List Int} (h2 : 0 < p) (h : Row p n r) (h' : o.length = n) : addR p r 0 o = r := by
  refine ext0 (by rw [addR_len h.1 h', h.1]) fun i hi => ?_
  rw [at0_addR (by rw [h.1, h']), Int.zero_mul, Int.add_zero, h.emod h2]
theorem inv_one {p : Int} {inv : Int → Int} (I : Inv p inv) : inv 1 % p = 1 := by
  have := I.mul 1 (by omega) (by have := I.two; omega)
  rwa [Int.mul_one] at this
theorem scale_one {p f : Int} {n : Nat} {r : List Int} (h2 : 0 < p) (h : Row p n r) (hf : f % p = 1) : scale p f r = r := by
  refine ext0 scale_len fun i hi => ?_
  rw [at0_scale, Int.mul_emod, hf, Int.one_mul, Int.emod_emod_of_dvd _ (Int.dvd_refl p), h.emod h2]
theorem joined_last {p : Int} {inv : Int → Int} (I : Inv p inv) {n : Nat} {b : List (List Int)} {r : List Int} (h : Rref p n (b ++ [r])) : joined inv p b r = b ++ [r] := by
  have h2 := I.two
  have hr := h.rows r (by simp)
  have hrl := h.lt r (by simp)
  have inc := List.pairwise_append.mp h.inc
  have col := List.pairwise_append.mp h.col
  have e : restOf p b r = r := restOf_id b r fun o ho => lead_zero (inc.2.2 o ho r (.head _))
  unfold joined
  rw [e, if_neg (by rw [hr.1]; omega), h.one r (by simp), scale_one (by omega) hr (inv_one I)]
  unfold joinL
  have f1 : b.filter (fun o => decide (lead o < lead r)) = b := List.filter_eq_self.mpr fun o ho => decide_eq_true (inc.2.2 o ho r (.head _))
  have f2 : b.filter (fun o => decide (lead r < lead o)) = [] := List.filter_eq_nil_iff.mpr fun o ho => by
    have := inc.2.2 o ho r (.head _)
    simp only [decide_eq_true_eq]; omega
  rw [f1, f2]
  have f3 : b.map (fun o => addR p o (-at0 o (lead r)) r) = b := by
    refine (List.map_congr_left fun o ho => ?_).trans (List.map_id b)
    rw [col.2.2 o ho r (.head _), Int.neg_zero, addR_zero (by omega) (h.rows o (by simp [ho])) hr.1]
    rfl
  rw [f3]
theorem Rref.init {p : Int} {n : Nat} {b c : List (List Int)} (h : Rref p n (b ++ c)) : Rref p n b :=
  ⟨fun r hr => h.rows r (List.mem_append_left _ hr), fun r hr => h.lt r (List.mem_append_left _ hr), fun r hr => h.one r (List.mem_append_left _ hr), (List.pairwise_append.mp h.inc).1, (List.pairwise_append.mp h.col).1⟩
theorem fold_last {p : Int} {inv : Int → Int} (I : Inv p inv) {n : Nat} : ∀ (c b : List (List Int)), Rref p n (b ++ c) → c.foldl (joined inv p) b = b ++ c
  | [], b, _ => (List.append_nil b).symm
  | r :: c, b, h => by
    have e : b ++ r :: c = (b ++ [r]) ++ c := by simp
    rw [e] at h
    show c.foldl (joined inv p) (joined inv p b r) = _
    rw [joined_last I h.init, fold_last I c _ h, e]
theorem reduced_id {p : Int} {inv : Int → Int} (I : Inv p inv) {n : Nat} {b : List (List Int)} (h : Rref p n b) : reduced inv p b = b := fold_last I b [] h
end RX

set_option linter.all false
/-! # Spans of rows, counted (plain mathematics, no Python) -/
namespace RX
/-- the sums of multiples of some rows -/
inductive InS (p : Int) (n : Nat) (B : List (List Int)) : List Int → Prop
  | zero : InS p n B (List.replicate n 0)
  | add {v r : List Int} (f : Int) : InS p n B v → r ∈ B → InS p n B (addR p v f r)
def Len (n : Nat) (B : List (List Int)) : Prop := ∀ r ∈ B, r.length = n
theorem zero_row {p : Int} {n : Nat} (h : 0 < p) : Row p n (List.replicate n 0) := ⟨by simp, fun x hx => by rw [List.eq_of_mem_replicate hx]; omega⟩
theorem InS.row {p : Int} {n : Nat} {B : List (List Int)} {v : List Int} (h : 0 < p) (hB : Len n B) (i : InS p n B v) : Row p n v := by
  induction i with
  | zero => exact zero_row h
  | add f i hr ih => exact addR_row h ih.1 (hB _ hr)
theorem emod_l {p a b : Int} : (a % p + b) % p = (a + b) % p := by simp
theorem emod_m {p a f b : Int} : (a + f * (b % p)) % p = (a + f * b) % p := by
  rw [Int.add_emod, Int.mul_emod, Int.emod_emod_of_dvd _ (Int.dvd_refl p), ← Int.mul_emod, ← Int.add_emod]
theorem addR_assoc {p f g : Int} {n : Nat} {v u r : List Int} (hv : v.length = n) (hu : u.length = n) (hr : r.length = n) : addR p v f (addR p u g r) = addR p (addR p v f u) (f * g) r := by
  have l1 : (addR p u g r).length = n := addR_len hu hr
  have l2 : (addR p v f u).length = n := addR_len hv hu
  refine ext0 (by rw [addR_len hv l1, addR_len l2 hr]) fun i hi => ?_
  rw [at0_addR (by omega), at0_addR (by omega), at0_addR (by omega), at0_addR (by omega), emod_m, emod_l]
  congr 1
  rw [Int.mul_add, Int.mul_assoc, Int.add_assoc]
theorem addR_comm {p f g : Int} {n : Nat} {v u r : List Int} (hv : v.length = n) (hu : u.length = n) (hr : r.length = n) : addR p (addR p v f u) g r = addR p (addR p v g r) f u := by
  have l1 : (addR p v f u).length = n := addR_len hv hu
  have l2 : (addR p v g r).length = n := addR_len hv hr
  refine ext0 (by rw [addR_len l1 hr, addR_len l2 hu]) fun i hi => ?_
  rw [at0_addR (by omega), at0_addR (by omega), at0_addR (by omega), at0_addR (by omega), emod_l, emod_l]
  congr 1
  omega
theorem addR_two {p f g : Int} {n : Nat} {v r : List Int} (hv : v.length = n) (hr : r.length = n) : addR p (addR p v f r) g r = addR p v ((f + g) % p) r := by
  have l1 : (addR p v f r).length = n := addR_len hv hr
  refine ext0 (by rw [addR_len l1 hr, addR_len hv hr]) fun i hi => ?_
  rw [at0_addR (by omega), at0_addR (by omega), at0_addR (by omega), emod_l, Int.add_assoc, ← Int.add_mul]
  rw [Int.mul_comm ((f + g) % p), Int.mul_comm (f + g), emod_m]
theorem addR_rep {p f : Int} {n : Nat} {v : List Int} (h : 0 < p) (hv : Row p n v) : addR p v f (List.replicate n 0) = v := by
  refine ext0 (by rw [addR_len hv.1 (by simp), hv.1]) fun i hi => ?_
  rw [at0_addR (by rw [hv.1]; simp), at0_rep, Int.mul_zero, Int.add_zero, hv.emod h]
theorem InS.comb {p f : Int} {n : Nat} {B : List (List Int)} {v u : List Int} (h : 0 < p) (hB : Len n B) (i : InS p n B v) (j : InS p n B u) : InS p n B (addR p v f u) := by
  induction j with
  | zero => rw [addR_rep h (i.row h hB)]; exact i
  | add g j hr ih =>
    rw [addR_assoc (i.row h hB).1 (j.row h hB).1 (hB _ hr)]
    exact ih.add _ hr
theorem zero_add {p : Int} {n : Nat} {f : Int} {r : List Int} (hr : r.length = n) : addR p (List.replicate n 0) f r = scale p f r := by
  refine ext0 (by rw [addR_len (by simp) hr, scale_len, hr]) fun i hi => ?_
  rw [at0_addR (by rw [hr]; simp), at0_rep, at0_scale, Int.zero_add]
theorem InS.self {p : Int} {n : Nat} {B : List (List Int)} {r : List Int} (h : 2 ≤ p) (hr : Row p n r) (m : r ∈ B) : InS p n B r := by
  have := InS.add (p := p) (n := n) 1 (.zero (B := B)) m
  rwa [zero_add hr.1, scale_one (by omega) hr (Int.emod_eq_of_lt (by omega) (by omega))] at this
theorem InS.imp {p : Int} {n : Nat} {B B' : List (List Int)} {v : List Int} (h : 0 < p) (hB : Len n B') (i : InS p n B v) (k : ∀ r ∈ B, InS p n B' r) : InS p n B' v := by
  induction i with
  | zero => exact .zero
  | add f i hr ih => exact ih.comb h hB (k _ hr)
theorem InS.scale {p f : Int} {n : Nat} {B : List (List Int)} {r : List Int} (h : 0 < p) (hB : Len n B) (i : InS p n B r) : InS p n B (RX.scale p f r) := by
  rw [← zero_add (i.row h hB).1]
  exact InS.comb h hB .zero i
/-! ## what a step of the reducing does to the span -/
theorem addR_back {p f : Int} {n : Nat} {r o : List Int} (h : 0 < p) (hr : Row p n r) (ho : o.length = n) : addR p (addR p r (-f) o) f o = r := by
  rw [addR_two hr.1 ho, Int.add_left_neg, Int.zero_emod, addR_zero h hr ho]
theorem rest_in {p : Int} {n : Nat} {B : List (List Int)} (h : 0 < p) (hB : Len n B) : ∀ (l : List (List Int)) (r : List Int), (∀ o ∈ l, InS p n B o) → Row p n r → (InS p n B (restOf p l r) ↔ InS p n B r)
  | [], r, _, _ => Iff.rfl
  | o :: l, r, hl, hr => by
    have ho := hl o (.head _)
    have hol := ho.row h hB
    have hl' : ∀ a ∈ l, InS p n B a := fun a ha => hl a (.tail _ ha)
    by_cases e : at0 r (lead o) = 0
    · have e2 : restOf p (o :: l) r = restOf p l r := by
        show restOf p l (if at0 r (lead o) = 0 then r else addR p r (-at0 r (lead o)) o) = _
        rw [if_pos e]
      rw [e2]
      exact rest_in h hB l r hl' hr
    · have e2 : restOf p (o :: l) r = restOf p l (addR p r (-at0 r (lead o)) o) := by
        show restOf p l (if at0 r (lead o) = 0 then r else addR p r (-at0 r (lead o)) o) = _
        rw [if_neg e]
      rw [e2, rest_in h hB l _ hl' (addR_row h hr.1 hol.1)]
      refine ⟨fun i => ?_, fun i => i.comb h hB ho⟩
      have := i.comb (f := at0 r (lead o)) h hB ho
      rwa [addR_back h hr hol.1] at this
theorem left_back {p : Int} {inv : Int → Int} (I : Inv p inv) {n : Nat} {left : List Int} (hr : Row p n left) (hl : lead left < left.length) :
    scale p (at0 left (lead left)) (scale p (inv (at0 left (lead left))) left) = left := by
  have h2 := I.two
  have b := hr.bound (by omega) (lead left)
  have nz := lead_ne hl
  have m := I.mul _ (by omega) b.2
  refine ext0 (by rw [scale_len, scale_len]) fun i hi => ?_
  rw [at0_scale, at0_scale]
  have e := @emod_m p 0 (at0 left (lead left)) (inv (at0 left (lead left)) * at0 left i)
  rw [Int.zero_add, Int.zero_add] at e
  rw [e, ← Int.mul_assoc, Int.mul_comm (at0 left (lead left)), Int.mul_emod, m, Int.one_mul, Int.emod_emod_of_dvd _ (Int.dvd_refl p), hr.emod (by omega)]
theorem joined_in {p : Int} {inv : Int → Int} (I : Inv p inv) {n : Nat} {B b : List (List Int)} (hB : Len n B) {r : List Int} (hr : Row p n r) (hb : ∀ o ∈ b, InS p n B o) (hi : InS p n B r) : ∀ s ∈ joined inv p b r, InS p n B s := by
  have h2 := I.two
  have h0 : 0 < p := by omega
  intro s hs
  unfold joined at hs
  by_cases e : lead (restOf p b r) = (restOf p b r).length
  · rw [if_pos e] at hs; exact hb s hs
  · rw [if_neg e] at hs
    have hn := ((rest_in h0 hB b r hb hr).mpr hi).scale (f := inv (at0 (restOf p b r) (lead (restOf p b r)))) h0 hB
    rcases List.mem_append.mp hs with hs | hs
    · obtain ⟨o, ho, rfl⟩ := List.mem_map.mp hs
      exact (hb o (List.mem_filter.mp ho).1).comb h0 hB hn
    · rcases List.mem_cons.mp hs with rfl | hs
      · exact hn
      · exact hb s (List.mem_filter.mp hs).1
theorem in_joined {p : Int} {inv : Int → Int} (I : Inv p inv) {n : Nat} {b : List (List Int)} (h : Rref p n b) {r : List Int} (hr : Row p n r) : (∀ o ∈ b, InS p n (joined inv p b r) o) ∧ InS p n (joined inv p b r) r := by
  have h2 := I.two
  have h0 : 0 < p := by omega
  have J := joined_ok I h hr
  have hB : Len n (joined inv p b r) := fun s hs => (J.rows s hs).1
  obtain ⟨hl, hz⟩ := h.rest h0 hr
  have key : ∀ o ∈ b, InS p n (joined inv p b r) o := by
    intro o ho
    by_cases e : lead (restOf p b r) = (restOf p b r).length
    · have ej : joined inv p b r = b := by unfold joined; rw [if_pos e]
      rw [ej]
      exact .self h2 (h.rows o ho) ho
    · have lt : lead (restOf p b r) < (restOf p b r).length := Nat.lt_of_le_of_ne lead_le e
      have ej : joined inv p b r = joinL p b (lead (restOf p b r)) (scale p (inv (at0 (restOf p b r) (lead (restOf p b r)))) (restOf p b r)) := by unfold joined; rw [if_neg e]
      have hnew : scale p (inv (at0 (restOf p b r) (lead (restOf p b r)))) (restOf p b r) ∈ joined inv p b r := by
        rw [ej]; exact List.mem_append_right _ (.head _)
      rcases Nat.lt_trichotomy (lead o) (lead (restOf p b r)) with c | c | c
      · have ht : addR p o (-at0 o (lead (restOf p b r))) (scale p (inv (at0 (restOf p b r) (lead (restOf p b r)))) (restOf p b r)) ∈ joined inv p b r := by
          rw [ej]
          exact List.mem_append_left _ (List.mem_map.mpr ⟨o, List.mem_filter.mpr ⟨ho, decide_eq_true c⟩, rfl⟩)
        have := (InS.self h2 (J.rows _ ht) ht).add (at0 o (lead (restOf p b r))) hnew
        rwa [addR_back h0 (h.rows o ho) (J.rows _ hnew).1] at this
      · exfalso
        have := hz o ho
        rw [c] at this
        exact lead_ne lt this
      · have ht : o ∈ joined inv p b r := by
          rw [ej]
          exact List.mem_append_right _ (.tail _ (List.mem_filter.mpr ⟨ho, decide_eq_true c⟩))
        exact .self h2 (J.rows _ ht) ht
  refine ⟨key, ?_⟩
  rw [← rest_in h0 hB b r key hr]
  by_cases e : lead (restOf p b r) = (restOf p b r).length
  · have e0 : restOf p b r = List.replicate n 0 := ext0 (by rw [hl.1]; simp) fun i hi => by rw [lead_out e, at0_rep]
    rw [e0]
    exact .zero
  · have lt : lead (restOf p b r) < (restOf p b r).length := Nat.lt_of_le_of_ne lead_le e
    have ej : joined inv p b r = joinL p b (lead (restOf p b r)) (scale p (inv (at0 (restOf p b r) (lead (restOf p b r)))) (restOf p b r)) := by unfold joined; rw [if_neg e]
    have hnew : scale p (inv (at0 (restOf p b r) (lead (restOf p b r)))) (restOf p b r) ∈ joined inv p b r := by
      rw [ej]; exact List.mem_append_right _ (.head _)
    have := InS.add (p := p) (n := n) (at0 (restOf p b r) (lead (restOf p b r))) (.zero (B := joined inv p b r)) hnew
    rwa [zero_add (J.rows _ hnew).1, left_back I hl lt] at this
theorem fold_in {p : Int} {inv : Int → Int} (I : Inv p inv) {n : Nat} {B : List (List Int)} (hB : Len n B) : ∀ (rows b : List (List Int)), (∀ r ∈ rows, Row p n r) → (∀ o ∈ b, InS p n B o) → (∀ r ∈ rows, InS p n B r) → ∀ s ∈ rows.foldl (joined inv p) b, InS p n B s
  | [], b, _, hb, _ => hb
  | r :: rows, b, hr, hb, hi => fold_in I hB rows _ (fun s hs => hr s (.tail _ hs)) (joined_in I hB (hr r (.head _)) hb (hi r (.head _))) fun s hs => hi s (.tail _ hs)
theorem in_fold {p : Int} {inv : Int → Int} (I : Inv p inv) {n : Nat} : ∀ (rows b : List (List Int)), Rref p n b → (∀ r ∈ rows, Row p n r) → (∀ o ∈ b, InS p n (rows.foldl (joined inv p) b) o) ∧ ∀ r ∈ rows, InS p n (rows.foldl (joined inv p) b) r
  | [], b, h, _ => ⟨fun o ho => .self I.two (h.rows o ho) ho, (fun _ h => nomatch h)⟩
  | r :: rows, b, h, hr => by
    have h0 : 0 < p := by have := I.two; omega
    obtain ⟨k1, k2⟩ := in_joined I h (hr r (.head _))
    have J := joined_ok I h (hr r (.head _))
    obtain ⟨m1, m2⟩ := in_fold I rows _ J fun s hs => hr s (.tail _ hs)
    have hB : Len n (rows.foldl (joined inv p) (joined inv p b r)) := fun s hs => ((fold_ok I rows _ J fun s hs => hr s (.tail _ hs)).rows s hs).1
    refine ⟨fun o ho => (k1 o ho).imp h0 hB m1, fun s hs => ?_⟩
    rcases List.mem_cons.mp hs with rfl | hs
    · exact k2.imp h0 hB m1
    · exact m2 s hs
/-- the reduced basis has the same span -/
theorem reduced_span {p : Int} {inv : Int → Int} (I : Inv p inv) {n : Nat} {rows : List (List Int)} (hr : ∀ r ∈ rows, Row p n r) (v : List Int) : InS p n (reduced inv p rows) v ↔ InS p n rows v := by
  have h0 : 0 < p := by have := I.two; omega
  have hB : Len n rows := fun r h => (hr r h).1
  have R := reduced_ok I hr
  refine ⟨fun i => i.imp h0 hB (fold_in I hB rows [] hr (fun _ h => nomatch h) fun r h => .self I.two (hr r h) h), fun i => i.imp h0 (fun r h => (R.rows r h).1) (in_fold I rows [] .nil hr).2⟩
end RX

set_option linter.all false
/-! # All vectors of a span, each once; the reduced basis is the only one (plain mathematics, no Python) -/
namespace RX
/-- the sums of multiples, gone through -/
def combos (p : Int) (n : Nat) : List (List Int) → List (List Int)
  | [] => [List.replicate n 0]
  | r :: b => (combos p n b).flatMap fun v => (List.range p.toNat).map fun f : Nat => addR p v (f : Int) r
theorem combos_cons {p : Int} {n : Nat} {b : List (List Int)} {r v : List Int} : v ∈ combos p n (r :: b) ↔ ∃ w ∈ combos p n b, ∃ f : Nat, f < p.toNat ∧ v = addR p w (f : Int) r := by
  simp only [combos, List.mem_flatMap, List.mem_map, List.mem_range]
  exact ⟨fun ⟨w, hw, f, hf, e⟩ => ⟨w, hw, f, hf, e.symm⟩, fun ⟨w, hw, f, hf, e⟩ => ⟨w, hw, f, hf, e.symm⟩⟩
theorem sum_map_const {α : Type} (k : Nat) : ∀ l : List α, (l.map fun _ => k).sum = l.length * k
  | [] => by simp
  | a :: l => by rw [List.map_cons, List.sum_cons, sum_map_const k l, List.length_cons, Nat.succ_mul, Nat.add_comm]
theorem combos_length {p : Int} {n : Nat} : ∀ b : List (List Int), (combos p n b).length = p.toNat ^ b.length
  | [] => by simp [combos]
  | r :: b => by
    have ih := combos_length (p := p) (n := n) b
    simp only [combos, List.length_flatMap, List.length_map, List.length_range, List.length_cons, Nat.pow_succ, ← ih]
    exact sum_map_const _ _
theorem combos_in {p : Int} {n : Nat} : ∀ (b : List (List Int)) {v : List Int}, v ∈ combos p n b → InS p n b v
  | [], v, h => by
    rw [List.mem_singleton.mp h]
    exact .zero
  | r :: b, v, h => by
    obtain ⟨w, hw, f, _, rfl⟩ := combos_cons.mp h
    have := combos_in b hw
    have up : ∀ {u}, InS p n b u → InS p n (r :: b) u := fun i => by
      induction i with
      | zero => exact .zero
      | add f i hr ih => exact ih.add f (.tail _ hr)
    exact (up this).add _ (.head _)
theorem combos_row {p : Int} {n : Nat} {b : List (List Int)} (h : 0 < p) (hb : Len n b) {v : List Int} (hv : v ∈ combos p n b) : Row p n v := (combos_in b hv).row h hb
theorem combos_add {p : Int} {n : Nat} (h : 0 < p) : ∀ (b : List (List Int)), Len n b → ∀ {v : List Int}, v ∈ combos p n b → ∀ {s : List Int}, s ∈ b → ∀ g : Int, addR p v g s ∈ combos p n b
  | [], _, v, _, s, hs, _ => nomatch hs
  | r :: b, hb, v, hv, s, hs, g => by
    have hb' : Len n b := fun a ha => hb a (.tail _ ha)
    obtain ⟨w, hw, f, hf, rfl⟩ := combos_cons.mp hv
    have wr := combos_row h hb' hw
    have rr := hb r (.head _)
    rcases List.mem_cons.mp hs with rfl | hs
    · rw [addR_two wr.1 rr]
      have m0 := Int.emod_nonneg ((f : Int) + g) (show p ≠ 0 by omega)
      have m1 := Int.emod_lt_of_pos ((f : Int) + g) h
      refine combos_cons.mpr ⟨w, hw, (((f : Int) + g) % p).toNat, by omega, ?_⟩
      rw [Int.toNat_of_nonneg m0]
    · rw [addR_comm wr.1 rr (hb' s hs)]
      exact combos_cons.mpr ⟨_, combos_add h b hb' hw hs g, f, hf, rfl⟩
theorem combos_zero {p : Int} {n : Nat} (h : 0 < p) : ∀ (b : List (List Int)), Len n b → List.replicate n 0 ∈ combos p n b
  | [], _ => .head _
  | r :: b, hb => combos_cons.mpr ⟨_, combos_zero h b (fun a ha => hb a (.tail _ ha)), 0, by omega, by
      have := addR_zero (p := p) (o := r) h (zero_row (n := n) h) (hb r (.head _))
      exact this.symm⟩
theorem combos_iff {p : Int} {n : Nat} {b : List (List Int)} (h : 0 < p) (hb : Len n b) (v : List Int) : v ∈ combos p n b ↔ InS p n b v := by
  refine ⟨combos_in b, fun i => ?_⟩
  induction i with
  | zero => exact combos_zero h b hb
  | add f i hr ih => exact combos_add h b hb ih hr f
/-! ## over a reduced basis -/
theorem Rref.tail {p : Int} {n : Nat} {r : List Int} {b : List (List Int)} (h : Rref p n (r :: b)) : Rref p n b :=
  ⟨fun s hs => h.rows s (.tail _ hs), fun s hs => h.lt s (.tail _ hs), fun s hs => h.one s (.tail _ hs), (List.pairwise_cons.mp h.inc).2, (List.pairwise_cons.mp h.col).2⟩
theorem Rref.len {p : Int} {n : Nat} {b : List (List Int)} (h : Rref p n b) : Len n b := fun r hr => (h.rows r hr).1
/-- the sums of the rows behind have 0 up to the first row's place -/
theorem tail_zero {p : Int} {n : Nat} {c : Nat} {b : List (List Int)} (hb : Len n b) (hc : ∀ s ∈ b, ∀ i, i ≤ c → at0 s i = 0) {v : List Int} (i : InS p n b v) (h : 0 < p) : ∀ j, j ≤ c → at0 v j = 0 := by
  intro j hj
  induction i with
  | zero => exact at0_rep
  | add f i hr ih =>
    rw [at0_addR (by rw [(i.row h hb).1, hb _ hr]), ih, hc _ hr j hj]
    simp
theorem Rref.behind {p : Int} {n : Nat} {r : List Int} {b : List (List Int)} (h : Rref p n (r :: b)) (h0 : 0 < p) {v : List Int} (i : InS p n b v) : ∀ j, j ≤ lead r → at0 v j = 0 :=
  tail_zero h.tail.len (fun s hs j hj => lead_zero (Nat.lt_of_le_of_lt hj ((List.pairwise_cons.mp h.inc).1 s hs))) i h0
theorem at_first {p : Int} {n : Nat} {r : List Int} {b : List (List Int)} (h : Rref p n (r :: b)) (h0 : 0 < p) {w : List Int} (hw : InS p n b w) {f : Int} (f0 : 0 ≤ f) (f1 : f < p) : at0 (addR p w f r) (lead r) = f := by
  have wr := hw.row h0 h.tail.len
  rw [at0_addR (by rw [wr.1, (h.rows r (.head _)).1]), h.behind h0 hw _ (Nat.le_refl _), h.one r (.head _), Int.zero_add, Int.mul_one]
  exact Int.emod_eq_of_lt f0 f1
theorem combos_nodup {p : Int} {n : Nat} (h0 : 0 < p) : ∀ (b : List (List Int)), Rref p n b → (combos p n b).Nodup
  | [], _ => by simp [combos]
  | r :: b, h => by
    have ih := combos_nodup h0 b h.tail
    have hb := h.tail.len
    have rl := (h.rows r (.head _)).1
    refine List.pairwise_flatMap.mpr ⟨fun w hw => ?_, ?_⟩
    · refine List.pairwise_map.mpr (List.Pairwise.imp_of_mem ?_ List.nodup_range)
      intro f g hf hg e e2
      have hf' := List.mem_range.mp hf
      have hg' := List.mem_range.mp hg
      have k1 := at_first h h0 (combos_in b hw) (f := (f : Int)) (by omega) (by omega)
      have k2 := at_first h h0 (combos_in b hw) (f := (g : Int)) (by omega) (by omega)
      rw [e2, k2] at k1
      omega
    · refine List.Pairwise.imp_of_mem ?_ ih
      intro w u hw hu e x hx y hy e2
      obtain ⟨f, hf, rfl⟩ := List.mem_map.mp hx
      obtain ⟨g, hg, rfl⟩ := List.mem_map.mp hy
      have hf' := List.mem_range.mp hf
      have hg' := List.mem_range.mp hg
      have k1 := at_first h h0 (combos_in b hw) (f := (f : Int)) (by omega) (by omega)
      have k2 := at_first h h0 (combos_in b hu) (f := (g : Int)) (by omega) (by omega)
      rw [e2, k2] at k1
      obtain rfl : g = f := by omega
      have wr := combos_row h0 hb hw
      have ur := combos_row h0 hb hu
      have b1 := addR_two (p := p) (f := (g : Int)) (g := -(g : Int)) wr.1 rl
      have b2 := addR_two (p := p) (f := (g : Int)) (g := -(g : Int)) ur.1 rl
      rw [e2, b2, Int.add_right_neg, Int.zero_emod, addR_zero h0 ur rl, addR_zero h0 wr rl] at b1
      exact e b1.symm
/-- one that is 0 at all first places is the row of zeros -/
theorem zero_of {p : Int} {n : Nat} (h0 : 0 < p) : ∀ (b : List (List Int)), Rref p n b → ∀ v, InS p n b v → (∀ r ∈ b, at0 v (lead r) = 0) → v = List.replicate n 0
  | [], h, v, i, _ => by
    have := (combos_iff h0 h.len v).mpr i
    exact List.mem_singleton.mp this
  | r :: b, h, v, i, hz => by
    obtain ⟨w, hw, f, hf, rfl⟩ := combos_cons.mp ((combos_iff h0 h.len v).mpr i)
    have wr := combos_row h0 h.tail.len hw
    have rl := (h.rows r (.head _)).1
    have k := at_first h h0 (combos_in b hw) (f := (f : Int)) (by omega) (by omega)
    rw [hz r (.head _)] at k
    have e : addR p w (f : Int) r = w := by rw [← k]; exact addR_zero h0 wr rl
    rw [e] at hz ⊢
    exact zero_of h0 b h.tail w (combos_in b hw) fun s hs => hz s (.tail _ hs)
/-- the first place of one that is not all zeros is that of a row -/
theorem lead_in {p : Int} {n : Nat} (h0 : 0 < p) : ∀ (b : List (List Int)), Rref p n b → ∀ v, InS p n b v → v ≠ List.replicate n 0 → ∃ r ∈ b, lead v = lead r
  | [], h, v, i, ne => by
    have := (combos_iff h0 h.len v).mpr i
    exact absurd (List.mem_singleton.mp this) ne
  | r :: b, h, v, i, ne => by
    obtain ⟨w, hw, f, hf, rfl⟩ := combos_cons.mp ((combos_iff h0 h.len v).mpr i)
    have wr := combos_row h0 h.tail.len hw
    have rl := (h.rows r (.head _)).1
    have k := at_first h h0 (combos_in b hw) (f := (f : Int)) (by omega) (by omega)
    by_cases e : f = 0
    · have e2 : addR p w (f : Int) r = w := by rw [e]; exact addR_zero h0 wr rl
      rw [e2] at ne ⊢
      obtain ⟨s, hs, hl⟩ := lead_in h0 b h.tail w (combos_in b hw) ne
      exact ⟨s, .tail _ hs, hl⟩
    · refine ⟨r, .head _, lead_eq (by rw [k]; omega) fun j hj => ?_⟩
      rw [at0_addR (by rw [wr.1, rl]), h.behind h0 (combos_in b hw) j (by omega), lead_zero hj]
      simp
theorem Rref.ne_zero {p : Int} {n : Nat} {b : List (List Int)} (h : Rref p n b) {r : List Int} (hr : r ∈ b) : r ≠ List.replicate n 0 := fun e => by
  have := h.one r hr
  rw [e, at0_rep] at this
  omega
/-- at the first places of the rows, each row has 1 or 0 -/
theorem Rref.cols {p : Int} {n : Nat} {b : List (List Int)} (h : Rref p n b) {r s : List Int} (hr : r ∈ b) (hs : s ∈ b) : at0 r (lead s) = if lead r = lead s then 1 else 0 := by
  obtain ⟨i, hi, rfl⟩ := List.mem_iff_getElem.mp hr
  obtain ⟨j, hj, rfl⟩ := List.mem_iff_getElem.mp hs
  rcases Nat.lt_trichotomy i j with e | e | e
  · have l := List.pairwise_iff_getElem.mp h.inc i j hi hj e
    rw [if_neg (by omega)]
    exact List.pairwise_iff_getElem.mp h.col i j hi hj e
  · subst e
    rw [if_pos rfl]
    exact h.one _ hr
  · have l := List.pairwise_iff_getElem.mp h.inc j i hj hi e
    rw [if_neg (by omega)]
    exact lead_zero l
theorem sorted_eq : ∀ (l m : List Nat), l.Pairwise (· < ·) → m.Pairwise (· < ·) → (∀ x, x ∈ l ↔ x ∈ m) → l = m
  | [], [], _, _, _ => rfl
  | [], y :: m, _, _, h => nomatch (h y).mpr (.head _)
  | x :: l, [], _, _, h => nomatch (h x).mp (.head _)
  | x :: l, y :: m, hl, hm, h => by
    obtain ⟨l1, l2⟩ := List.pairwise_cons.mp hl
    obtain ⟨m1, m2⟩ := List.pairwise_cons.mp hm
    have exy : x = y := by
      rcases List.mem_cons.mp ((h x).mp (.head _)) with e | e
      · exact e
      · rcases List.mem_cons.mp ((h y).mpr (.head _)) with e2 | e2
        · exact e2.symm
        · have := l1 y e2; have := m1 x e; omega
    subst exy
    rw [sorted_eq l m l2 m2 fun z => ⟨fun hz => ?_, fun hz => ?_⟩]
    · rcases List.mem_cons.mp ((h z).mp (.tail _ hz)) with e | e
      · have := l1 z hz; omega
      · exact e
    · rcases List.mem_cons.mp ((h z).mpr (.tail _ hz)) with e | e
      · have := m1 z hz; omega
      · exact e
theorem Rref.same_lead {p : Int} {n : Nat} (h2 : 2 ≤ p) {b c : List (List Int)} (hb : Rref p n b) (hc : Rref p n c) (e : ∀ v, InS p n b v ↔ InS p n c v) {r s : List Int} (hr : r ∈ b) (hs : s ∈ c) (el : lead r = lead s) (ls : ∀ t ∈ b, ∃ u ∈ c, lead t = lead u) : r = s := by
  have h0 : 0 < p := by omega
  have i1 : InS p n b r := .self h2 (hb.rows r hr) hr
  have i2 : InS p n b s := (e s).mpr (.self h2 (hc.rows s hs) hs)
  have z := zero_of h0 b hb (addR p r (-1) s) (i1.comb h0 hb.len i2) fun t ht => by
    obtain ⟨u, hu, eu⟩ := ls t ht
    rw [at0_addR (by rw [(hb.rows r hr).1, (hc.rows s hs).1]), hb.cols hr ht, eu, hc.cols hs hu, ← el]
    by_cases c : lead r = lead u
    · rw [if_pos c]; simp
    · rw [if_neg c]; simp
  have := addR_back (p := p) (f := 1) h0 (hb.rows r hr) (hc.rows s hs).1
  rw [z, zero_add (hc.rows s hs).1, scale_one h0 (hc.rows s hs) (Int.emod_eq_of_lt (by omega) (by omega))] at this
  exact this.symm
/-- one span, one reduced basis -/
theorem Rref.uniq {p : Int} {n : Nat} (h2 : 2 ≤ p) {b c : List (List Int)} (hb : Rref p n b) (hc : Rref p n c) (e : ∀ v, InS p n b v ↔ InS p n c v) : b = c := by
  have h0 : 0 < p := by omega
  have l1 : ∀ t ∈ b, ∃ u ∈ c, lead t = lead u := fun t ht => lead_in h0 c hc t ((e t).mp (.self h2 (hb.rows t ht) ht)) (hb.ne_zero ht)
  have l2 : ∀ t ∈ c, ∃ u ∈ b, lead t = lead u := fun t ht => lead_in h0 b hb t ((e t).mpr (.self h2 (hc.rows t ht) ht)) (hc.ne_zero ht)
  have em : b.map lead = c.map lead := sorted_eq _ _ (List.pairwise_map.mpr hb.inc) (List.pairwise_map.mpr hc.inc) fun x => by
    simp only [List.mem_map]
    exact ⟨fun ⟨t, ht, h⟩ => (l1 t ht).elim fun u hu => ⟨u, hu.1, hu.2 ▸ h⟩, fun ⟨t, ht, h⟩ => (l2 t ht).elim fun u hu => ⟨u, hu.1, hu.2 ▸ h⟩⟩
  have len : b.length = c.length := by have := congrArg List.length em; simpa using this
  refine List.ext_getElem len fun i h1 h3 => ?_
  have ei : lead b[i] = lead c[i] := by
    have := congrArg (fun l => l[i]?) em
    simp only [List.getElem?_map, List.getElem?_eq_getElem h1, List.getElem?_eq_getElem h3, Option.map_some, Option.some.injEq] at this
    exact this
  exact hb.same_lead h2 hc e (List.getElem_mem h1) (List.getElem_mem h3) ei l1
theorem reduced_eq {p : Int} {inv : Int → Int} (I : Inv p inv) {n : Nat} {rows rows' : List (List Int)} (hr : ∀ r ∈ rows, Row p n r) (hr' : ∀ r ∈ rows', Row p n r) (e : ∀ v, InS p n rows v ↔ InS p n rows' v) : reduced inv p rows = reduced inv p rows' :=
  (reduced_ok I hr).uniq I.two (reduced_ok I hr') fun v => by rw [reduced_span I hr, reduced_span I hr', e]
/-! ## how many there are -/
theorem nodup_le {α : Type} [DecidableEq α] : ∀ (l m : List α), l.Nodup → (∀ x ∈ l, x ∈ m) → l.length ≤ m.length
  | [], m, _, _ => Nat.zero_le _
  | x :: l, m, h, s => by
    obtain ⟨h1, h2⟩ := List.nodup_cons.mp h
    have hx := s x (.head _)
    have := nodup_le l (m.erase x) h2 fun y hy => (List.mem_erase_of_ne (fun e : y = x => h1 (e ▸ hy))).mpr (s y (.tail _ hy))
    rw [List.length_erase_of_mem hx] at this
    have := List.length_pos_of_mem hx
    rw [List.length_cons]; omega
theorem nodup_len {α : Type} [DecidableEq α] {l m : List α} (hl : l.Nodup) (hm : m.Nodup) (e : ∀ x, x ∈ l ↔ x ∈ m) : l.length = m.length :=
  Nat.le_antisymm (nodup_le l m hl fun x => (e x).mp) (nodup_le m l hm fun x => (e x).mpr)
/-- a list of all vectors of a span, each once, is as long as the power of the prime says -/
theorem span_count {p : Int} {n : Nat} {b l : List (List Int)} (h0 : 0 < p) (hb : Rref p n b) (hl : l.Nodup) (e : ∀ v, v ∈ l ↔ InS p n b v) : l.length = p.toNat ^ b.length := by
  rw [← combos_length (p := p) (n := n) b]
  exact nodup_len hl (combos_nodup h0 b hb) fun v => by rw [e, combos_iff h0 hb.len]
end RX

set_option linter.all false
/-! # The spans gone through by dicts, and rows sent by a matrix (plain mathematics, no Python) -/
namespace RX
/-! ## a dict's keys, in the order in which they came -/
def ins (l : List (List Int)) (k : List Int) : List (List Int) := if k ∈ l then l else l ++ [k]
theorem mem_ins {l : List (List Int)} {k x : List Int} : x ∈ ins l k ↔ x ∈ l ∨ x = k := by
  unfold ins
  by_cases h : k ∈ l
  · rw [if_pos h]
    exact ⟨.inl, fun e => e.elim id fun e => e ▸ h⟩
  · rw [if_neg h, List.mem_append, List.mem_singleton]
theorem ins_nodup {l : List (List Int)} {k : List Int} (h : l.Nodup) : (ins l k).Nodup := by
  unfold ins
  by_cases e : k ∈ l
  · rw [if_pos e]; exact h
  · rw [if_neg e]
    refine List.pairwise_append.mpr ⟨h, List.pairwise_singleton _ _, fun a ha b hb => ?_⟩
    rw [List.mem_singleton.mp hb]
    exact fun e2 => e (e2 ▸ ha)
theorem mem_insAll {x : List Int} : ∀ (ks l : List (List Int)), x ∈ ks.foldl ins l ↔ x ∈ l ∨ x ∈ ks
  | [], l => by simp
  | k :: ks, l => by
    rw [List.foldl_cons, mem_insAll ks, mem_ins, List.mem_cons]
    exact ⟨fun h => h.elim (fun h => h.elim .inl fun h => .inr (.inl h)) fun h => .inr (.inr h), fun h => h.elim (fun h => .inl (.inl h)) fun h => h.elim (fun h => .inl (.inr h)) .inr⟩
theorem insAll_nodup : ∀ (ks l : List (List Int)), l.Nodup → (ks.foldl ins l).Nodup
  | [], _, h => h
  | k :: ks, l, h => insAll_nodup ks _ (ins_nodup h)
def growKeys (p : Int) (found : List (List Int)) (v : List Int) : List (List Int) := found.flatMap fun old => (List.range p.toNat).map fun f : Nat => addR p old (f : Int) v
def grown (p : Int) (found : List (List Int)) (v : List Int) : List (List Int) := (growKeys p found v).foldl ins []
def modR (p : Int) (r : List Int) : List Int := r.map fun x => x % p
def spanStep (p : Int) (found : List (List Int)) (r : List Int) : List (List Int) := if modR p r ∈ found then found else grown p found (modR p r)
def spanL (p : Int) (n : Nat) (rows : List (List Int)) : List (List Int) := rows.foldl (spanStep p) [List.replicate n 0]
theorem modR_len {p : Int} {r : List Int} : (modR p r).length = r.length := by simp [modR]
theorem modR_row {p : Int} {n : Nat} {r : List Int} (h : 0 < p) (hr : r.length = n) : Row p n (modR p r) := by
  refine ⟨by rw [modR_len, hr], fun x hx => ?_⟩
  obtain ⟨y, _, rfl⟩ := List.mem_map.mp hx
  exact ⟨Int.emod_nonneg _ (by omega), Int.emod_lt_of_pos _ h⟩
theorem InS.mono {p : Int} {n : Nat} {B B' : List (List Int)} {v : List Int} (i : InS p n B v) (h : ∀ r ∈ B, r ∈ B') : InS p n B' v := by
  induction i with
  | zero => exact .zero
  | add f i hr ih => exact ih.add f (h _ hr)
theorem snoc_iff {p : Int} {n : Nat} {B : List (List Int)} {v u : List Int} (h : 0 < p) (hB : Len n B) (hv : v.length = n) : InS p n (B ++ [v]) u ↔ ∃ w, InS p n B w ∧ ∃ f : Nat, f < p.toNat ∧ u = addR p w (f : Int) v := by
  have hc : Len n (v :: B) := fun r hr => by
    rcases List.mem_cons.mp hr with rfl | hr
    · exact hv
    · exact hB r hr
  have e : InS p n (B ++ [v]) u ↔ InS p n (v :: B) u := ⟨fun i => i.mono fun r hr => by
      rcases List.mem_append.mp hr with hr | hr
      · exact .tail _ hr
      · rw [List.mem_singleton.mp hr]; exact .head _, fun i => i.mono fun r hr => by
      rcases List.mem_cons.mp hr with rfl | hr
      · simp
      · simp [hr]⟩
  rw [e, ← combos_iff h hc, combos_cons]
  exact ⟨fun ⟨w, hw, k⟩ => ⟨w, combos_in B hw, k⟩, fun ⟨w, hw, k⟩ => ⟨w, (combos_iff h hB w).mpr hw, k⟩⟩
theorem mem_growKeys {p : Int} {found : List (List Int)} {v x : List Int} : x ∈ growKeys p found v ↔ ∃ w ∈ found, ∃ f : Nat, f < p.toNat ∧ x = addR p w (f : Int) v := by
  simp only [growKeys, List.mem_flatMap, List.mem_map, List.mem_range]
  exact ⟨fun ⟨w, hw, f, hf, e⟩ => ⟨w, hw, f, hf, e.symm⟩, fun ⟨w, hw, f, hf, e⟩ => ⟨w, hw, f, hf, e.symm⟩⟩
theorem spanStep_ok {p : Int} {n : Nat} {B found : List (List Int)} {r : List Int} (h : 2 ≤ p) (hB : Len n B) (hr : r.length = n) (nd : found.Nodup) (e : ∀ v, v ∈ found ↔ InS p n B v) : (spanStep p found r).Nodup ∧ ∀ v, v ∈ spanStep p found r ↔ InS p n (B ++ [modR p r]) v := by
  have h0 : 0 < p := by omega
  have rr := modR_row (p := p) h0 hr
  unfold spanStep
  by_cases c : modR p r ∈ found
  · rw [if_pos c]
    refine ⟨nd, fun v => ?_⟩
    rw [e]
    refine ⟨fun i => i.mono fun s hs => List.mem_append_left _ hs, fun i => ?_⟩
    obtain ⟨w, hw, f, _, rfl⟩ := (snoc_iff h0 hB rr.1).mp i
    exact hw.comb h0 hB ((e _).mp c)
  · rw [if_neg c]
    refine ⟨insAll_nodup _ _ List.nodup_nil, fun v => ?_⟩
    rw [snoc_iff h0 hB rr.1]
    unfold grown
    rw [mem_insAll, mem_growKeys]
    refine ⟨fun k => k.elim (fun k => nomatch k) fun ⟨w, hw, k⟩ => ⟨w, (e w).mp hw, k⟩, fun ⟨w, hw, k⟩ => .inr ⟨w, (e w).mpr hw, k⟩⟩
theorem spanFold_ok {p : Int} {n : Nat} (h : 2 ≤ p) : ∀ (rows B found : List (List Int)), Len n B → Len n rows → found.Nodup → (∀ v, v ∈ found ↔ InS p n B v) → (rows.foldl (spanStep p) found).Nodup ∧ ∀ v, v ∈ rows.foldl (spanStep p) found ↔ InS p n (B ++ rows.map (modR p)) v
  | [], B, found, _, _, nd, e => ⟨nd, fun v => by simpa using e v⟩
  | r :: rows, B, found, hB, hr, nd, e => by
    have h0 : 0 < p := by omega
    obtain ⟨k1, k2⟩ := spanStep_ok h hB (hr r (.head _)) nd e
    have := spanFold_ok h rows (B ++ [modR p r]) _ (fun s hs => by
      rcases List.mem_append.mp hs with hs | hs
      · exact hB s hs
      · rw [List.mem_singleton.mp hs, modR_len]; exact hr r (.head _)) (fun s hs => hr s (.tail _ hs)) k1 k2
    rw [List.append_assoc] at this
    exact this
/-- the dict of all sums has each vector of the span once -/
theorem spanL_ok {p : Int} {n : Nat} {rows : List (List Int)} (h : 2 ≤ p) (hr : Len n rows) : (spanL p n rows).Nodup ∧ ∀ v, v ∈ spanL p n rows ↔ InS p n (rows.map (modR p)) v := by
  have := spanFold_ok h rows [] [List.replicate n 0] (fun _ h => nomatch h) hr (List.pairwise_singleton _ _) fun v => by
    rw [List.mem_singleton]
    refine ⟨fun e => e ▸ .zero, fun i => ?_⟩
    have := (combos_iff (p := p) (n := n) (b := []) (by omega) (fun _ h => nomatch h) v).mpr i
    exact List.mem_singleton.mp this
  exact this
theorem modR_rows {p : Int} {n : Nat} {rows : List (List Int)} (h : 0 < p) (hr : Len n rows) : ∀ r ∈ rows.map (modR p), Row p n r := fun r h2 => by
  obtain ⟨s, hs, rfl⟩ := List.mem_map.mp h2
  exact modR_row h (hr s hs)
theorem spanL_rows {p : Int} {n : Nat} {rows : List (List Int)} (h : 2 ≤ p) (hr : Len n rows) : ∀ v ∈ spanL p n rows, Row p n v := fun v hv =>
  (((spanL_ok h hr).2 v).mp hv).row (by omega) fun s hs => (modR_rows (by omega) hr s hs).1
/-- .. which the space's reduced basis tells: how many, and that its rows are among them -/
theorem span_told {p : Int} {inv : Int → Int} (I : Inv p inv) {n : Nat} {rows : List (List Int)} (hr : Len n rows) :
    (spanL p n rows).length = p.toNat ^ (reduced inv p (rows.map (modR p))).length ∧ (∀ v, v ∈ spanL p n rows ↔ InS p n (reduced inv p (rows.map (modR p))) v) ∧ ∀ r ∈ reduced inv p (rows.map (modR p)), r ∈ spanL p n rows := by
  have h2 := I.two
  have R := reduced_ok I (modR_rows (p := p) (by omega) hr)
  obtain ⟨k1, k2⟩ := spanL_ok h2 hr
  have k3 : ∀ v, v ∈ spanL p n rows ↔ InS p n (reduced inv p (rows.map (modR p))) v := fun v => by rw [k2, reduced_span I (modR_rows (by omega) hr)]
  exact ⟨span_count (by omega) R k1 k3, k3, fun r h => (k3 r).mpr (.self h2 (R.rows r h) h)⟩
/-! ## a row sent by a matrix -/
def dotc : List Int → List (List Int) → Nat → Int
  | x :: v, l :: M, i => x * at0 l i + dotc v M i
  | _, _, _ => 0
def sentP (p : Int) (v : List Int) (M : List (List Int)) : List Int := (List.range v.length).map fun i => dotc v M i % p
def sentF (p : Int) : List Int → List (List Int) → List Int → List Int
  | x :: v, l :: M, acc => sentF p v M (addR p acc x l)
  | _, _, acc => acc
theorem sentP_len {p : Int} {v : List Int} {M : List (List Int)} : (sentP p v M).length = v.length := by simp [sentP]
theorem at0_sentP {p : Int} {v : List Int} {M : List (List Int)} {i : Nat} (hi : i < v.length) : at0 (sentP p v M) i = dotc v M i % p := by
  rw [at0_of (by rw [sentP_len]; exact hi)]; simp [sentP]
theorem sentP_row {p : Int} {n : Nat} {v : List Int} {M : List (List Int)} (h : 0 < p) (hv : v.length = n) : Row p n (sentP p v M) := by
  refine ⟨by rw [sentP_len, hv], fun x hx => ?_⟩
  obtain ⟨i, _, rfl⟩ := List.mem_map.mp hx
  exact ⟨Int.emod_nonneg _ (by omega), Int.emod_lt_of_pos _ h⟩
theorem sentF_ok {p : Int} {n : Nat} (h : 0 < p) : ∀ (v : List Int) (M : List (List Int)) (acc : List Int), (∀ l ∈ M, l.length = n) → Row p n acc → Row p n (sentF p v M acc) ∧ ∀ i, at0 (sentF p v M acc) i = (at0 acc i + dotc v M i) % p
  | [], M, acc, _, ha => ⟨ha, fun i => by show at0 acc i = (at0 acc i + 0) % p; rw [Int.add_zero, ha.emod h]⟩
  | x :: v, [], acc, _, ha => ⟨ha, fun i => by show at0 acc i = (at0 acc i + 0) % p; rw [Int.add_zero, ha.emod h]⟩
  | x :: v, l :: M, acc, hM, ha => by
    have hl := hM l (.head _)
    obtain ⟨k1, k2⟩ := sentF_ok h v M (addR p acc x l) (fun a ha => hM a (.tail _ ha)) (addR_row h ha.1 hl)
    refine ⟨k1, fun i => ?_⟩
    show at0 (sentF p v M (addR p acc x l)) i = (at0 acc i + (x * at0 l i + dotc v M i)) % p
    rw [k2, at0_addR (by rw [ha.1, hl]), emod_l, Int.add_assoc]
/-- gone through item by item it is the same -/
theorem sentF_eq {p : Int} {n : Nat} (h : 0 < p) {v : List Int} {M : List (List Int)} (hv : v.length = n) (hM : ∀ l ∈ M, l.length = n) : sentF p v M (List.replicate n 0) = sentP p v M := by
  obtain ⟨k1, k2⟩ := sentF_ok h v M _ hM (zero_row (n := n) h)
  refine ext0 (by rw [k1.1, sentP_len, hv]) fun i hi => ?_
  rw [k2, at0_rep, Int.zero_add, at0_sentP (by rw [k1.1] at hi; omega)]
theorem dotc_add {p f : Int} : ∀ (v u : List Int) (M : List (List Int)) (i : Nat), v.length = u.length → dotc (addR p v f u) M i % p = (dotc v M i + f * dotc u M i) % p
  | [], [], M, i, _ => by simp [addR, dotc]
  | x :: v, y :: u, [], i, _ => by simp [dotc]
  | x :: v, y :: u, l :: M, i, h => by
    have ih := dotc_add (p := p) (f := f) v u M i (by simpa using h)
    show ((x + f * y) % p * at0 l i + dotc (addR p v f u) M i) % p = ((x * at0 l i + dotc v M i) + f * (y * at0 l i + dotc u M i)) % p
    rw [Int.add_emod, ih, Int.mul_emod, Int.emod_emod_of_dvd _ (Int.dvd_refl p), ← Int.mul_emod, ← Int.add_emod]
    congr 1
    rw [Int.add_mul, Int.mul_add, Int.mul_assoc]
    omega
  | [], y :: u, M, i, h => by simp at h
  | x :: v, [], M, i, h => by simp at h
theorem sentP_add {p f : Int} {n : Nat} {v u : List Int} {M : List (List Int)} (hv : v.length = n) (hu : u.length = n) : sentP p (addR p v f u) M = addR p (sentP p v M) f (sentP p u M) := by
  have l := addR_len (p := p) (f := f) hv hu
  have l1 : (sentP p v M).length = n := by rw [sentP_len, hv]
  have l2 : (sentP p u M).length = n := by rw [sentP_len, hu]
  refine ext0 (by rw [addR_len l1 l2, sentP_len, l]) fun i hi => ?_
  rw [sentP_len, l] at hi
  rw [at0_sentP (by omega), at0_addR (by rw [sentP_len, sentP_len, hv, hu]), at0_sentP (by omega), at0_sentP (by omega), dotc_add v u M i (by omega), emod_l, emod_m]
theorem dotc_rep : ∀ (n : Nat) (M : List (List Int)) (i : Nat), dotc (List.replicate n 0) M i = 0
  | 0, M, i => by simp [dotc]
  | n + 1, [], i => by simp [List.replicate_succ, dotc]
  | n + 1, l :: M, i => by
    show 0 * at0 l i + dotc (List.replicate n 0) M i = 0
    rw [dotc_rep n M i]; simp
theorem sentP_zero {p : Int} {n : Nat} {M : List (List Int)} : sentP p (List.replicate n 0) M = List.replicate n 0 := by
  refine ext0 (by rw [sentP_len]) fun i hi => ?_
  rw [sentP_len] at hi
  rw [at0_sentP hi, dotc_rep, at0_rep]; simp
theorem sent_in {p : Int} {n : Nat} {B M : List (List Int)} {v : List Int} (h : 0 < p) (hB : Len n B) (i : InS p n B v) : InS p n (B.map fun r => sentP p r M) (sentP p v M) := by
  induction i with
  | zero => rw [sentP_zero]; exact .zero
  | add f i hr ih =>
    rw [sentP_add (i.row h hB).1 (hB _ hr)]
    exact ih.add f (List.mem_map.mpr ⟨_, hr, rfl⟩)
theorem sent_iff {p : Int} {n : Nat} {B M : List (List Int)} (h : 0 < p) (hB : Len n B) (w : List Int) : InS p n (B.map fun r => sentP p r M) w ↔ ∃ v, InS p n B v ∧ w = sentP p v M := by
  refine ⟨fun i => ?_, fun ⟨v, i, e⟩ => e ▸ sent_in h hB i⟩
  · induction i with
    | zero => exact ⟨_, .zero, sentP_zero.symm⟩
    | add f i hr ih =>
      obtain ⟨v, iv, rfl⟩ := ih
      obtain ⟨r, hb, rfl⟩ := List.mem_map.mp hr
      exact ⟨_, iv.add f hb, (sentP_add (iv.row h hB).1 (hB r hb)).symm⟩
/-- the image of a space, told by the dict of all that is sent -/
theorem image_told {p : Int} {inv : Int → Int} (I : Inv p inv) {n : Nat} {rows M l : List (List Int)} (hr : Len n rows) (hl : l.Nodup) (e : ∀ w, w ∈ l ↔ ∃ v ∈ spanL p n rows, w = sentP p v M) :
    l.length = p.toNat ^ (reduced inv p ((reduced inv p (rows.map (modR p))).map fun r => sentP p r M)).length ∧ ∀ r ∈ reduced inv p ((reduced inv p (rows.map (modR p))).map fun r => sentP p r M), r ∈ l := by
  have h2 := I.two
  have R := reduced_ok I (modR_rows (p := p) (by omega) hr)
  have hs : ∀ r ∈ (reduced inv p (rows.map (modR p))).map fun r => sentP p r M, Row p n r := fun r h => by
    obtain ⟨s, hs, rfl⟩ := List.mem_map.mp h
    exact sentP_row (by omega) (R.rows s hs).1
  have S := reduced_ok I hs
  have k : ∀ w, w ∈ l ↔ InS p n (reduced inv p ((reduced inv p (rows.map (modR p))).map fun r => sentP p r M)) w := fun w => by
    rw [reduced_span I hs, sent_iff (by omega) R.len, e]
    exact ⟨fun ⟨v, hv, h⟩ => ⟨v, ((span_told I hr).2.1 v).mp hv, h⟩, fun ⟨v, hv, h⟩ => ⟨v, ((span_told I hr).2.1 v).mpr hv, h⟩⟩
  exact ⟨span_count (by omega) S hl k, fun r h => (k r).mpr (.self h2 (S.rows r h) h)⟩
end RX

set_option Elab.async false
set_option linter.all false
set_option maxRecDepth 100000
set_option maxHeartbeats 4000000
/-! # for i, x in enumerate(a tuple) -/
namespace VX
open PySem PySem.Spec PyProof.Rows L2
theorem mts_enumT {v : Value} {ob : Obj} {Hs : Heap → Prop} (B : Begins v ob Hs) :
    Meets (Builtin.«enumerate.__new__» ⟨[.type "enumerate", v], []⟩) (fun _ R s => Hs s.heap ∧
      R (.ok (.ret (.ref (s.heap.push ob).objs.size))) { s with heap := (s.heap.push ob).push { cls := .type "enumerate", data := .fields #[.none, .bool false, .ref s.heap.objs.size, rawInt 0, .none, .none] } }) :=
  .of_wp fun prog w A R s hs => by
    obtain ⟨hp, gg, dd, tt, oo⟩ := s
    obtain ⟨k1, k2⟩ := hs
    have sub := sub_enumerate
    have itr : ∀ {B' : Around} {E' : Value → Shared → Prop} {Q' : Value → Shared → Prop}, Q' (.ref hp.objs.size) ⟨hp.push ob, gg, dd, tt, oo⟩ → wpAny (model prog w) B' (pyIter v) Q' E' ⟨hp, gg, dd, tt, oo⟩ :=
      fun q => B.iter prog w _ _ ⟨hp, gg, dd, tt, oo⟩ _ k1 q
    wp_walk using itr
    refine wpAny_stack_any fun fr => wpAny_pure ?_
    split
    · rename_i cl _ _ _ _ _
      cases (cl == Value.type "enumerate") <;>
      · wp_walk using itr
        exact ⟨_, rfl, k2⟩
    · wp_walk using itr
      exact ⟨_, rfl, k2⟩
section
variable {prog : Program} {w : World} {A : Around} {E : Value → Shared → Prop} {s : Shared}
theorem enumT_new {v : Value} {ob : Obj} {Hs : Heap → Prop} {Q : Value → Shared → Prop} (B : Begins v ob Hs) (hs : Hs s.heap)
    (hQ : ∀ h', IsEnum h' (s.heap.objs.size + 1) s.heap.objs.size 0 .none → h'.get? s.heap.objs.size = some ob → (∀ b u, s.heap.get? b = some u → h'.get? b = some u) → Q (.ref (s.heap.objs.size + 1)) { s with heap := h' }) :
    wpAny (model prog w) A (call (.type "enumerate") [v]) Q E s := by
  refine callType_new F.called_enumerate (by decide) (F.typeCall_enumerate_1 _) (F.newCall_enumerate_1 _) (fun x => F.args_object_init_2 x _) F.entry_enumerate_new (mts_enumT B) ⟨hs, ?_⟩
  have sz : (s.heap.push ob).objs.size = s.heap.objs.size + 1 := Heap.size_push ..
  show _ ∧ _
  rw [sz]
  have ie : IsEnum ((s.heap.push ob).push { cls := .type "enumerate", data := .fields #[.none, .bool false, .ref s.heap.objs.size, rawInt 0, .none, .none] }) (s.heap.objs.size + 1) s.heap.objs.size 0 .none := by
    have k := Heap.get?_push_size (s.heap.push ob) (o := { cls := .type "enumerate", data := .fields #[.none, .bool false, .ref s.heap.objs.size, rawInt 0, .none, .none] }) rfl
    rwa [sz] at k
  exact ⟨⟨_, ie, rfl⟩, hQ _ ie (Heap.get?_push_of_some _ (Heap.get?_push_size _ B.free)) fun b u q => Heap.get?_push_of_some _ (Heap.get?_push_of_some _ q)⟩
end
/-- the tuple at a as it stands at each turn, each item in a new pair -/
def IteT (K : PySem.W.Frag) (a : Addr) : It :=
  ⟨fun i H => ∃ (xs : List V) (x : V), SqT K H a xs ∧ xs[i]? = some x, fun i H v H' => ∃ T x, v = .ref T ∧ H T = none ∧ H' = upd H T (.tup [.int (i : Nat), x]) ∧ ∀ xs, SqT K H a xs → xs[i]? = some x, fun i H => ∃ xs : List V, SqT K H a xs ∧ xs.length = i⟩
structure EnT (h : Heap) (e j a : Addr) (i : Nat) : Prop where
  en : ∃ old, IsEnum h e j ((i : Nat) : Int) old
  hj : h.IsTupleIter j a i
  ei : e ≠ j
  ea : e ≠ a
  ai : a ≠ j
theorem turn_enumT {P : Program} {w : World} {K : PySem.W.Frag} {elts : List Expr} {kk : Nat} {tpos : Pos} (a e it : Addr) :
    Turn P w K (.Tuple elts kk tpos) (IteT K a) [e, it] e (fun i h => EnT h e it a i) where
  mem := by simp
  obj := fun i h st b hb => by
    obtain ⟨⟨old, he⟩, ⟨o, ho, _, hd⟩, _⟩ := st
    rcases (by simpa using hb : b = e ∨ b = it) with rfl | rfl
    · exact ⟨_, he, fun v q => nomatch q⟩
    · exact ⟨o, ho, fun v q => by rw [hd] at q; cases q⟩
  keep := fun i h h' st k => by
    obtain ⟨⟨old, he⟩, hi, n1, n2, n3⟩ := st
    exact ⟨⟨old, k e (by simp) _ he⟩, hi.at fun o q => k it (by simp) o q, n1, n2, n3⟩
  item := by
    intro X hP hw hK hc i pins s σ H E I hf st hg
    subst hP hw hK
    obtain ⟨⟨old, he⟩, hit, n1, n2, n3⟩ := st
    obtain ⟨xs, x, hq, hx⟩ := hg
    obtain ⟨its, rv, tp, _⟩ := I.tuple hq
    obtain ⟨u, hu, ru⟩ := rv.get hx
    have el : e < s.heap.objs.size := Heap.lt_size he
    have il : it < s.heap.objs.size := by obtain ⟨_, q, _⟩ := hit; exact Heap.lt_size q
    have hlt : i < its.toArray.size := by
      have := (List.getElem?_eq_some_iff.mp hu).1
      simpa using this
    refine wpAny_pyNext_enum_itemD (Draws.tuple (prog := X.prog) (w := X.w) (A := X.A.in1) (I.ok.hd hc) it a n3 its.toArray) he ⟨hit, tp⟩ hlt n1 (by simp [n1, n2]) fun y h' tk hy ho hst hT _ hk => ?_
    have ey : y = u := by
      have h1 : its.toArray[i]? = some y := hy
      have h2 : its.toArray[i]? = some u := by simpa using hu
      rw [h1] at h2
      exact Option.some.inj h2
    subst ey
    refine ⟨_, rfl, wpAny_letOwnedTupleGo_enum (s := { s with heap := h', toks := tk + 1 }) ho fun h2 he2 sb => ?_⟩
    have hT2 : h2.get? s.heap.objs.size = some { cls := .type "tuple", data := .seq #[.int i tk, y] } := (sb.2 _ (Nat.ne_of_gt el)).trans hT
    have new : ObjOk X.prog X.w (upd H s.heap.objs.size (.tup [.int (i : Nat), x])) h2 s.heap.objs.size (.tup [.int (i : Nat), x]) :=
      ⟨by show 2 ≤ sizeLine; decide, [.int i tk, y], .cons ⟨_, rfl⟩ (.cons ru .nil), ⟨_, hT2, rfl, _, rfl⟩⟩
    have I1 : Inv X pins σ (upd H s.heap.objs.size (.tup [.int (i : Nat), x])) { s with heap := h2, toks := tk + 1 } :=
      I.turnedNew (ch := [e, it]) (fun b ob hb q => (sb.2 b fun z => hb (by simp [z])).trans (hk b ob (fun z => hb (by simp [z])) (fun z => hb (by simp [z])) q)) hf (Nat.le_refl _) new
    refine ⟨.ref s.heap.objs.size, _, I1, rfl, ⟨_, x, rfl, I.hok.fresh (Nat.le_refl _), rfl, fun ys hy => by rw [I.tuple_inj hy hq]; exact hx⟩, ⟨⟨y, ?_⟩, hst.1.at fun o q => (sb.2 it (Ne.symm n1)).trans q, n1, n2, n3⟩, fun b hb => ?_⟩
    · rw [show ((i + 1 : Nat) : Int) = (i : Int) + 1 by omega]
      exact he2
    · have lt : b < s.heap.objs.size := by
        rcases (by simpa using hb : b = e ∨ b = it) with rfl | rfl
        · exact el
        · exact il
      rw [upd_ne (Nat.ne_of_lt lt)]
      exact (hf b hb).1
  done := by
    intro X hP hw hK hc i pins s σ H E I hf st hg
    subst hP hw hK
    obtain ⟨⟨old, he⟩, hit, n1, n2, n3⟩ := st
    obtain ⟨xs, hq, hx⟩ := hg
    obtain ⟨its, rv, tp, _⟩ := I.tuple hq
    obtain ⟨f0, f1, f2, f3, f4, f5⟩ := hf it (by simp)
    have ln := rv.length
    have es : i = its.toArray.size := by simp; omega
    subst es
    exact wpAny_pyNext_enum_endD (Draws.tuple (prog := X.prog) (w := X.w) (A := X.A.in1) (I.ok.hd hc) it a n3 its.toArray) he ⟨hit, tp⟩ fun h' eb => ⟨rfl, I.turned (t' := s.toks) (fun b o hb q => eb b o hb q) f0 f1 f3 f4 f5⟩
  self := fun A i s Q E st h => let ⟨_, he⟩ := st.en; wpAny_pyIter_enum he h
def iEnumT (K : PySem.W.Frag) (ta : TA) : TI := fun σ H R => ta σ H fun vs H1 => ∃ a xs, vs = [.ref a] ∧ SqT K H1 a xs ∧ R (IteT K a) H1
theorem pi_enumT {X : Cx} {e : Expr} {ta : TA} {p pos tpos : Pos} {elts : List Expr} {kk : Nat} (hg : Gl X "enumerate") (hm : X.mg "enumerate" = none) (ha : PA X [e] ta) (st : starEach [e] X.env = [(false, eval e X.env)] := by rfl) :
    PI X (.Tuple elts kk tpos) (.Call (.Name "enumerate" p) [e] [] pos) (iEnumT X.K ta) := by
  refine ⟨fun pins s σ H R I h => ?_⟩
  refine Call_ (ld_blt I hg hm boot_enumerate (PyProof.Rows.callWith_type1 (thn (ha.run pos pins s σ H _ I h) fun us s1 ⟨vs, H1, I1, r1, q1⟩ => ?_) st rfl))
  obtain ⟨a, xs, ex, hq, q⟩ := q1
  subst ex
  cases r1 with
  | cons r rr =>
    cases rr
    cases r
    obtain ⟨its, rv, tp, _⟩ := I1.tuple hq
    have al : a < s1.heap.objs.size := by obtain ⟨_, z, _⟩ := id tp; exact Heap.lt_size z
    refine enumT_new (begins_tuple a its.toArray) tp fun h' he ht hk => wpAny_pyIter_enum he ?_
    have I2 : Inv X pins σ H1 { s1 with heap := h' } := I1.kept (t' := s1.toks) hk
    refine ⟨s1.heap.objs.size + 1, [s1.heap.objs.size + 1, s1.heap.objs.size], _, _, H1, rfl, I2, turn_enumT a (s1.heap.objs.size + 1) s1.heap.objs.size, ⟨⟨.none, he⟩, ⟨_, ht, rfl, rfl⟩, Nat.succ_ne_self _, Nat.ne_of_gt (Nat.lt_succ_of_lt al), Nat.ne_of_lt al⟩, fun b hb => ?_, q⟩
    have le : s1.heap.objs.size ≤ b := by
      rcases (by simpa using hb : b = s1.heap.objs.size + 1 ∨ b = s1.heap.objs.size) with z | z
      · rw [z]; exact Nat.le_add_right _ _
      · rw [z]; exact Nat.le_refl _
    exact I1.fpOk le (I1.hok.fresh le)
theorem walk_enumT {K : PySem.W.Frag} {a : Addr} {xs : List V} : Walk (IteT K a) xs.length (fun H => SqT K H a xs) (YPair (fun i => some (.int (i : Nat))) (fun i => xs[i]?)) := by
  refine ⟨fun i _ hi q => ⟨xs, xs[i], q, by simp [hi]⟩, fun _ q => ⟨xs, q, rfl⟩, fun i H v H' _ q y => ?_⟩
  obtain ⟨T, x, k1, k2, k3, k4⟩ := y
  exact ⟨T, .int (i : Nat), x, k1, k2, k3, rfl, k4 xs q⟩
end VX

set_option Elab.async false
set_option linter.all false
set_option maxRecDepth 100000
set_option maxHeartbeats 4000000
/-! # C.m(..) of a classmethod within a try -/
namespace VX
open PySem PySem.Spec PyProof.Rows L2 ClX
section
variable {X : Cx} {pins : List (Addr × Obj)} {σ : L2.St} {H : Hp} {s : Shared}
theorem run_fnRS {CX : CXT} {k : Nat} {f : Addr} {sp : Sp} {E : XK} {Q : VK} {us : List Value} {vs : List V} (F : FnR X.prog X.w X.K X.mg X.base CX k f sp) (hr : Room k X.A) (hx : PassesAt CX X σ E) (I : L2.Inv X pins σ H s) (r : Vals vs us) (h : sp vs H Q E) :
    codeAny (model X.prog X.w) X.A (.call (.ref f) ⟨us, []⟩) (fun r s' => match r with | .ok (.ret v) => EP X pins σ Q v s' | .ok _ => False | .error e => X.xe e s') s := by
  refine codeAny_mono (F X.A X.stack s H us vs Q E hr I.env0 r h) fun r s' hq => ?_
  cases r with
  | error e => exact hx pins H s e s' I hq
  | ok fl =>
    cases fl with
    | ret u => exact I.after hq
    | next => exact False.elim hq
    | brk => exact False.elim hq
    | cont => exact False.elim hq
theorem run_cmS {CX : CXT} {k : Nat} {C g q : Addr} {sp : Sp} {E : XK} {Q : VK} {us : List Value} {vs : List V} (F : FnR X.prog X.w X.K X.mg X.base CX k g sp) (hr : Room k X.A) (hx : PassesAt CX X σ E) (I : L2.Inv X ((q, PySem.W.methodObj (.ref g) (.ref C)) :: pins) σ H s)
    (r : Vals vs us) (h : sp (.ref C :: vs) H Q E) : wpAny (model X.prog X.w) X.A (call (.ref q) us) (EP X pins σ Q) X.xe s := by
  have z : wpAny (model X.prog X.w) X.A (call (.ref q) us) (EP X ((q, PySem.W.methodObj (.ref g) (.ref C)) :: pins) σ Q) X.xe s :=
    wpAny_call (PySem.W.method_call (pin_at I) (run_fnRS (us := .ref C :: us) (vs := .ref C :: vs) F hr hx I (.cons rfl r) h))
  exact thn z fun _ _ y => unpinE y
end
def tCMethS (C : Addr) (sp : Sp) (E : L2.St → XK) (ta : TE) (t : TA) : TE := fun σ H Q => ta σ H fun x H1 => x = .ref C ∧ t σ H1 fun vs H2 => sp (.ref C :: vs) H2 Q (E σ)
theorem pe_cmethS {X : Cx} {CX : CXT} {k : Nat} {C p g : Addr} {mc : Value} {sp : Sp} {E : L2.St → XK} {o e : Expr} {es : List Expr} {m : Str} {pos apos : Pos} {ta : TE} {t : TA} {pl : Sem Bool} (he : PE X o ta) (r : CRead X.K C mc) (c : CMet X.K C mc m p g) (F : FnR X.prog X.w X.K X.mg X.base CX k g sp) (hr : Room k X.A) (hx : ∀ σ, PassesAt CX X σ (E σ)) (ha : PA X (e :: es) t)
    (hst : starEach (e :: es) X.env = (false, eval e X.env) :: starEach es X.env := by rfl) (hpl : (backTo pos (starEach es X.env)).any (·.1) = false := by rfl)
    (ht : eval (.Call (.Attribute o m apos) (e :: es) [] pos) X.env = (do
      let ov ← eval o X.env
      standAt apos.atName
      let (f, first) ← holding [ov] (getMethod ov m pl)
      callWith pos f first (backTo pos (starEach (e :: es) X.env)) (backToKw pos (keywordEach [] X.env))) := by rfl) :
    PE X (.Call (.Attribute o m apos) (e :: es) [] pos) (tCMethS C sp E ta t) := by
  refine ⟨fun pins s σ H Q I h => ?_⟩
  refine PySem.W.methodCall_KW (pl := pl) (thn (he.run pins s σ H _ I h) fun u s1 ⟨x, H1, I1, rx, ex, q⟩ => ?_) ht
  subst ex
  obtain rfl : u = Value.ref C := rx
  refine getmethcm_ok I1 r c fun s2 I2 => ?_
  refine callwith_cm I2 (base_none I1 (Nat.le_refl _)) c.fi (thn (ha.run pos _ s2 σ H1 _ I2 q) fun us s3 ⟨vs, H2, I3, rv, q2⟩ => ⟨⟨pin_at I3, I3.kIn⟩, ?_⟩) hst hpl
  exact run_cmS F hr (hx σ) I3 rv q2
theorem yes_if {σ : L2.St} {H : Hp} {A B : Hp → Prop} (h : A H) : tYes σ H fun b H3 => if b = true then A H3 else B H3 := by
  show if true = true then A H else B H
  rw [if_pos rfl]
  exact h
theorem no_if {σ : L2.St} {H : Hp} {A : Hp → Prop} (h : A H) : tYes σ H fun b H3 => b = true → A H3 := fun _ => h
/-- a list that grows outside of what stood -/
theorem Same.grow {H H3 : Hp} {D : Addr} {o : HO} (s : Same H H3) (hD : H D = none) : Same H (upd H3 D o) := fun b u q => by
  rw [upd_ne (ne_of_none q hD)]
  exact s b u q
theorem take_more {α β : Type} {g : α → β} {xs : List α} {i : Nat} {x : α} (h : xs[i]? = some x) : (xs.take (i + 1)).map g = (xs.take i).map g ++ [g x] := by
  rw [List.take_succ, h, List.map_append]
  rfl
theorem take_one {α : Type} {xs : List α} {i : Nat} {x : α} (h : xs[i]? = some x) : xs.take (i + 1) = xs.take i ++ [x] := by
  rw [List.take_succ, h]
  rfl
/-! ### a text times an int; an item of a displayed list, drawn -/
theorem op_mulS {X : Cx} : OpR X (binaryOp .Mult) (fun x y H Q => ∃ a n, x = .str a ∧ y = .int n ∧ a.length ≤ 1000 ∧ 0 ≤ n ∧ n ≤ 1000 ∧ Q (.str (Txt.mul a n)) H) := by
  intro pins s σ H x y v u Q I rx ry h
  obtain ⟨a, n, rfl, rfl, ha, h0, h1, q⟩ := h
  obtain ⟨t, rfl⟩ := rx
  obtain ⟨t', rfl⟩ := ry
  have hp : (a.length : Int) * n ≤ 1000000 := by
    have := Int.mul_le_mul (show (a.length : Int) ≤ 1000 by omega) h1 h0 (by decide)
    omega
  refine SB.mul ⟨?_, fun h2 _ h3 => ?_, fun h2 _ => ?_⟩ fun t' k => ⟨.str (Txt.mul a n), H, I.tok _, ⟨t', rfl⟩, q⟩
  · rw [decide_eq_false (by omega), decide_eq_false (by omega)]; rfl
  · have h5 : (1000 : Int) ≤ (2 ^ 63 - 1) / n := by
      rw [Int.le_ediv_iff_mul_le (by omega)]
      omega
    omega
  · have h6 : a.length * n.toNat ≤ 1000000 := by
      have e : ((a.length * n.toNat : Nat) : Int) = (a.length : Int) * n := by rw [Int.natCast_mul, Int.toNat_of_nonneg h0]
      omega
    have h7 : (1000000 : Nat) ≤ sizeLine := by decide
    exact decide_eq_false (by show ¬ a.length * n.toNat > sizeLine; omega)
theorem pick_use {K : PySem.W.Frag} {H : Hp} {b l0 : Addr} {N : Nat} {m : Int} {vs : List V} {Q : VK} {E : XK} (h : BoxK H b N) (hl : H l0 = none) (hN : N ≤ 900000) (hm : (vs.length : Int) = m) (m0 : 0 < m) (m1 : m ≤ 1000)
    (k : ∀ v H', v ∈ vs → Kept b H H' → BoxK H' b (N + 1) → Q v H') : spTake [.ref b, .int m] (upd H l0 (.lst vs)) (fun y H2 => rIxL K (.ref l0) y H2 Q) E := by
  have n0 : l0 ≠ b := fun e => by obtain ⟨xs, hx⟩ := h.at; rw [e, hx] at hl; cases hl
  refine take_use (h.same (same_new hl)) hN m0 (by omega) fun d H1 d0 d1 kp bx _ => ?_
  obtain ⟨v, hv, hm⟩ := atI_ex (xs := vs) d0 (by omega)
  exact ⟨l0, vs, d, v, rfl, rfl, SqL.of (kp _ _ upd_same n0), hv, k v H1 hm ((Kept.of (same_new hl)).trans kp) bx⟩
end VX

set_option Elab.async false
set_option linter.all false
set_option maxRecDepth 100000
set_option maxHeartbeats 4000000
/-! # f(g = u), f(g = u, h = v), f(h = v, g = u) -/
namespace VX
open PySem PySem.Spec PyProof.Rows L2
theorem pe_kcall1 {X : Cx} {CX : CXT} {x g : Str} {f : Addr} {k : Nat} {fd : FuncData} {sp : Sp} {E : XK} {p k1 pos : Pos} {e1 : Expr} {tk : TA} (F : FnOk X.prog X.w X.K X.mg X.base CX k f fd [g] sp) (hr : Room k X.A) (hg : Gl X x) (hm : X.mg x = some (.ref f)) (hk : PySem.W.keepIn X.K (.ref f) = true)
    (hb : ∀ (s : Shared) (u : Value), BindsTo s fd ⟨[], [(g, u)]⟩ [(g, u)]) (hx : Passes CX X E) (ha : PK X [⟨some g, e1, k1⟩] tk) (hdb : (x == ("__debug__" : Str)) = false := by decide)
    (hpl : ((backTo pos (starEach [] X.env)).any (·.1) || (backToKw pos (keywordEach [⟨some g, e1, k1⟩] X.env)).any (·.1.isNone)) = false := by rfl)
    (hall : (backToKw pos (keywordEach [⟨some g, e1, k1⟩] X.env)).all (·.1.isSome) = true := by rfl) (hks : (backToKw pos (keywordEach [⟨some g, e1, k1⟩] X.env)).filterMap (·.1) = [g] := by rfl) :
    PE X (.Call (.Name x p) [] [⟨some g, e1, k1⟩] pos) (fun σ H Q => tk σ H fun zs H1 => zs.length = 1 ∧ sp zs H1 Q E) := by
  refine ⟨fun pins s σ H Q I q0 => wpAny_Call_Name_kw (ld_glob I hg hm ?_ hdb)⟩
  refine PySem.W.callWith_KW0 (h₀ := X.base) I.ok.mod.kin hk hall ?_ hpl
  refine thn (ha.run pos pins s σ H _ I q0) fun ws s1 ⟨zs, H1, I1, rz, l1, q⟩ => ⟨I1.kIn, ?_⟩
  rw [hks]
  obtain ⟨z1, rfl⟩ : ∃ z1, zs = [z1] := by
    match zs, l1 with
    | [a], _ => exact ⟨a, rfl⟩
  obtain ⟨u1, rfl, r1⟩ := vals1 rz
  show wpAny _ _ (call (.ref f) [] [(g, u1)]) _ _ _
  refine wpAny_call (codeAny_mono (F.run X.A X.stack s1 H1 ⟨[], [(g, u1)]⟩ [u1] [z1] Q E hr I1.env0 (hb s1 u1) (.cons r1 .nil) q) fun r s' hq => ?_)
  match r, hq with
  | .ok (.ret u), hq => exact I1.after hq
  | .error er, hq => exact hx pins σ H1 s1 er s' I1 hq
/-- the keywords' order, the parameters' order: o says whether they are the same -/
theorem pe_kcall2 {X : Cx} {CX : CXT} {x g h a b : Str} {f : Addr} {k : Nat} {fd : FuncData} {sp : Sp} {E : XK} {p k1 k2 pos : Pos} {e1 e2 : Expr} {tk : TA} (o : Bool) (F : FnOk X.prog X.w X.K X.mg X.base CX k f fd [g, h] sp) (hr : Room k X.A) (hg : Gl X x) (hm : X.mg x = some (.ref f)) (hk : PySem.W.keepIn X.K (.ref f) = true)
    (hb : ∀ (s : Shared) (u v : Value), BindsTo s fd ⟨[], [(a, u), (b, v)]⟩ (if o = true then [(g, u), (h, v)] else [(g, v), (h, u)])) (hx : Passes CX X E) (ha : PK X [⟨some a, e1, k1⟩, ⟨some b, e2, k2⟩] tk) (hdb : (x == ("__debug__" : Str)) = false := by decide)
    (hpl : ((backTo pos (starEach [] X.env)).any (·.1) || (backToKw pos (keywordEach [⟨some a, e1, k1⟩, ⟨some b, e2, k2⟩] X.env)).any (·.1.isNone)) = false := by rfl)
    (hall : (backToKw pos (keywordEach [⟨some a, e1, k1⟩, ⟨some b, e2, k2⟩] X.env)).all (·.1.isSome) = true := by rfl) (hks : (backToKw pos (keywordEach [⟨some a, e1, k1⟩, ⟨some b, e2, k2⟩] X.env)).filterMap (·.1) = [a, b] := by rfl) :
    PE X (.Call (.Name x p) [] [⟨some a, e1, k1⟩, ⟨some b, e2, k2⟩] pos) (fun σ H Q => tk σ H fun zs H1 => ∃ z1 z2, zs = [z1, z2] ∧ sp (if o = true then [z1, z2] else [z2, z1]) H1 Q E) := by
  refine ⟨fun pins s σ H Q I q0 => wpAny_Call_Name_kw (ld_glob I hg hm ?_ hdb)⟩
  refine PySem.W.callWith_KW0 (h₀ := X.base) I.ok.mod.kin hk hall ?_ hpl
  refine thn (ha.run pos pins s σ H _ I q0) fun ws s1 ⟨zs, H1, I1, rz, z1, z2, ez, q⟩ => ⟨I1.kIn, ?_⟩
  subst ez
  rw [hks]
  obtain ⟨u1, u2, rfl, r1, r2⟩ := vals2 rz
  show wpAny _ _ (call (.ref f) [] [(a, u1), (b, u2)]) _ _ _
  cases o with
  | true =>
    refine wpAny_call (codeAny_mono (F.run X.A X.stack s1 H1 ⟨[], [(a, u1), (b, u2)]⟩ [u1, u2] [z1, z2] Q E hr I1.env0 (hb s1 u1 u2) (.cons r1 (.cons r2 .nil)) q) fun r s' hq => ?_)
    match r, hq with
    | .ok (.ret u), hq => exact I1.after hq
    | .error er, hq => exact hx pins σ H1 s1 er s' I1 hq
  | false =>
    refine wpAny_call (codeAny_mono (F.run X.A X.stack s1 H1 ⟨[], [(a, u1), (b, u2)]⟩ [u2, u1] [z2, z1] Q E hr I1.env0 (hb s1 u1 u2) (.cons r2 (.cons r1 .nil)) q) fun r s' hq => ?_)
    match r, hq with
    | .ok (.ret u), hq => exact I1.after hq
    | .error er, hq => exact hx pins σ H1 s1 er s' I1 hq
end VX

set_option Elab.async false
set_option linter.all false
set_option maxRecDepth 100000
set_option maxHeartbeats 4000000
/-! # a walk with any body: for the loops of a comprehension with two for -/
namespace VX
open PySem PySem.Spec PyProof.Rows L2
theorem loop_it {J : It} {n : Nat} {G : Hp → Prop} {Y : Nat → Hp → V → Hp → Prop} (w : Walk J n G Y) {B : V → Hp → (Hp → Prop) → Prop} {H0 : Hp} {Qd : Hp → Prop} (Pv : Nat → Hp → Prop) (h0 : Pv 0 H0) (hG : ∀ i H, i ≤ n → Pv i H → G H)
    (hs : ∀ i x H H', i < n → Pv i H → Y i H x H' → B x H' (Pv (i + 1))) (hd : ∀ H, Pv n H → Qd H) :
    ∃ W : Nat → Nat → Hp → Prop, (∃ m, W 0 m H0) ∧ ∀ i m H, W i m H →
      (J.stop i H ∧ Qd H) ∨ (J.go i H ∧ ∃ Nx : Hp → Prop, (∀ H', Nx H' → ∃ m', m' < m ∧ W (i + 1) m' H') ∧ ∀ x H', J.yld i H x H' → B x H' Nx) := by
  refine ⟨fun i m H => m = n - i ∧ i ≤ n ∧ Pv i H, ⟨n, by simp, Nat.zero_le _, h0⟩, ?_⟩
  rintro i m H ⟨rfl, hi, p⟩
  have q := hG i H hi p
  by_cases hlt : i < n
  · refine .inr ⟨w.goes i H hlt q, Pv (i + 1), fun H' p' => ⟨n - (i + 1), by omega, rfl, hlt, p'⟩, fun x H' y => hs i x H H' hlt p (w.yields i H x H' hlt q y)⟩
  · have e : i = n := by omega
    subst e
    exact .inl ⟨w.stops H q, hd H p⟩
/-- a statement, what holds behind it named -/
def sCut (t : TS) : TS := fun D σ H => ∃ Pv : L2.St → Hp → Prop, t { D with nx := Pv } σ H ∧ ∀ σ' H', Pv σ' H' → D.nx σ' H'
theorem ps_cut {X : Cx} {st : Stmt} {t : TS} (h : PS X st t) : PS X st (sCut t) := by
  refine ⟨fun pins s σ H D I ⟨Pv, q, k⟩ => wpAny_mono (h.run pins s σ H { D with nx := Pv } I q) (fun f s1 z => ?_) fun _ _ z => z⟩
  cases f with
  | next => obtain ⟨σ', H', J, z⟩ := z; exact ⟨σ', H', J, k _ _ z⟩
  | brk => exact z
  | cont => exact z
  | ret u => exact z
def tCut (t : TE) : TE := fun σ H Q => ∃ Pv : V → Hp → Prop, t σ H Pv ∧ ∀ v H', Pv v H' → Q v H'
theorem pe_cut {X : Cx} {e : Expr} {t : TE} (h : PE X e t) : PE X e (tCut t) := by
  refine ⟨fun pins s σ H Q I ⟨Pv, q, k⟩ => wpAny_mono (h.run pins s σ H Pv I q) (fun v s1 z => ?_) fun _ _ z => z⟩
  obtain ⟨x, H', J, r, z⟩ := z
  exact ⟨x, H', J, r, k _ _ z⟩
end VX

set_option Elab.async false
set_option linter.all false
set_option maxRecDepth 100000
set_option maxHeartbeats 4000000
/-! # o.m(..) within a try; o.m(.., k = v) -/
namespace VX
open PySem PySem.Spec PyProof.Rows L2
section
variable {X : Cx} {CX : CXT} {k n : Nat} {f C : Addr} {fd : FuncData} {ps ks : List Str} {sp : Sp} {E : XK} {m : Str} {pos apos : Pos} {o e : Expr} {es : List Expr} {kws : List Keyword} {ta : TE} {t tk : TA} {g : List Value → List Value → List Value} {gV : List V → List V → List V}
def tMethT (C : Addr) (m : Str) (sp : Sp) (E : L2.St → XK) (ta : TE) (t : TA) : TE := fun σ H Q => ta σ H fun x H1 => ∃ a dx fs, x = .ref a ∧ H1 a = some (.ins C dx fs) ∧ fs.lookup m = none ∧ t σ H1 fun vs H2 => sp (x :: vs) H2 Q (E σ)
theorem pe_methT {pl : Sem Bool} {E : L2.St → XK} (he : PE X o ta) (c : Cls X.K C) (hm : Meth X.K C m f) (F : FnOk X.prog X.w X.K X.mg X.base CX k f fd ps sp) (hr : Room k X.A) (hb : Binds X.K fd ps []) (hx : ∀ σ, PassesAt CX X σ (E σ)) (ha : PA X (e :: es) t)
    (hst : starEach (e :: es) X.env = (false, eval e X.env) :: starEach es X.env := by rfl) (hpl : (backTo pos (starEach es X.env)).any (·.1) = false := by rfl)
    (ht : eval (.Call (.Attribute o m apos) (e :: es) [] pos) X.env = (do
      let ov ← eval o X.env
      standAt apos.atName
      let (f, first) ← holding [ov] (getMethod ov m pl)
      callWith pos f first (backTo pos (starEach (e :: es) X.env)) (backToKw pos (keywordEach [] X.env))) := by rfl) :
    PE X (.Call (.Attribute o m apos) (e :: es) [] pos) (tMethT C m sp E ta t) := by
  refine ⟨fun pins s σ H Q I h => ?_⟩
  refine PySem.W.methodCall_KW (pl := pl) (thn (he.run pins s σ H _ I h) fun u s1 ⟨x, H1, I1, rx, a, dx, fs, ex, ea, l, q⟩ => ?_) ht
  subst ex
  obtain rfl : u = Value.ref a := rx
  refine getmeth_ok I1 ea c hm l ?_
  refine PySem.W.callWith_K (first := [.ref a]) (h₀ := X.base) I.ok.mod.kin hm.kp (thn (ha.run pos pins s1 σ H1 _ I1 q) fun us s2 ⟨vs, H2, I2, r, q2⟩ => ⟨I2.kIn, ?_⟩) hst hpl
  exact run_fnS (us := .ref a :: us) (vs := .ref a :: vs) F hr hb (hx σ) I2 (.cons rfl r) q2
def tMethN (C : Addr) (m : Str) (n l : Nat) (sp : Sp) (gV : List V → List V → List V) (E : XK) (ta : TE) (t tk : TA) : TE := fun σ H Q => ta σ H fun x H1 => ∃ a dx fs, x = .ref a ∧ H1 a = some (.ins C dx fs) ∧ fs.lookup m = none ∧
  t σ H1 fun vs H2 => tk σ H2 fun zs H3 => vs.length = n ∧ zs.length = l ∧ sp (gV (x :: vs) zs) H3 Q E
/-- o.m(e, .., k = v, ..) -/
theorem pe_methN {pl : Sem Bool} (he : PE X o ta) (c : Cls X.K C) (hm : Meth X.K C m f) (F : FnOk X.prog X.w X.K X.mg X.base CX k f fd ps sp) (hr : Room k X.A) (hb : KBn X.K fd ps (n + 1) ks g gV) (hx : Passes CX X E) (ha : PA X (e :: es) t) (hkw : PK X kws tk)
    (hall : (backToKw pos (keywordEach kws X.env)).all (·.1.isSome) = true := by rfl) (hks : (backToKw pos (keywordEach kws X.env)).filterMap (·.1) = ks := by rfl)
    (hst : starEach (e :: es) X.env = (false, eval e X.env) :: starEach es X.env := by rfl) (hpl : ((backTo pos (starEach (e :: es) X.env)).any (·.1) || (backToKw pos (keywordEach kws X.env)).any (·.1.isNone)) = false := by rfl)
    (ht : eval (.Call (.Attribute o m apos) (e :: es) kws pos) X.env = (do
      let ov ← eval o X.env
      standAt apos.atName
      let (f, first) ← holding [ov] (getMethod ov m pl)
      callWith pos f first (backTo pos (starEach (e :: es) X.env)) (backToKw pos (keywordEach kws X.env))) := by rfl) :
    PE X (.Call (.Attribute o m apos) (e :: es) kws pos) (tMethN C m n ks.length sp gV E ta t tk) := by
  refine ⟨fun pins s σ H Q I h => ?_⟩
  refine PySem.W.methodCall_KW (pl := pl) (thn (he.run pins s σ H _ I h) fun u s1 ⟨x, H1, I1, rx, a, dx, fs, ex, ea, l, q⟩ => ?_) ht
  subst ex
  obtain rfl : u = Value.ref a := rx
  refine getmeth_ok I1 ea c hm l ?_
  refine PySem.W.callWith_KW (first := [.ref a]) (h₀ := X.base) I.ok.mod.kin hm.kp hall (thn (ha.run pos pins s1 σ H1 _ I1 q) fun us s2 ⟨vs, H2, I2, r, q2⟩ => ?_) hpl hst
  refine thn (hkw.run pos pins s2 σ H2 _ I2 q2) fun ws s3 ⟨zs, H3, I3, rz, l1, l2, q3⟩ => ⟨I3.kIn, ?_⟩
  rw [hks]
  exact run_fnN (us := .ref a :: us) (vs := .ref a :: vs) F hr hb hx I3 (.cons rfl r) rz (by rw [List.length_cons, l1]) l2 q3
/-- o.m(k = v, ..) -/
theorem pe_methN0 {pl : Sem Bool} (he : PE X o ta) (c : Cls X.K C) (hm : Meth X.K C m f) (F : FnOk X.prog X.w X.K X.mg X.base CX k f fd ps sp) (hr : Room k X.A) (hb : KBn X.K fd ps 1 ks g gV) (hx : Passes CX X E) (hkw : PK X kws tk)
    (hall : (backToKw pos (keywordEach kws X.env)).all (·.1.isSome) = true := by rfl) (hks : (backToKw pos (keywordEach kws X.env)).filterMap (·.1) = ks := by rfl)
    (hpl : ((backTo pos (starEach [] X.env)).any (·.1) || (backToKw pos (keywordEach kws X.env)).any (·.1.isNone)) = false := by rfl)
    (ht : eval (.Call (.Attribute o m apos) [] kws pos) X.env = (do
      let ov ← eval o X.env
      standAt apos.atName
      let (f, first) ← holding [ov] (getMethod ov m pl)
      callWith pos f first (backTo pos (starEach [] X.env)) (backToKw pos (keywordEach kws X.env))) := by rfl) :
    PE X (.Call (.Attribute o m apos) [] kws pos) (tMethN C m 0 ks.length sp gV E ta tNil tk) := by
  refine ⟨fun pins s σ H Q I h => ?_⟩
  refine PySem.W.methodCall_KW (pl := pl) (thn (he.run pins s σ H _ I h) fun u s1 ⟨x, H1, I1, rx, a, dx, fs, ex, ea, l, q⟩ => ?_) ht
  subst ex
  obtain rfl : u = Value.ref a := rx
  refine getmeth_ok I1 ea c hm l ?_
  refine PySem.W.callWith_KW0 (first := [.ref a]) (h₀ := X.base) I.ok.mod.kin hm.kp hall ?_ hpl
  refine thn (hkw.run pos pins s1 σ H1 _ I1 q) fun ws s3 ⟨zs, H3, I3, rz, l1, l2, q3⟩ => ⟨I3.kIn, ?_⟩
  rw [hks]
  exact run_fnN (us := [.ref a]) (vs := [.ref a]) F hr hb hx I3 (.cons rfl .nil) rz (by rfl) l2 q3
end
end VX
namespace VX
open PySem PySem.Spec PyProof.Rows L2
/-! ### rules whose reading names K, not X.K: for a comprehension's element -/
section
variable {X : Cx} {e : Expr} {f : Str} {pos : Pos} {ta : TE}
theorem pe_fldK (K : PySem.W.Frag) (he : PE X e ta) (hb : attributeBase e f X.env (eval e X.env) = eval e X.env) (hK : X.K = K := by rfl) : PE X (.Attribute e f pos) (tFld K ta f) := by
  subst hK
  exact pe_fld he hb
def rLenS (K : PySem.W.Frag) : List V → Hp → VK → Prop := fun xs H Q => ∃ p ys, xs = [.ref p] ∧ (SqL K H p ys ∨ SqT K H p ys) ∧ Q (.int ys.length) H
theorem call_lenK (K : PySem.W.Frag) (hK : X.K = K := by rfl) : CallR X (.builtin "len") (rLenS K) := by
  subst hK
  exact call_len_seq
theorem op_inK (K : PySem.W.Frag) (hK : X.K = K := by rfl) : OpR X (compareOp .In) (rIn K false) := by
  subst hK
  exact op_in_seq
theorem op_notInK (K : PySem.W.Frag) (hK : X.K = K := by rfl) : OpR X (compareOp .NotIn) (rIn K true) := by
  subst hK
  exact op_notIn_seq
end
end VX
namespace VX
open PySem PySem.Spec PyProof.Rows L2
/-- tuple(e) of a list or a tuple, as one word -/
structure RTup (K : PySem.W.Frag) (vs : List V) (H : Hp) (Q : VK) : Prop where
  h : ∃ p ys, vs = [.ref p] ∧ ((SqL K H p ys ∧ ∀ l, H l = none → Q (.ref l) (upd H l (.tup ys))) ∨ (SqT K H p ys ∧ Q (.ref p) H))
theorem call_tupK {X : Cx} (K : PySem.W.Frag) (hK : X.K = K := by rfl) : CallR X (.type "tuple") (RTup K) := by
  subst hK
  intro pins s σ H xs us Q I r h
  exact call_tuple_of pins s σ H xs us Q I r h.h
theorem sqT_same {K : PySem.W.Frag} {H H' : Hp} {a : Addr} {xs : List V} (s : Same H H') (h : SqT K H a xs) : SqT K H' a xs := by
  rcases h with (h | ⟨o, h⟩) | h
  · exact .inl (.inl (s _ _ h))
  · exact .inl (.inr ⟨o, s _ _ h⟩)
  · exact .inr h
theorem sqL_same {K : PySem.W.Frag} {H H' : Hp} {a : Addr} {xs : List V} (s : Same H H') (h : SqL K H a xs) : SqL K H' a xs := by
  rcases h with (h | ⟨o, h⟩) | h
  · exact .inl (.inl (s _ _ h))
  · exact .inl (.inr ⟨o, s _ _ h⟩)
  · exact .inr h
theorem tup_use {K : PySem.W.Frag} {H : Hp} {a : Addr} {vs : List V} {Q : VK} (h : SqL K H a vs ∨ SqT K H a vs) (k : ∀ t H', Same H H' → SqT K H' t vs → Q (.ref t) H') : RTup K [.ref a] H Q :=
  ⟨a, vs, rfl, h.elim (fun h => .inl ⟨h, fun l hl => k _ _ (same_new hl) (SqT.of upd_same)⟩) (fun h => .inr ⟨h, k _ _ (Same.refl _) h⟩)⟩
end VX

set_option Elab.async false
set_option linter.all false
set_option maxRecDepth 100000
set_option maxHeartbeats 4000000
/-! # == and != of lists of flat things -/
namespace VX
open PySem PySem.Spec PyProof.Rows L2
def eqLV : List V → List V → Bool
  | [], [] => true
  | x :: xs, y :: ys => eqV x y && eqLV xs ys
  | _, _ => false
def eF (xs ys : List V) (j : Nat) : Bool := match xs[j]?, ys[j]? with
  | some x, some y => eqV x y
  | _, _ => true
theorem eF_all : ∀ {xs ys : List V}, xs.length = ys.length → (List.range xs.length).all (eF xs ys) = eqLV xs ys
  | [], [], _ => rfl
  | x :: xs, y :: ys, h => by
    rw [List.length_cons, List.range_succ_eq_map, List.all_cons, List.all_map]
    have ih := eF_all (xs := xs) (ys := ys) (by simpa using h)
    show (eqV x y && (List.range xs.length).all (eF (x :: xs) (y :: ys) ∘ Nat.succ)) = (eqV x y && eqLV xs ys)
    rw [← ih]
    rfl
theorem eqLV_len : ∀ {xs ys : List V}, xs.length ≠ ys.length → eqLV xs ys = false
  | [], [], h => absurd rfl h
  | [], _ :: _, _ => rfl
  | _ :: _, [], _ => rfl
  | x :: xs, y :: ys, h => by
    show (eqV x y && eqLV xs ys) = false
    rw [eqLV_len (by simpa using h), Bool.and_false]
theorem eqLV_nil : ∀ xs : List V, eqLV xs [] = xs.isEmpty
  | [] => rfl
  | _ :: _ => rfl
theorem flat_at {A : Around} {s : Shared} : ∀ {xs ys : List V} {us ws : List Value}, Vals xs us → Vals ys ws → xs.all flatV = true → ys.all flatV = true → ∀ j (h1 : j < us.length) (h2 : j < ws.length), SeqAt.EqAt A s us[j] ws[j] (eF xs ys j)
  | [], _, _, _, .nil, _, _, _, j, h1, _ => absurd h1 (Nat.not_lt_zero j)
  | _ :: _, [], _, _, _, .nil, _, _, j, _, h2 => absurd h2 (Nat.not_lt_zero j)
  | x :: xs, y :: ys, _, _, .cons a b, .cons a' b', f, f', 0, _, _ => by
    rw [List.all_cons, Bool.and_eq_true] at f f'
    exact eqAt_V a a' f.1 f'.1
  | x :: xs, y :: ys, _, _, .cons a b, .cons a' b', f, f', j + 1, h1, h2 => by
    rw [List.all_cons, Bool.and_eq_true] at f f'
    exact flat_at b b' f.2 f'.2 j (Nat.lt_of_succ_lt_succ h1) (Nat.lt_of_succ_lt_succ h2)
def rEqF (K : PySem.W.Frag) (b : Bool) : R2 := fun x y H Q => ∃ p q xs ys, x = .ref p ∧ y = .ref q ∧ SqL K H p xs ∧ SqL K H q ys ∧ xs.all flatV = true ∧ ys.all flatV = true ∧ Q (.bl (if b = true then eqLV xs ys else !eqLV xs ys)) H
theorem op_eqF {X : Cx} (K : PySem.W.Frag) (hu : X.A.units < cLine) (hK : X.K = K := by rfl) : OpR X (compareOp .Eq) (rEqF K true) := by
  subst hK
  intro pins s σ H x y v u Q I rx ry h
  obtain ⟨p, q, xs, ys, rfl, rfl, hp, hq, fx, fy, hQ⟩ := h
  cases (show v = Value.ref p from rx)
  cases (show u = Value.ref q from ry)
  obtain ⟨us, r1, p1, _⟩ := I.list hp
  obtain ⟨ws, r2, p2, _⟩ := I.list hq
  by_cases hl : xs.length = ys.length
  · have hsz : us.toArray.size = ws.toArray.size := by
      rw [List.size_toArray, List.size_toArray, ← r1.length, ← r2.length, hl]
    refine SeqAt.RcAt.lists (e := eF xs ys) p1.isList p2.isList hsz hu (fun j h1 h2 => ?_) _ _ _ _ ?_
    · have k := flat_at (A := X.A.in1) (s := s) r1 r2 fx fy j (by simpa using h1) (by simpa using h2)
      simpa using k
    · rw [show us.toArray.size = xs.length by rw [List.size_toArray, ← r1.length], eF_all hl]
      exact ⟨.bl _, H, I, rfl, hQ⟩
  · refine SeqAt.RcAt.lists_lengths p1.isList p2.isList (by rw [List.size_toArray, List.size_toArray, ← r1.length, ← r2.length]; simpa using hl) hu _ _ _ _ ?_
    rw [if_pos rfl, eqLV_len hl] at hQ
    exact ⟨.bl false, H, I, rfl, hQ⟩
theorem op_neF {X : Cx} (K : PySem.W.Frag) (hu : X.A.units < cLine) (hK : X.K = K := by rfl) : OpR X (compareOp .NotEq) (rEqF K false) := by
  subst hK
  intro pins s σ H x y v u Q I rx ry h
  obtain ⟨p, q, xs, ys, rfl, rfl, hp, hq, fx, fy, hQ⟩ := h
  cases (show v = Value.ref p from rx)
  cases (show u = Value.ref q from ry)
  obtain ⟨us, r1, p1, _⟩ := I.list hp
  obtain ⟨ws, r2, p2, _⟩ := I.list hq
  rw [if_neg Bool.false_ne_true] at hQ
  by_cases hl : xs.length = ys.length
  · have hsz : us.toArray.size = ws.toArray.size := by
      rw [List.size_toArray, List.size_toArray, ← r1.length, ← r2.length, hl]
    refine SeqAt.RcNeAt.lists (e := eF xs ys) p1.isList p2.isList hsz hu (fun j h1 h2 => ?_) _ _ _ _ ?_
    · have k := flat_at (A := X.A.in1) (s := s) r1 r2 fx fy j (by simpa using h1) (by simpa using h2)
      simpa using k
    · rw [show us.toArray.size = xs.length by rw [List.size_toArray, ← r1.length], eF_all hl]
      exact ⟨.bl _, H, I, rfl, hQ⟩
  · refine SeqAt.RcNeAt.lists_lengths p1.isList p2.isList (by rw [List.size_toArray, List.size_toArray, ← r1.length, ← r2.length]; simpa using hl) hu _ _ _ _ ?_
    rw [eqLV_len hl] at hQ
    exact ⟨.bl true, H, I, rfl, hQ⟩
theorem eqLV_strs : ∀ {a b : List Str}, eqLV (a.map V.str) (b.map V.str) = decide (a = b)
  | [], [] => rfl
  | [], _ :: _ => rfl
  | _ :: _, [] => rfl
  | x :: a, y :: b => by
    show ((x == y) && eqLV (a.map V.str) (b.map V.str)) = _
    rw [eqLV_strs, Bool.eq_iff_iff]
    simp
end VX
namespace VX
open PySem PySem.Spec PyProof.Rows L2
/-- a list == [] -/
def rEqN (K : PySem.W.Frag) (b : Bool) : R2 := fun x y H Q => ∃ p q xs, x = .ref p ∧ y = .ref q ∧ SqL K H p xs ∧ SqL K H q [] ∧ Q (.bl (if b = true then xs.isEmpty else !xs.isEmpty)) H
theorem op_eqN {X : Cx} (K : PySem.W.Frag) (hu : X.A.units < cLine) (hK : X.K = K := by rfl) : OpR X (compareOp .Eq) (rEqN K true) := by
  subst hK
  intro pins s σ H x y v u Q I rx ry h
  obtain ⟨p, q, xs, rfl, rfl, hp, hq, hQ⟩ := h
  cases (show v = Value.ref p from rx)
  cases (show u = Value.ref q from ry)
  obtain ⟨us, r1, p1, _⟩ := I.list hp
  obtain ⟨ws, r2, p2, _⟩ := I.list hq
  cases r2
  cases xs with
  | nil =>
    cases r1
    refine SeqAt.RcAt.lists (e := fun _ => true) p1.isList p2.isList rfl hu (fun j h1 h2 => absurd h1 (Nat.not_lt_zero j)) _ _ _ _ ?_
    exact ⟨.bl true, H, I, rfl, hQ⟩
  | cons x xs =>
    cases r1
    refine SeqAt.RcAt.lists_lengths p1.isList p2.isList (by simp) hu _ _ _ _ ?_
    exact ⟨.bl false, H, I, rfl, hQ⟩
theorem op_neN {X : Cx} (K : PySem.W.Frag) (hu : X.A.units < cLine) (hK : X.K = K := by rfl) : OpR X (compareOp .NotEq) (rEqN K false) := by
  subst hK
  intro pins s σ H x y v u Q I rx ry h
  obtain ⟨p, q, xs, rfl, rfl, hp, hq, hQ⟩ := h
  cases (show v = Value.ref p from rx)
  cases (show u = Value.ref q from ry)
  obtain ⟨us, r1, p1, _⟩ := I.list hp
  obtain ⟨ws, r2, p2, _⟩ := I.list hq
  cases r2
  cases xs with
  | nil =>
    cases r1
    refine SeqAt.RcNeAt.lists (e := fun _ => true) p1.isList p2.isList rfl hu (fun j h1 h2 => absurd h1 (Nat.not_lt_zero j)) _ _ _ _ ?_
    exact ⟨.bl false, H, I, rfl, hQ⟩
  | cons x xs =>
    cases r1
    refine SeqAt.RcNeAt.lists_lengths p1.isList p2.isList (by simp) hu _ _ _ _ ?_
    exact ⟨.bl true, H, I, rfl, hQ⟩
end VX

set_option Elab.async false
set_option linter.all false
set_option maxRecDepth 100000
set_option maxHeartbeats 4000000
/-! # d == 'text' -/
namespace PySem.SeqAt
open PySem PySem.Spec
section
variable {A : Around} {s : Shared}
theorem dict_eq_declines_str (l : Addr) (b : Str) (u : Tok) :
    Meets (Builtin.«dict.__eq__» ⟨[.ref l, .str b u], []⟩) (fun _ R s => s.TypeIs (.ref l) "dict" ∧ R (.ok (.ret .notImplemented)) s) :=
  .of_wp fun prog w A R s h => by
    obtain ⟨hl, h⟩ := h
    show wpAny _ _ (Builtin.Dict.dictSlotArgs "__eq__" ⟨[.ref l, .str b u], []⟩ >>= _) _ _ s
    refine wpAny_bind ?_
    unfold Builtin.Dict.dictSlotArgs
    refine wpAny_bind (wpAny_notOrdered_dict hl ?_)
    show wpAny _ _ (pure (Value.ref l, Value.str b u)) _ _ s
    refine wpAny_pure ?_
    refine wpAny_bind (wpAny_isInstance (T := "str") (U := "dict") (typeIs_str s b u) PySem.F.sub_str_dict ?_)
    simp only [Bool.not_false, if_true]
    refine wpAny_bind (wpAny_rule ?_)
    exact wpAny_pure ⟨_, rfl, h⟩
theorem str_eq_declines_ref (b : Str) (u : Tok) (l : Addr) (c : Value) (dd : Option Addr) (es : Array DictEntry) (ep : Nat) (sl : Array (Option Value)) :
    Meets (Builtin.«str.__eq__» ⟨[.str b u, .ref l], []⟩) (fun _ R s => s.heap.get? l = some { cls := c, dict := dd, data := .dict es ep, slots := sl } ∧ R (.ok (.ret .notImplemented)) s) :=
  .of_wp fun prog w A R s h => by obtain ⟨hp, g, d, tk, os⟩ := s; obtain ⟨hl, h⟩ := h; wp_walk using AutoSeq1.wpAny_loadPart' hl, wpAny_load hl; exact ⟨_, rfl, h⟩
theorem RcAt.dict_str {l : Addr} (b : Str) (u : Tok) (hl : s.TypeIs (.ref l) "dict") (hd : ∃ o es ep, s.heap.get? l = some o ∧ o.data = .dict es ep) (hu : A.units < cLine) : RcAt A s (.ref l) (.str b u) false := fun prog w E Q h => by
  obtain ⟨⟨c, dd, dt, sl⟩, es, ep, ho, hc⟩ := hd
  simp only at hc
  subst hc
  exact rc_eq_decline_or (k := false) hl (typeIs_str s b u) (by decide) F.sub_str_dict F.slot_dict_eq F.slot_str_eq_refl
    (fun _ hq => call_meets F.slot_dict_eq hl F.entry_dict_eq (F.args_dict_eq_2 _ _) (dict_eq_declines_str l b u) ⟨hl, hq⟩)
    (fun _ hq => call_meets F.slot_str_eq_refl (typeIs_str s b u) F.entry_str_eq (F.args_str_eq_2 _ _) (str_eq_declines_ref b u l c dd es ep sl) ⟨ho, hq⟩)
    (fun _ hq => wpAny_of_eq (rfl : isSame (.ref l) (.str b u) = pure false) hq) (.inr hu) h
end
end PySem.SeqAt
namespace VX
open PySem PySem.Spec PyProof.Rows L2
/-- e == 'text' where e is None, a text, a number, a dict or a tuple -/
def rEqS (K : PySem.W.Frag) : R2 := fun x y H Q => ∃ z, y = .str z ∧ ((scal x y = true ∧ Q (.bl (decide (x = y))) H) ∨ (∃ a kvs, x = .ref a ∧ H a = some (.dK kvs) ∧ Q (.bl false) H) ∨ (∃ a xs, x = .ref a ∧ SqT K H a xs ∧ Q (.bl false) H))
theorem op_eqS {X : Cx} (K : PySem.W.Frag) (hu : X.A.units < cLine) (hK : X.K = K := by rfl) : OpR X (compareOp .Eq) (rEqS K) := by
  subst hK
  intro pins s σ H x y v u Q I rx ry h
  obtain ⟨z, rfl, h⟩ := h
  rcases h with h | ⟨a, kvs, rfl, ha, q⟩ | ⟨a, xs, rfl, ha, q⟩
  · exact op_eq pins s σ H x (.str z) v u Q I rx ry h
  · obtain ⟨t, rfl⟩ := ry
    obtain rfl : v = Value.ref a := rx
    obtain ⟨_, ya, va, ra, da⟩ := (show ObjOk X.prog X.w H s.heap a (.dK kvs) from I.hok a _ ha)
    exact SeqAt.RcAt.dict_str z t da.typeIs (by obtain ⟨o, es, ep, h1, _, h2, _⟩ := id da; exact ⟨o, es, ep, h1, h2⟩) hu _ _ _ _ ⟨.bl false, H, I, rfl, q⟩
  · obtain ⟨t, rfl⟩ := ry
    obtain rfl : v = Value.ref a := rx
    obtain ⟨its, rv, tp, _⟩ := I.tuple ha
    exact SeqAt.RcAt.tuple_str z t tp hu _ _ _ _ ⟨.bl false, H, I, rfl, q⟩
end VX

set_option Elab.async false
set_option linter.all false
set_option maxRecDepth 100000
set_option maxHeartbeats 4000000
/-! # == of two dicts of flat values, either way -/
namespace VX
open PySem PySem.Spec PyProof.Rows L2
theorem valV_mem {κ : Type} [DecidableEq κ] {k : κ} {v : V} : ∀ {kvs : List (κ × V)}, valV kvs k = some v → ∃ p ∈ kvs, p.2 = v
  | [], h => by cases h
  | q :: r, h => by
    by_cases e : q.1 = k
    · rw [valV_pos e] at h
      exact ⟨q, List.mem_cons_self, Option.some.inj h⟩
    · rw [valV_neg e] at h
      obtain ⟨p, hp, he⟩ := valV_mem h
      exact ⟨p, List.mem_cons_of_mem _ hp, he⟩
def dEq (ls ks : List (Key × V)) : Bool := ks.all fun p => match valV ls p.1 with
  | some y => eqV p.2 y
  | none => false
theorem hits_eq {A : Around} {s : Shared} {ls : List (Key × V)} {vb : List (Key × Value)} (rb : KV ls vb) (fb : ∀ p ∈ ls, flatV p.2 = true) {ks : List (Key × V)} {va : List (Key × Value)} (ra : KV ks va) (fa : ∀ p ∈ ks, flatV p.2 = true) :
    PySem.W.KeqHits A s vb va (dEq ls ks) := by
  unfold KV at ra
  induction ra with
  | nil => exact .nil
  | @cons p q ps qs h t ih =>
    obtain ⟨h1, h2⟩ := h
    obtain ⟨k, v⟩ := q
    have h1' : p.1 = k := h1
    have ih := ih fun p' hm => fa p' (List.mem_cons_of_mem _ hm)
    show PySem.W.KeqHits A s vb ((k, v) :: qs) ((match valV ls p.1 with
      | some y => eqV p.2 y
      | none => false) && dEq ls ps)
    cases e : valV ls p.1 with
    | none =>
      have rr : RelO (none : Option V) (valueAt vb p.1) := by rw [← e]; exact rb.val p.1
      cases hv : valueAt vb p.1 with
      | none => rw [h1'] at hv; exact .miss hv
      | some y => rw [hv] at rr; cases rr
    | some y =>
      have rr : RelO (some y) (valueAt vb p.1) := by rw [← e]; exact rb.val p.1
      obtain ⟨y', hy, ry⟩ := rr.some_of
      rw [h1'] at hy
      have fy : flatV y = true := by
        obtain ⟨z, hz, he⟩ := valV_mem e
        rw [← he]
        exact fb z hz
      exact .hit hy (eqAt_V h2 ry (fa p List.mem_cons_self) fy) ih
def rEqDK (b : Bool) : R2 := fun x y H Q => ∃ a c ks ls, x = .ref a ∧ y = .ref c ∧ H a = some (.dK ks) ∧ H c = some (.dK ls) ∧ (∀ p ∈ ks, flatV p.2 = true) ∧ (∀ p ∈ ls, flatV p.2 = true) ∧ Q (.bl (if b = true then (ks.length == ls.length && dEq ls ks) else !(ks.length == ls.length && dEq ls ks))) H
theorem op_eqDK {X : Cx} (hu : X.A.units < cLine) : OpR X (compareOp .Eq) (rEqDK true) := by
  intro pins s σ H x y v u Q I rx ry h
  obtain ⟨a, b, ks, ls, rfl, rfl, ea, eb, fa, fb, q⟩ := h
  obtain rfl : v = Value.ref a := rx
  obtain rfl : u = Value.ref b := ry
  obtain ⟨_, ya, va, ra, da⟩ := (show ObjOk X.prog X.w H s.heap a (.dK ks) from I.hok a _ ea)
  obtain ⟨_, yb, vb, rb, db⟩ := (show ObjOk X.prog X.w H s.heap b (.dK ls) from I.hok b _ eb)
  refine PySem.W.keq_eq (knd := mixKind X.prog X.w) (r := dEq ls ks) ya yb da db hu (fun _ => hits_eq rb fb ra fa) (fin_bl I q ?_)
  rw [ra.length, rb.length]
  rfl
theorem op_neDK {X : Cx} (hu : X.A.units < cLine) : OpR X (compareOp .NotEq) (rEqDK false) := by
  intro pins s σ H x y v u Q I rx ry h
  obtain ⟨a, b, ks, ls, rfl, rfl, ea, eb, fa, fb, q⟩ := h
  obtain rfl : v = Value.ref a := rx
  obtain rfl : u = Value.ref b := ry
  obtain ⟨_, ya, va, ra, da⟩ := (show ObjOk X.prog X.w H s.heap a (.dK ks) from I.hok a _ ea)
  obtain ⟨_, yb, vb, rb, db⟩ := (show ObjOk X.prog X.w H s.heap b (.dK ls) from I.hok b _ eb)
  refine PySem.W.keq_ne (knd := mixKind X.prog X.w) (r := dEq ls ks) ya yb da db hu (fun _ => hits_eq rb fb ra fa) (fin_bl I q ?_)
  rw [ra.length, rb.length]
  rfl
end VX

set_option Elab.async false
set_option linter.all false
set_option maxRecDepth 100000
set_option maxHeartbeats 4000000
/-! # a tuple == () -/
namespace VX
open PySem PySem.Spec PyProof.Rows L2
def rEqTN (K : PySem.W.Frag) : R2 := fun x y H Q => ∃ p q xs, x = .ref p ∧ y = .ref q ∧ SqT K H p xs ∧ SqT K H q [] ∧ Q (.bl xs.isEmpty) H
theorem op_eqTN {X : Cx} (K : PySem.W.Frag) (hu : X.A.units < cLine) (hK : X.K = K := by rfl) : OpR X (compareOp .Eq) (rEqTN K) := by
  subst hK
  intro pins s σ H x y v u Q I rx ry h
  obtain ⟨p, q, xs, rfl, rfl, hp, hq, hQ⟩ := h
  cases (show v = Value.ref p from rx)
  cases (show u = Value.ref q from ry)
  obtain ⟨us, r1, p1, _⟩ := I.tuple hp
  obtain ⟨ws, r2, p2, _⟩ := I.tuple hq
  cases r2
  refine SeqAt.RcAt.tuples (e := fun _ => true) p1 p2 hu (fun j h1 h2 => absurd h2 (Nat.not_lt_zero j)) _ _ _ _ ?_
  refine ⟨.bl _, H, I, ?_, hQ⟩
  have := r1.length
  cases r1 <;> rfl
end VX
namespace VX
open PySem PySem.Spec PyProof.Rows L2
theorem mt_indexDK {X : Cx} (K : PySem.W.Frag) (hu : X.A.units + 65 < cLine) (hK : X.K = K := by rfl) : MtR X "list.index" (rIndexD K) := by
  subst hK
  exact mt_indexD hu
end VX
namespace VX
open PySem PySem.Spec PyProof.Rows L2
theorem pe_bm0K {X : Cx} {o : Expr} {to : TE} {name : Str} {apos cpos : Pos} {T id : String} {r : V → List V → Hp → VK → Prop} (K : PySem.W.Frag) (pa : PlainAttrs T) (slot : Slot T name id) (hty : typeOf (.builtin id) = pure (.type "method_descriptor")) (hm : MtR X id r) (ho : PE X o to)
    (hK : X.K = K := by rfl) (hbase : attributeBase o name X.env (eval o X.env) = eval o X.env := by rfl) (hline : (apos.endLine == cpos.line) = true := by rfl) : PE X (.Call (.Attribute o name apos) [] [] cpos) (tBM0 K T r to) := by
  subst hK
  exact pe_bm0 pa slot hty hm ho hbase hline
theorem pe_bmK {X : Cx} {o e : Expr} {es : List Expr} {to : TE} {t : TA} {name : Str} {apos cpos : Pos} {T id : String} {r : V → List V → Hp → VK → Prop} (K : PySem.W.Frag) (pa : PlainAttrs T) (slot : Slot T name id) (hty : typeOf (.builtin id) = pure (.type "method_descriptor")) (hm : MtR X id r) (ho : PE X o to) (ha : PA X (e :: es) t)
    (hK : X.K = K := by rfl) (hbase : attributeBase o name X.env (eval o X.env) = eval o X.env := by rfl)
    (hfew : ((backTo cpos (starEach (e :: es) X.env)).all (fun x => !x.1) && (backToKw cpos (keywordEach [] X.env)).all (fun x => x.1.isSome)
      && decide ((e :: es).length + ([] : List Keyword).length + (if ([] : List Keyword).isEmpty then 0 else 1) < 30)) = true := by rfl)
    (hline : (apos.endLine == cpos.line) = true := by rfl) (hs : starEach (e :: es) X.env = (false, eval e X.env) :: starEach es X.env := by rfl) (hplain : (backTo cpos (starEach es X.env)).any (·.1) = false := by rfl) :
    PE X (.Call (.Attribute o name apos) (e :: es) [] cpos) (tBM K T r to t) := by
  subst hK
  exact pe_bm pa slot hty hm ho ha hbase hfew hline hs hplain
end VX

set_option Elab.async false
set_option linter.all false
set_option maxRecDepth 100000
set_option maxHeartbeats 4000000
/-! # == by an own __eq__, either way: True or False as D says -/
namespace GB
open PySem PySem.SeqAt GQ
open AutoSeq1 (wpAny_loadPart')
open MeetsSeq MeetsSeq2 MeetsSeq3 SeqRoads2
section
variable {prog : Program} {w : World} {A : Around} {R : Result → Shared → Prop}
theorem tuple_eqB (l b : Addr) (items items2 : Array Value) (n n2 : Nat) (dd dd2 : Option Addr) (sl sl2 : Array (Option Value)) (hsz : items.size = items2.size) (e : Nat → Bool) (I : Shared → Prop)
    (turn : ∀ i (h1 : i < items.size) (h2 : i < items2.size) s, I s → wpAny (model prog w) A.in1 (eqBool items[i] items2[i]) (fun r s' => r = e i ∧ I s') (fun e s' => R (.error e) s') s)
    (fin : ∀ s, I s → R (.ok (.ret (.bool ((List.range items.size).all e)))) s) {s : Shared} (hl1 : s.heap.get? l = some { cls := .type "tuple", dict := dd, data := .seq items n, slots := sl }) (hb1 : s.heap.get? b = some { cls := .type "tuple", dict := dd2, data := .seq items2 n2, slots := sl2 }) (h : I s) :
    wpAny (model prog w) A.in1 (Builtin.«tuple.__eq__» ⟨[.ref l, .ref b], []⟩) (FinOf prog w A R) (fun e s' => R (.error e) s') s := by
  have f2 := AutoSeq1.sub_tuple_tuple
  have hZ : (items.toList.zip items2.toList).length = items.size := by simp [hsz]
  have h0 := h
  obtain ⟨hp, g, d, tk, os⟩ := s
  wp_walk using wpAny_loadPart' hl1, wpAny_loadPart' hb1, wpAny_forIn_list _ (fun rest b s' => b.1 = none ∧ I s' ∧ ∃ i, rest = (items.toList.zip items2.toList).drop i ∧ i ≤ items.size ∧ ((List.range items.size).drop i).all e = (List.range items.size).all e) _
  case turn =>
    rintro ⟨y, x⟩ rest b s' ⟨hb', hI, i, hz, hi, ha⟩
    have hlt : i < (items.toList.zip items2.toList).length := by
      rcases Nat.lt_or_ge i (items.toList.zip items2.toList).length with h' | h'
      · exact h'
      · rw [List.drop_of_length_le h'] at hz; cases hz
    have h1 : i < items.size := hZ ▸ hlt
    have h2 : i < items2.size := hsz ▸ h1
    rw [List.drop_eq_getElem_cons hlt] at hz
    injection hz with hyx hrest
    have hy : y = items[i] := by have := congrArg Prod.fst hyx; simpa using this
    have hx : x = items2[i] := by have := congrArg Prod.snd hyx; simpa using this
    subst hy hx
    have hd : (List.range items.size).drop i = i :: (List.range items.size).drop (i + 1) := by simp [List.drop_eq_getElem_cons, h1]
    rw [hd, List.all_cons] at ha
    refine wpAny_bind (wpAny_mono (turn i h1 h2 s' hI) (fun r s2 q2 => ?_) fun _ _ x => x)
    obtain ⟨hr, q2⟩ := q2
    subst hr
    cases hy : e i with
    | true =>
      rw [hy, Bool.true_and] at ha
      wp_walk
      exact ⟨rfl, q2, i + 1, hrest, h1, ha⟩
    | false =>
      rw [hy, Bool.false_and] at ha
      have hR := fin s2 q2
      rw [← ha] at hR
      wp_walk
      first | exact hR | exact ⟨_, rfl, hR⟩
  case fin =>
    rintro ⟨b1, b2⟩ s' ⟨hb', hI, i, hz, hi, ha⟩
    simp only at hb'
    subst hb'
    have hge : items.size ≤ i := by
      rcases Nat.lt_or_ge i (items.toList.zip items2.toList).length with h' | h'
      · rw [List.drop_eq_getElem_cons h'] at hz; cases hz
      · exact hZ ▸ h'
    have hR := fin s' hI
    have hdr : (List.range items.size).drop i = [] := List.drop_of_length_le (by simpa using hge)
    rw [← ha, hdr, List.all_nil] at hR
    wp_walk
    simpa [Builtin.Tuple.tupleCompareSizes, hsz] using hR
  case h =>
    exact ⟨rfl, h0, 0, rfl, Nat.zero_le _, rfl⟩
end
section
variable {prog : Program} {w : World} {A : Around} {E : Value → Shared → Prop} {s : Shared}
theorem rc_tupB {l b : Addr} {items items2 : Array Value} {Q : Value → Shared → Prop} (hsz : items.size = items2.size) (hu : A.units < cLine) (e : Nat → Bool) (I : Shared → Prop)
    (hl : s.heap.IsTuple l items) (hb : s.heap.IsTuple b items2)
    (turn : ∀ i (h1 : i < items.size) (h2 : i < items2.size) s, I s → wpAny (model prog w) A.in1 (eqBool items[i] items2[i]) (fun r s' => r = e i ∧ I s') E s)
    (fin : ∀ s, I s → Q (.bool ((List.range items.size).all e)) s) (h : I s) : wpAny (model prog w) A (richCompare .Eq (.ref l) (.ref b)) Q E s := by
  obtain ⟨⟨cls, dd, data, sl⟩, ho, hc, n, hd⟩ := id hl
  obtain ⟨⟨cls2, dd2, data2, sl2⟩, ho2, hc2, n2, hd2⟩ := id hb
  simp only at hc hd hc2 hd2
  subst hc hd hc2 hd2
  refine wpAny_richCompare_same_room (op := .Eq) ⟨_, ho, rfl⟩ ⟨_, ho2, rfl⟩ F.slot_tuple_eq (call_here F.slot_tuple_eq ⟨_, ho, rfl⟩ F.entry_tuple_eq (F.args_tuple_eq_2 _ _) ?_) hu
  exact tuple_eqB (R := wants (fun v s' => v ≠ .notImplemented ∧ Q v s') E) l b items items2 n n2 dd dd2 sl sl2 hsz e I turn (fun s' q => ⟨(fun x => nomatch x), fin s' q⟩) ho ho2 h
end
end GB
namespace VX
open PySem PySem.Spec PyProof.Rows L2
/-- how two values compare, by the abstract heap -/
abbrev EqvB := V → V → Bool → Hp → Prop
def MonB (D : EqvB) : Prop := ∀ x y b H H', Ext H H' → D x y b H → D x y b H'
def EqB (X : Cx) (n : Nat) (D : EqvB) : Prop :=
  ∀ (A : Around) (pins : List (Addr × Obj)) (s : Shared) (σ : L2.St) (H : Hp) (x y : V) (b : Bool) (u v : Value), Sub X n A → Inv X pins σ H s → RelV x u → RelV y v → D x y b H →
    wpAny (model X.prog X.w) A (eqBool u v) (fun r s' => r = b ∧ ∃ H', Inv X pins σ H' s' ∧ Ext H H') X.xe s
def RcB (X : Cx) (n : Nat) (D : EqvB) : Prop :=
  ∀ (A : Around) (pins : List (Addr × Obj)) (s : Shared) (σ : L2.St) (H : Hp) (x y : V) (b : Bool) (u v : Value), Sub X n A → Inv X pins σ H s → RelV x u → RelV y v → D x y b H →
    wpAny (model X.prog X.w) A (richCompare .Eq u v) (fun r s' => r = .bool b ∧ ∃ H', Inv X pins σ H' s' ∧ Ext H H') X.xe s
/-- item by item -/
def PrsB (D : EqvB) (xs ys : List V) (e : Nat → Bool) (H : Hp) : Prop := xs.length = ys.length ∧ ∀ (i : Nat) x y, xs[i]? = some x → ys[i]? = some y → D x y (e i) H
def DTupB (K : PySem.W.Frag) (D : EqvB) : EqvB := fun x y b H => ∃ p q xs ys e, x = .ref p ∧ y = .ref q ∧ SqT K H p xs ∧ SqT K H q ys ∧ PrsB D xs ys e H ∧ b = (List.range xs.length).all e
section
variable {X : Cx} {n : Nat} {D : EqvB}
theorem rcB_tup (hD : MonB D) (h : EqB X n D) : RcB X (n + 1) (DTupB X.K D) := by
  intro A pins s σ H x y bb u v sb I rx ry d
  obtain ⟨a, b, xs, ys, e, rfl, rfl, ha, hb, p, rfl⟩ := d
  cases rx
  cases ry
  obtain ⟨its, r, e1, z⟩ := I.tuple ha
  obtain ⟨its2, r2, e2, z2⟩ := I.tuple hb
  have hsz : its.toArray.size = its2.toArray.size := by rw [List.size_toArray, List.size_toArray, ← r.length, ← r2.length]; exact p.1
  refine GB.rc_tupB hsz sb.room.units0 e (fun s' => LoopI X pins σ H s') e1 e2 (fun i h1 h2 s' l => ?_) (fun s' q => ⟨by rw [List.size_toArray, ← r.length], q⟩) ⟨H, I, Ext.rfl'⟩
  obtain ⟨H1, I1, e1⟩ := l
  have g1 : its[i]? = some its.toArray[i] := by
    have h1' : i < its.length := by simpa using h1
    rw [List.getElem?_eq_getElem h1'] <;> simp
  have g2 : its2[i]? = some its2.toArray[i] := by
    have h2' : i < its2.length := by simpa using h2
    rw [List.getElem?_eq_getElem h2'] <;> simp
  have k1 : i < xs.length := by rw [r.length]; simpa using h1
  have k2 : i < ys.length := by rw [r2.length]; simpa using h2
  obtain ⟨u, hu, ru⟩ := r.get (List.getElem?_eq_getElem k1)
  obtain ⟨v, hv, rv⟩ := r2.get (List.getElem?_eq_getElem k2)
  rw [g1] at hu
  rw [g2] at hv
  rw [Option.some.inj hu, Option.some.inj hv]
  refine wpAny_mono (h A.in1 pins s' σ H1 _ _ _ u v sb.in1 I1 ru rv (hD _ _ _ _ _ e1 (p.2 i _ _ (List.getElem?_eq_getElem k1) (List.getElem?_eq_getElem k2)))) (fun r s2 q => ?_) fun _ _ x => x
  obtain ⟨hr, H2, I2, e2⟩ := q
  exact ⟨hr, H2, I2, e1.trans e2⟩
/-- what the own == promises -/
def spEqB (R : Addr → V → Bool → Hp → Prop) : Sp := fun vs H Q _ => ∃ a y b, vs = [.ref a, y] ∧ R a y b H ∧ ∀ H', Ext H H' → Q (.bl b) H'
def DInsB (C : Addr) (R : Addr → V → Bool → Hp → Prop) : EqvB := fun x y b H => ∃ a c C' dx dy fs gs, x = .ref a ∧ y = .ref c ∧ H a = some (.ins C dx fs) ∧ H c = some (.ins C' dy gs) ∧ R a y b H
theorem rcB_ins {CX : CXT} {C C' f : Addr} {fd : FuncData} {ps : List Str} {R : Addr → V → Bool → Hp → Prop} {E : XK} (F : FnOk X.prog X.w X.K X.mg X.base CX n f fd ps (spEqB R))
    (hs : PySem.W.findIn X.K (.ref C) "__eq__" = some (some (.ref f))) (hf : PySem.W.isFn X.K (.ref f) = true) (hb : Binds X.K fd ps []) (hx : Passes CX X E) (hn : PySem.W.notFirst X.K C (.ref C') = true) :
    RcB X n (fun x y b H => ∃ a c dx dy fs gs, x = .ref a ∧ y = .ref c ∧ H a = some (.ins C dx fs) ∧ H c = some (.ins C' dy gs) ∧ R a y b H) := by
  intro A pins s σ H x y bb u v sb I rx ry d
  obtain ⟨a, b, dx, dy, fs, gs, rfl, rfl, ha, hb', hr⟩ := d
  cases rx
  cases ry
  obtain ⟨mA, J, _⟩ := ins_get I.hok ha
  obtain ⟨mB, J', _⟩ := ins_get I.hok hb'
  obtain ⟨od, J, _⟩ := J.look
  obtain ⟨od', J', _⟩ := J'.look
  obtain ⟨m, hF⟩ := I.fr
  refine PySem.W.cmp_K (op := .Eq) (tb := .ref C') sb.room.units0 hF I.ok.mod.kin J J'.type hn hs hf ?_
  have hsp : spEqB R [.ref a, .ref b] H (fun v H' => v = .bl bb ∧ Ext H H') E := ⟨a, .ref b, bb, rfl, hr, fun H' e => ⟨rfl, e⟩⟩
  have e0 : Env0 X.prog X.w X.K X.mg X.base A X.stack s H := by
    have e := I.env0
    exact ⟨by rw [sb.fr]; exact e.frames, e.mod, e.bs, e.bsz, e.funs, e.frf, e.hok, e.bare⟩
  have hl := F.len _ _ _ _ hsp
  have r2 : Vals [V.ref a, V.ref b] [Value.ref a, Value.ref b] := .cons rfl (.cons rfl .nil)
  refine wpAny_call (codeAny_mono (F.run A X.stack s H ⟨[.ref a, .ref b], []⟩ [.ref a, .ref b] [.ref a, .ref b] _ E sb.room e0 (by
    have := hb s [.ref a, .ref b] I.kIn (by simpa using hl)
    simpa using this) r2 hsp) fun r s' hq => ?_)
  cases r with
  | error e => exact hx pins σ H s e s' I hq
  | ok fl =>
    cases fl with
    | ret w =>
      obtain ⟨z, H', I', rz, ez, ex⟩ := I.after hq
      subst ez
      cases rz
      exact ⟨rfl, H', I', ex⟩
    | next => exact False.elim hq
    | brk => exact False.elim hq
    | cont => exact False.elim hq
/-- == inside a builtin: the same object is equal to itself -/
theorem RcB.eqB (h : RcB X n D) (hr : ∀ x y b H, D x y b H → ∃ a c, x = .ref a ∧ y = .ref c ∧ (a = c → b = true)) : EqB X n D := by
  intro A pins s σ H x y bb u v sb I rx ry d
  obtain ⟨a, b, rfl, rfl, hsame⟩ := hr _ _ _ _ d
  cases rx
  cases ry
  by_cases hab : a = b
  · have := hsame hab
    subst hab
    subst this
    exact SeqAt.EqAt.same (A := A) (s := s) (.ref a) X.prog X.w X.xe _ ⟨rfl, H, I, Ext.rfl'⟩
  · refine GQ.eqBool_refG hab (wpAny_mono (h A pins s σ H (.ref a) (.ref b) bb _ _ sb I rfl rfl d) (fun r s' q => ?_) fun _ _ x => x)
    obtain ⟨hr', q⟩ := q
    exact ⟨bb, hr', rfl, q⟩
/-- x == y as an expression -/
def rEqB (D : EqvB) : R2 := fun x y H Q => ∃ b, D x y b H ∧ ∀ H', Ext H H' → Q (.bl b) H'
theorem op_eqB (h : RcB X n D) (hr : Room n X.A) : OpR X (compareOp .Eq) (rEqB D) := by
  intro pins s σ H x y v u Q I rx ry hq
  obtain ⟨b, d, q⟩ := hq
  show wpAny (model X.prog X.w) X.A (richCompare .Eq v u) (EP X pins σ Q) X.xe s
  refine wpAny_mono (h X.A pins s σ H x y b v u ⟨hr, rfl⟩ I rx ry d) (fun r s' z => ?_) fun _ _ x => x
  obtain ⟨hr', H', I', e⟩ := z
  subst hr'
  exact ⟨.bl b, H', I', rfl, q H' e⟩
end
end VX

set_option Elab.async false
set_option linter.all false
set_option maxRecDepth 100000
set_option maxHeartbeats 4000000
/-! # ==, != of tuples and of tuples of tuples, either way; <= and in by own methods -/
namespace VX
open PySem PySem.Spec PyProof.Rows L2
theorem eF_min : ∀ (xs ys : List V), ((List.range (min xs.length ys.length)).all (eF xs ys) && xs.length == ys.length) = eqLV xs ys := fun xs ys => by
  by_cases h : xs.length = ys.length
  · rw [h, Nat.min_self, ← h, eF_all h]
    simp
  · rw [eqLV_len h, beq_false_of_ne h, Bool.and_false]
theorem rcT {A : Around} {s : Shared} {p q : Addr} {us ws : List Value} {xs ys : List V} (p1 : s.heap.IsTuple p us.toArray) (p2 : s.heap.IsTuple q ws.toArray) (r1 : Vals xs us) (r2 : Vals ys ws) (fx : xs.all flatV = true) (fy : ys.all flatV = true) (hu : A.units < cLine) :
    SeqAt.RcAt A s (.ref p) (.ref q) (eqLV xs ys) := by
  have k := SeqAt.RcAt.tuples (e := eF xs ys) p1 p2 hu (fun j h1 h2 => by
    have k := flat_at (A := A.in1) (s := s) r1 r2 fx fy j (by simpa using h1) (by simpa using h2)
    simpa using k)
  rw [List.size_toArray, List.size_toArray, ← r1.length, ← r2.length, eF_min] at k
  exact k
def rEqTF (K : PySem.W.Frag) (b : Bool) : R2 := fun x y H Q => ∃ p q xs ys, x = .ref p ∧ y = .ref q ∧ SqT K H p xs ∧ SqT K H q ys ∧ xs.all flatV = true ∧ ys.all flatV = true ∧ Q (.bl (if b = true then eqLV xs ys else !eqLV xs ys)) H
theorem op_eqTF {X : Cx} (K : PySem.W.Frag) (hu : X.A.units < cLine) (hK : X.K = K := by rfl) : OpR X (compareOp .Eq) (rEqTF K true) := by
  subst hK
  intro pins s σ H x y v u Q I rx ry h
  obtain ⟨p, q, xs, ys, rfl, rfl, hp, hq, fx, fy, hQ⟩ := h
  cases (show v = Value.ref p from rx)
  cases (show u = Value.ref q from ry)
  obtain ⟨us, r1, p1, _⟩ := I.tuple hp
  obtain ⟨ws, r2, p2, _⟩ := I.tuple hq
  exact rcT p1 p2 r1 r2 fx fy hu _ _ _ _ ⟨.bl _, H, I, rfl, hQ⟩
/-- tuples of flat things, one after the other -/
inductive Tups (K : PySem.W.Frag) (H : Hp) : List V → List (List V) → Prop
  | nil : Tups K H [] []
  | cons {a : Addr} {xs : List V} {as : List V} {bs : List (List V)} : SqT K H a xs → xs.all flatV = true → Tups K H as bs → Tups K H (.ref a :: as) (xs :: bs)
def eqLL : List (List V) → List (List V) → Bool
  | [], [] => true
  | x :: xs, y :: ys => eqLV x y && eqLL xs ys
  | _, _ => false
def eFF (xs ys : List (List V)) (j : Nat) : Bool := match xs[j]?, ys[j]? with
  | some x, some y => eqLV x y
  | _, _ => true
theorem eFF_min : ∀ (xs ys : List (List V)), ((List.range (min xs.length ys.length)).all (eFF xs ys) && xs.length == ys.length) = eqLL xs ys
  | [], [] => rfl
  | [], _ :: _ => rfl
  | _ :: _, [] => rfl
  | x :: xs, y :: ys => by
    have ih := eFF_min xs ys
    rw [List.length_cons, List.length_cons, Nat.add_min_add_right, List.range_succ_eq_map, List.all_cons, List.all_map]
    show (eqLV x y && (List.range (min xs.length ys.length)).all (eFF (x :: xs) (y :: ys) ∘ Nat.succ) && (xs.length + 1 == ys.length + 1)) = (eqLV x y && eqLL xs ys)
    rw [← ih, Bool.and_assoc]
    congr 2
    simp
theorem Tups.length {K : PySem.W.Frag} {H : Hp} : ∀ {as : List V} {bs : List (List V)}, Tups K H as bs → as.length = bs.length
  | _, _, .nil => rfl
  | _, _, .cons _ _ t => congrArg (· + 1) t.length
theorem Tups.get {K : PySem.W.Frag} {H : Hp} : ∀ {as : List V} {bs : List (List V)} {i : Nat} {a : V}, Tups K H as bs → as[i]? = some a → ∃ p xs, a = .ref p ∧ bs[i]? = some xs ∧ SqT K H p xs ∧ xs.all flatV = true
  | _, _, 0, _, .cons h f _, e => ⟨_, _, (Option.some.inj e).symm, rfl, h, f⟩
  | _, _, i + 1, _, .cons _ _ t, e => t.get (i := i) e
theorem eqV_self {x : V} (h : flatV x = true) : eqV x x = true := by
  cases x <;> first | (simp [eqV]; done) | (simp [flatV] at h; done)
theorem eqLV_self : ∀ {xs : List V}, xs.all flatV = true → eqLV xs xs = true
  | [], _ => rfl
  | x :: xs, h => by
    rw [List.all_cons, Bool.and_eq_true] at h
    show (eqV x x && eqLV xs xs) = true
    rw [eqV_self h.1, eqLV_self h.2]
    rfl
theorem sqT_uniq {X : Cx} {pins : List (Addr × Obj)} {σ : L2.St} {H : Hp} {s : Shared} (I : Inv X pins σ H s) {p : Addr} {xs ys : List V} (h1 : SqT X.K H p xs) (h2 : SqT X.K H p ys) (fx : xs.all flatV = true) (fy : ys.all flatV = true) (A : Around) (hu : A.units < cLine) : ∃ us, Vals xs us ∧ s.heap.IsTuple p us.toArray ∧ Vals ys us := by
  obtain ⟨us, r1, p1, _⟩ := I.tuple h1
  obtain ⟨ws, r2, p2, _⟩ := I.tuple h2
  obtain ⟨o, ho, _, n, hd⟩ := p1
  obtain ⟨o2, ho2, _, n2, hd2⟩ := id p2
  rw [ho] at ho2
  obtain rfl := Option.some.inj ho2
  rw [hd] at hd2
  have e : us.toArray = ws.toArray := by injection hd2
  have e' : us = ws := by simpa using congrArg Array.toList e
  subst e'
  exact ⟨us, r1, p2, r2⟩
def rEqTT (K : PySem.W.Frag) (b : Bool) : R2 := fun x y H Q => ∃ p q xs ys as bs, x = .ref p ∧ y = .ref q ∧ SqT K H p xs ∧ SqT K H q ys ∧ Tups K H xs as ∧ Tups K H ys bs ∧ (∀ i j : Nat, xs[i]? = ys[j]? → as[i]? = bs[j]?) ∧ Q (.bl (if b = true then eqLL as bs else !eqLL as bs)) H
theorem op_eqTT {X : Cx} (K : PySem.W.Frag) (hu1 : X.A.units + 65 < cLine) (hK : X.K = K := by rfl) : OpR X (compareOp .Eq) (rEqTT K true) := by
  subst hK
  intro pins s σ H x y v u Q I rx ry h
  have hu : X.A.units < cLine := by omega
  obtain ⟨p, q, xs, ys, as, bs, rfl, rfl, hp, hq, ha, hb, hs, hQ⟩ := h
  cases (show v = Value.ref p from rx)
  cases (show u = Value.ref q from ry)
  obtain ⟨us, r1, p1, _⟩ := I.tuple hp
  obtain ⟨ws, r2, p2, _⟩ := I.tuple hq
  have k := SeqAt.RcAt.tuples (e := eFF as bs) p1 p2 hu (fun j h1 h2 => by
    have l1 : j < xs.length := by rw [r1.length]; simpa using h1
    have l2 : j < ys.length := by rw [r2.length]; simpa using h2
    obtain ⟨u1, hu1, ru1⟩ := r1.get (List.getElem?_eq_getElem l1)
    obtain ⟨u2, hu2, ru2⟩ := r2.get (List.getElem?_eq_getElem l2)
    obtain ⟨a, zs, ea, ez, ta, fa⟩ := ha.get (List.getElem?_eq_getElem l1)
    obtain ⟨b, ys', eb, ey, tb, fb⟩ := hb.get (List.getElem?_eq_getElem l2)
    have g1 : us.toArray[j] = u1 := by
      have h1' : j < us.length := by simpa using h1
      rw [List.getElem?_eq_getElem h1'] at hu1
      simpa using Option.some.inj hu1
    have g2 : ws.toArray[j] = u2 := by
      have h2' : j < ws.length := by simpa using h2
      rw [List.getElem?_eq_getElem h2'] at hu2
      simpa using Option.some.inj hu2
    rw [g1, g2]
    rw [ea] at ru1
    rw [eb] at ru2
    cases (show u1 = Value.ref a from ru1)
    cases (show u2 = Value.ref b from ru2)
    have ee : eFF as bs j = eqLV zs ys' := by unfold eFF; rw [ez, ey]
    rw [ee]
    by_cases hab : a = b
    · subst hab
      have := hs j j (by rw [List.getElem?_eq_getElem l1, List.getElem?_eq_getElem l2, ea, eb])
      rw [ez, ey] at this
      obtain rfl := Option.some.inj this
      rw [eqLV_self fa]
      exact SeqAt.EqAt.same _
    · obtain ⟨us', r1', p1', _⟩ := I.tuple ta
      obtain ⟨ws', r2', p2', _⟩ := I.tuple tb
      exact SeqAt.EqAt.of_refs hab (rcT p1' p2' r1' r2' fa fb (by show X.A.units + 1 < cLine; omega)))
  rw [List.size_toArray, List.size_toArray, ← r1.length, ← r2.length, ha.length, hb.length, eFF_min] at k
  exact k _ _ _ _ ⟨.bl _, H, I, rfl, hQ⟩
/-- x <= y and the like by an own method -/
def rOwnC (C C' : Addr) (sp : Sp) (E : XK) : R2 := fun x y H Q => ∃ a b dx dy fs gs, x = .ref a ∧ y = .ref b ∧ H a = some (.ins C dx fs) ∧ H b = some (.ins C' dy gs) ∧ sp [.ref a, .ref b] H Q E
theorem op_ownC {X : Cx} {CX : CXT} {C C' f : Addr} {n : Nat} {sp : Sp} {E : XK} (op : CmpOp) (F : FnR X.prog X.w X.K X.mg X.base CX n f sp) (hn : PySem.W.notFirst X.K C (.ref C') = true)
    (hs : PySem.W.findIn X.K (.ref C) (cmpInfo op).2.1 = some (some (.ref f))) (hf : PySem.W.isFn X.K (.ref f) = true) (hx : Passes CX X E) (hr : Room n X.A) (ho : compareOp op = richCompare op := by rfl) : OpR X (compareOp op) (rOwnC C C' sp E) := by
  intro pins s σ H x y v u Q I rx ry hq
  obtain ⟨a, b, dx, dy, fs, gs, rfl, rfl, ha, hb, h⟩ := hq
  cases rx
  cases ry
  obtain ⟨mA, J, _⟩ := ins_get I.hok ha
  obtain ⟨mB, J', _⟩ := ins_get I.hok hb
  obtain ⟨od, J, _⟩ := J.look
  obtain ⟨od', J', _⟩ := J'.look
  obtain ⟨m, hF⟩ := I.fr
  rw [ho]
  refine PySem.W.cmp_K (op := op) hr.units0 hF I.ok.mod.kin J J'.type hn hs hf ?_
  have r2 : Vals [V.ref a, V.ref b] [Value.ref a, Value.ref b] := .cons rfl (.cons rfl .nil)
  refine wpAny_call (codeAny_mono (run_fnR F hr hx I r2 h) fun r s' z => ?_)
  cases r with
  | error e => exact z
  | ok fl =>
    cases fl with
    | ret w =>
      obtain ⟨v, H1, I1, rv, q⟩ := z
      show PySem.W.CmpBack _ w s'
      cases w with
      | notImplemented => cases v <;> first | (cases rv; done) | (obtain ⟨_, z⟩ := rv; cases z)
      | _ => exact ⟨v, H1, I1, rv, q⟩
    | next => exact z.elim
    | brk => exact z.elim
    | cont => exact z.elim
/-- x in o by an own __contains__ that tells a bool -/
def rInO (C : Addr) (sp : Sp) (E : XK) : R2 := fun x y H Q => ∃ b dy gs, y = .ref b ∧ H b = some (.ins C dy gs) ∧ sp [.ref b, x] H (fun v H' => ∃ z, v = .bl z ∧ Q (.bl z) H') E
theorem op_inO {X : Cx} {CX : CXT} {C f : Addr} {n : Nat} {sp : Sp} {E : XK} (F : FnR X.prog X.w X.K X.mg X.base CX n f sp)
    (hs : PySem.W.findIn X.K (.ref C) "__contains__" = some (some (.ref f))) (hf : PySem.W.isFn X.K (.ref f) = true) (hx : Passes CX X E) (hr : Room n X.A) : OpR X (compareOp .In) (rInO C sp E) := by
  intro pins s σ H x y v u Q I rx ry hq
  obtain ⟨b, dy, gs, rfl, hb, h⟩ := hq
  cases ry
  obtain ⟨mB, J, _⟩ := ins_get I.hok hb
  obtain ⟨od, J, _⟩ := J.look
  obtain ⟨m, hF⟩ := I.fr
  show wpAny _ _ (contains (.ref b) v >>= fun z => pure (Value.bool z)) _ _ _
  refine wpAny_bind (PySem.W.contains_K hF I.ok.mod.kin J hs hf ?_)
  have r2 : Vals [V.ref b, x] [Value.ref b, v] := .cons rfl (.cons rx .nil)
  refine wpAny_call (codeAny_mono (run_fnR F hr hx I r2 h) fun r s' z => ?_)
  cases r with
  | error e => exact z
  | ok fl =>
    cases fl with
    | ret w =>
      obtain ⟨v, H1, I1, rv, zz, rfl, q⟩ := z
      cases rv
      cases zz <;> exact wpAny_pure (wpAny_pure ⟨.bl _, H1, I1, rfl, q⟩)
    | next => exact z.elim
    | brk => exact z.elim
    | cont => exact z.elim
end VX

set_option Elab.async false
set_option linter.all false
set_option maxRecDepth 100000
set_option maxHeartbeats 4000000
/-! # tuple * int and tuple + tuple, in every case; a walk over a list or a tuple -/
namespace GM
open PySem PySem.Spec PyProof.Rows
theorem mulW0 (l : Addr) (items : Array Value) (n : Nat) (dd : Option Addr) (sl : Array (Option Value)) (u : Tok) (h : items.isEmpty = false) :
  Meets (Builtin.«tuple.__mul__» { pos := [Value.ref l, Value.int 0 u] }) fun _ R s =>
                s.heap.get? l = some { cls := Value.type "tuple", dict := dd, data := Data.seq items n, slots := sl } ∧
                  R (Except.ok (Flow.ret (Value.ref s.heap.objs.size))) { s with heap := s.heap.push { cls := Value.type "tuple", data := Data.seq #[] } } := by
  refine Meets.of_wp fun prog w A R s hh => ?_
  obtain ⟨hl, hR⟩ := hh
  obtain ⟨hp, g, d, tk, os⟩ := s
  have f1 := AutoSeq1.idx_int
  wp_walk using wpAny_load' hl, wpAny_alloc'
  exact ⟨_, rfl, hR⟩
theorem mulW1 (l : Addr) (items : Array Value) (n : Nat) (dd : Option Addr) (sl : Array (Option Value)) (u : Tok) (h : items.isEmpty = false) :
  Meets (Builtin.«tuple.__mul__» { pos := [Value.ref l, Value.int 1 u] }) fun _ R s =>
                s.heap.get? l = some { cls := Value.type "tuple", dict := dd, data := Data.seq items n, slots := sl } ∧
                  R (Except.ok (Flow.ret (Value.ref l))) s := by
  refine Meets.of_wp fun prog w A R s hh => ?_
  obtain ⟨hl, hR⟩ := hh
  obtain ⟨hp, g, d, tk, os⟩ := s
  have f1 := AutoSeq1.idx_int
  wp_walk using wpAny_load' hl
  exact ⟨_, rfl, hR⟩
end GM
namespace VX
open PySem PySem.Spec PyProof.Rows L2
/-- tuple * int, 0 ≤ k -/
def rMulT (K : PySem.W.Frag) : R2 := fun x y H Q => ∃ l k xs, x = .ref l ∧ y = .int k ∧ SqT K H l xs ∧ xs ≠ [] ∧ 0 ≤ k ∧ k ≤ 1000 ∧ xs.length ≤ 1000 ∧ (k = 1 → Q (.ref l) H) ∧ (k ≠ 1 → ∀ p, H p = none → Q (.ref p) (upd H p (.tup (List.replicate k.toNat xs).flatten)))
theorem op_mulT {X : Cx} (K : PySem.W.Frag) (hK : X.K = K := by rfl) : OpR X (binaryOp .Mult) (rMulT K) := by
  subst hK
  intro pins s σ H x y v u Q I rx ry h
  obtain ⟨l, k, xs, rfl, rfl, hT, hne, h0, h1, hz, q1, q2⟩ := h
  by_cases k2 : 2 ≤ k
  · exact op_repT pins s σ H _ _ v u Q I rx ry ⟨l, k, xs, rfl, rfl, hT, hne, k2, h1, hz, q2 (by omega)⟩
  cases rx
  obtain ⟨t, rfl⟩ := ry
  obtain ⟨us, r1, p1, _⟩ := I.tuple hT
  obtain ⟨⟨cls, dd, data, sl⟩, ho, hc, n, hd⟩ := id p1
  simp only at hc hd
  subst hc hd
  have hemp : us.toArray.isEmpty = false := by
    cases r1 with
    | nil => exact absurd rfl hne
    | cons _ _ => rfl
  refine wpAny_binaryOp_repeat_ref (T := "tuple") (U := "int") (by decide) ⟨_, ho, rfl⟩ (fun s' => rfl) noFill_tuple_mul (by rfl) F.slot_int_rmul repeat_tuple int_index
    (call_meets F.slot_int_rmul rfl F.entry_int_rmul (F.args_int_rmul_2 _ _) (int_rmul_tuple k t l us.toArray n dd sl) ⟨ho, rfl, ⟨_, ho, rfl⟩, ?_⟩)
  rcases (show k = 0 ∨ k = 1 by omega) with rfl | rfl
  · refine call_meets F.slot_tuple_mul ⟨_, ho, rfl⟩ F.entry_tuple_mul (F.args_tuple_mul_2 _ _) (GM.mulW0 l us.toArray n dd sl t hemp) ⟨ho, ?_⟩
    refine ⟨.ref s.heap.objs.size, _, I.laid (o := .tup []) (t' := _) (fun b o e => Heap.get?_push_of_some _ e) (Nat.le_refl _) ?_, rfl, q2 (by omega) _ (I.hok.fresh (Nat.le_refl _))⟩
    exact ⟨by decide, [], .nil, ⟨_, Heap.get?_push_size s.heap rfl, rfl, 0, rfl⟩⟩
  · exact call_meets F.slot_tuple_mul ⟨_, ho, rfl⟩ F.entry_tuple_mul (F.args_tuple_mul_2 _ _) (GM.mulW1 l us.toArray n dd sl t hemp) ⟨ho, ⟨.ref l, H, I, rfl, q1 rfl⟩⟩
/-- t + u, in every case -/
def rCatA (K : PySem.W.Frag) : R2 := fun x y H Q => ∃ a b xs ys, x = .ref a ∧ y = .ref b ∧ SqT K H a xs ∧ SqT K H b ys ∧ xs.length + ys.length ≤ sizeLine ∧ (xs = [] → Q (.ref b) H) ∧ (xs ≠ [] → ys = [] → Q (.ref a) H) ∧ (xs ≠ [] → ys ≠ [] → ∀ p, H p = none → Q (.ref p) (upd H p (.tup (xs ++ ys))))
theorem op_catA {X : Cx} (K : PySem.W.Frag) (hK : X.K = K := by rfl) : OpR X (binaryOp .Add) (rCatA K) := by
  subst hK
  intro pins s σ H x y v u Q I rx ry h
  obtain ⟨a, b, xs, ys, rfl, rfl, hx, hy, hz, q0, q1, q2⟩ := h
  by_cases hne : xs = []
  · subst hne
    cases rx
    cases ry
    obtain ⟨us, r1, p1, _⟩ := I.tuple hx
    obtain ⟨ws, r2, p2, _⟩ := I.tuple hy
    obtain ⟨⟨cls, dd, data, sl⟩, ho, hc, n, hd⟩ := id p1
    obtain ⟨⟨cls2, dd2, data2, sl2⟩, ho2, hc2, n2, hd2⟩ := id p2
    simp only at hc hd hc2 hd2
    subst hc hd hc2 hd2
    cases r1
    exact concat_meets ⟨_, ho, rfl⟩ ⟨_, ho2, rfl⟩ noFill_tuple_add seq_tuple_add F.slot_tuple_add F.entry_tuple_add (F.args_tuple_add_2 _ _) (tuple_addW0 a b _ _ n n2 dd dd2 sl sl2 rfl) ⟨ho, ho2, ⟨.ref b, H, I, rfl, q0 rfl⟩⟩
  · exact op_catT pins s σ H _ _ v u Q I rx ry ⟨a, b, xs, ys, rfl, rfl, hx, hy, hne, hz, q1 hne, q2 hne⟩
/-- a walk over a list or a tuple -/
def SqX (K : PySem.W.Frag) (J : It) (H : Hp) (a : Addr) (xs : List V) : Prop := J = Itl K a ∧ SqL K H a xs ∨ J = Itt K a ∧ SqT K H a xs
def iSeq (K : PySem.W.Frag) (tl : TE) : TI := fun σ H R => tl σ H fun x H1 => ∃ a xs, x = V.ref a ∧ (SqL K H1 a xs ∨ SqT K H1 a xs) ∧ ∀ J, SqX K J H1 a xs → R J H1
theorem pi_seq {X : Cx} {tg l : Expr} {tl : TE} (K : PySem.W.Frag) (h : PE X l tl) (hK : X.K = K := by rfl) : PI X tg l (iSeq K tl) := by
  subst hK
  refine ⟨fun pins s σ H R I hw => ?_⟩
  have h2 := h.run pins s σ H _ I hw
  refine wpAny_mono h2 (fun v s1 z => ?_) fun _ _ x => x
  obtain ⟨y, H1, I1, ry, a, xs, rfl, hs, hR⟩ := z
  cases ry
  rcases hs with hs | hs
  · obtain ⟨its, rv, p, hz⟩ := I1.list hs
    exact wpAny_pyIter_list p.isList ⟨s1.heap.objs.size, [s1.heap.objs.size], (fun i h => h.IsListIter s1.heap.objs.size a i), Itl X.K a, H1, rfl, I1.kept fun b o e => Heap.get?_push_of_some _ e, turn_list a s1.heap.objs.size, ⟨_, Heap.get?_push_size s1.1 rfl, rfl, rfl⟩, fun b hb => by
      obtain rfl := List.mem_singleton.mp hb
      exact I1.fpOk (Nat.le_refl _) (I1.hok.fresh (Nat.le_refl _)), hR _ (.inl ⟨rfl, hs⟩)⟩
  · obtain ⟨its, rv, p, hz⟩ := I1.tuple hs
    exact wpAny_pyIter_tuple p ⟨s1.heap.objs.size, [s1.heap.objs.size], (fun i h => h.IsTupleIter s1.heap.objs.size a i), Itt X.K a, H1, rfl, I1.kept fun b o e => Heap.get?_push_of_some _ e, turn_tuple a s1.heap.objs.size, ⟨_, Heap.get?_push_size s1.1 rfl, rfl, rfl⟩, fun b hb => by
      obtain rfl := List.mem_singleton.mp hb
      exact I1.fpOk (Nat.le_refl _) (I1.hok.fresh (Nat.le_refl _)), hR _ (.inr ⟨rfl, hs⟩)⟩
theorem walk_seq {K : PySem.W.Frag} {J : It} {a : Addr} {xs : List V} : Walk J xs.length (fun H => SqX K J H a xs) (YAt xs) := by
  refine ⟨fun i H hi g => ?_, fun H g => ?_, fun i H x H' hi g hy => ?_⟩
  · rcases g with ⟨rfl, g⟩ | ⟨rfl, g⟩
    · exact walk_list.goes i H hi g
    · exact walk_tup.goes i H hi g
  · rcases g with ⟨rfl, g⟩ | ⟨rfl, g⟩
    · exact walk_list.stops H g
    · exact walk_tup.stops H g
  · rcases g with ⟨rfl, g⟩ | ⟨rfl, g⟩
    · exact walk_list.yields i H x H' hi g hy
    · exact walk_tup.yields i H x H' hi g hy
theorem SqX.mono {K : PySem.W.Frag} {J : It} {H H' : Hp} {a : Addr} {xs : List V} (h : SqX K J H a xs) (s : ∀ b o, H b = some o → H' b = some o) : SqX K J H' a xs := by
  rcases h with ⟨e, h⟩ | ⟨e, h⟩
  · refine .inl ⟨e, ?_⟩
    rcases h with (h | ⟨o, h⟩) | h
    · exact .inl (.inl (s _ _ h))
    · exact .inl (.inr ⟨o, s _ _ h⟩)
    · exact .inr h
  · refine .inr ⟨e, ?_⟩
    rcases h with (h | ⟨o, h⟩) | h
    · exact .inl (.inl (s _ _ h))
    · exact .inl (.inr ⟨o, s _ _ h⟩)
    · exact .inr h
theorem SqX.same {K : PySem.W.Frag} {J : It} {H H' : Hp} {a : Addr} {xs : List V} (h : SqX K J H a xs) (s : L2.Same H H') : SqX K J H' a xs := h.mono s
theorem SqX.upd {K : PySem.W.Frag} {J : It} {H : Hp} {a D : Addr} {o : HO} {xs : List V} (h : SqX K J H a xs) (hD : H D = none) : SqX K J (L2.upd H D o) a xs := h.mono fun b u e => by
  rw [upd_ne (ne_of_none e hD)]
  exact e
/-- a for over a list or a tuple -/
theorem for_seq {K : PySem.W.Frag} {J : It} {a : Addr} {xs : List V} {g : TG} {tb : TS} {D : Ends} {σ : L2.St} {H : Hp} (Pv : Nat → L2.St → Hp → Prop) (h0 : Pv 0 σ H) (hl : ∀ i σ H, i ≤ xs.length → Pv i σ H → SqX K J H a xs)
    (hs : ∀ i x σ H, xs[i]? = some x → Pv i σ H → g x σ H fun σ2 H2 => tb { D with nx := Pv (i + 1), ct := Pv (i + 1), bk := D.nx } σ2 H2) (hd : ∀ σ H, Pv xs.length σ H → D.nx σ H) :
    ∃ W : Nat → Nat → L2.St → Hp → Prop, (∃ m, W 0 m σ H) ∧ ∀ i m σ H, W i m σ H →
      (J.stop i H ∧ D.nx σ H) ∨ (J.go i H ∧ ∃ N : L2.St → Hp → Prop, (∀ σ' H', N σ' H' → ∃ m', m' < m ∧ W (i + 1) m' σ' H') ∧ ∀ x H', J.yld i H x H' → g x σ H' fun σ2 H2 => tb { D with nx := N, ct := N, bk := D.nx } σ2 H2) :=
  for_it walk_seq Pv h0 hl (fun i x σ H H' _ p y => by
    obtain ⟨rfl, y⟩ := y
    exact hs i x σ _ y p) hd
end VX

set_option Elab.async false
set_option linter.all false
set_option maxRecDepth 100000
set_option maxHeartbeats 4000000
/-! # the facts under the parts' names -/
namespace KV
open PySem PySem.Spec PyProof.Rows L2 VX
section
variable {K : PySem.W.Frag} {mg : Str → Option Value}
/-- all that a walk knows -/
structure TX (K : PySem.W.Frag) (mg : Str → Option Value) : Prop extends Txt K mg where
  dd : Dfs K
theorem TX.def (T : TX K mg) (x : Str) (i : Nat) (h : (x, i) ∈ defs := by decide +kernel) : ∃ fd, FnP K x i (He.ga K x) fd := T.dd.d (x, i) h
end
end KV

set_option linter.all false
/-! # marks on a kind (no model): a kind is the list of its signs -/
namespace KW
def isW (x y : Nat) : Bool := x == y || (x == 48 || y == 49)
def sumM (x y : Nat) : Nat := if isW x y then y else if isW y x then x else 49
def comM (x y : Nat) : Nat := if isW x y then x else if isW y x then y else 48
def hand (c : Nat) : Bool := c == 97 || c == 98 || c == 99
def PL : List Nat := [112, 108, 97, 110, 101]
def letM (c : Nat) (k : List Nat) : Nat := if k = PL then c else if c ∈ k then 49 else 48
/-- the program's mark -/
def mk (k : List Nat) : Tr → Nat
  | .lf c => if hand c then letM c k else c
  | .nd c l r => if c = 43 then sumM (mk k l) (mk k r) else comM (mk k l) (mk k r)
def WF : Tr → Bool
  | .lf c => leafC c
  | .nd c l r => jointC c && WF l && WF r
def dep : Tr → Nat
  | .lf _ => 0
  | .nd _ l r => max (dep l) (dep r) + 1
/-- the law's mark of a plane -/
def lp : Tr → Nat
  | .lf c => c
  | .nd c l r => if lp l = lp r then lp l else
      if lp l = (if c = 43 then 48 else 49) ∨ lp r = (if c = 43 then 48 else 49) then (if lp l = (if c = 43 then 48 else 49) then lp r else lp l) else (if c = 43 then 49 else 48)
/-- the law's mark of a line -/
def li (k : List Nat) : Tr → Int
  | .lf c => if c = 49 ∨ (hand c = true ∧ c ∈ k) then 1 else 0
  | .nd c l r => if c = 43 then (if li k l + li k r > 0 then 1 else 0) else li k l * li k r
def five (c : Nat) : Bool := c == 48 || c == 49 || c == 97 || c == 98 || c == 99
theorem leaf_five {c : Nat} (h : leafC c = true) : five c = true := by
  simp only [leafC, five, Bool.or_eq_true, beq_iff_eq] at *
  omega
theorem sum_five : ∀ {x y : Nat}, five x = true → five y = true → five (sumM x y) = true := by
  intro x y hx hy
  unfold sumM
  split
  · exact hy
  · split
    · exact hx
    · rfl
theorem com_five : ∀ {x y : Nat}, five x = true → five y = true → five (comM x y) = true := by
  intro x y hx hy
  unfold comM
  split
  · exact hx
  · split
    · exact hy
    · rfl
theorem mk_five {k : List Nat} : ∀ {t : Tr}, WF t = true → five (mk k t) = true
  | .lf c, h => by
    simp only [mk]
    split
    · unfold letM
      split
      · exact leaf_five h
      · split <;> rfl
    · exact leaf_five h
  | .nd c l r, h => by
    simp only [WF, Bool.and_eq_true] at h
    simp only [mk]
    split
    · exact sum_five (mk_five h.1.2) (mk_five h.2)
    · exact com_five (mk_five h.1.2) (mk_five h.2)
theorem joint_two {c : Nat} (h : jointC c = true) : c = 43 ∨ c = 38 := by simpa [jointC] using h
theorem five_cases {c : Nat} (h : five c = true) : c = 48 ∨ c = 49 ∨ c = 97 ∨ c = 98 ∨ c = 99 := by simpa [five, or_assoc] using h
theorem lp_sum {x y : Nat} (hx : five x = true) (hy : five y = true) : (if x = y then x else if x = 48 ∨ y = 48 then (if x = 48 then y else x) else 49) = sumM x y := by
  rcases five_cases hx with rfl | rfl | rfl | rfl | rfl <;> rcases five_cases hy with rfl | rfl | rfl | rfl | rfl <;> decide
theorem lp_com {x y : Nat} (hx : five x = true) (hy : five y = true) : (if x = y then x else if x = 49 ∨ y = 49 then (if x = 49 then y else x) else 48) = comM x y := by
  rcases five_cases hx with rfl | rfl | rfl | rfl | rfl <;> rcases five_cases hy with rfl | rfl | rfl | rfl | rfl <;> decide
theorem lp_mk : ∀ {t : Tr}, WF t = true → lp t = mk PL t
  | .lf c, h => by
    simp only [lp, mk, letM, if_true]
    split <;> rfl
  | .nd c l r, h => by
    simp only [WF, Bool.and_eq_true] at h
    have e1 := lp_mk h.1.2
    have e2 := lp_mk h.2
    have f1 := mk_five (k := PL) h.1.2
    have f2 := mk_five (k := PL) h.2
    simp only [lp, mk, e1, e2]
    rcases joint_two h.1.1 with rfl | rfl
    · simpa using lp_sum f1 f2
    · simpa using lp_com f1 f2
def bit (c : Nat) : Prop := c = 48 ∨ c = 49
theorem li_mk {k : List Nat} (hk : k ≠ PL) : ∀ {t : Tr}, WF t = true → bit (mk k t) ∧ li k t = (mk k t : Int) - 48
  | .lf c, h => by
    simp only [li, mk, letM, if_neg hk]
    by_cases hh : hand c = true
    · rw [if_pos hh]
      have c49 : c ≠ 49 := by
        intro e; subst e; cases hh
      by_cases hm : c ∈ k
      · rw [if_pos hm, if_pos (.inr ⟨hh, hm⟩)]
        exact ⟨.inr rfl, by decide⟩
      · rw [if_neg hm, if_neg (by simp [c49, hm])]
        exact ⟨.inl rfl, by decide⟩
    · rw [if_neg hh]
      have hc : c = 48 ∨ c = 49 := by
        simp only [WF, leafC, hand, Bool.or_eq_true, beq_iff_eq] at h hh
        omega
      rcases hc with rfl | rfl
      · exact ⟨.inl rfl, by simp [hh]⟩
      · exact ⟨.inr rfl, by simp⟩
  | .nd c l r, h => by
    simp only [WF, Bool.and_eq_true] at h
    obtain ⟨b1, e1⟩ := li_mk hk h.1.2
    obtain ⟨b2, e2⟩ := li_mk hk h.2
    simp only [li, mk, e1, e2]
    generalize mk k l = x at *
    generalize mk k r = y at *
    rcases joint_two h.1.1 with rfl | rfl <;> rcases b1 with rfl | rfl <;> rcases b2 with rfl | rfl <;> exact ⟨by unfold bit; decide, by decide⟩
/-- the law's within -/
def liW (k : List Nat) (s t : Tr) : Bool := if k = PL then isW (lp s) (lp t) else decide (li k s ≤ li k t)
theorem liW_eq {k : List Nat} {s t : Tr} (hs : WF s = true) (ht : WF t = true) : liW k s t = isW (mk k s) (mk k t) := by
  unfold liW
  by_cases hk : k = PL
  · subst hk
    rw [if_pos rfl, lp_mk hs, lp_mk ht]
  · rw [if_neg hk]
    obtain ⟨b1, e1⟩ := li_mk hk hs
    obtain ⟨b2, e2⟩ := li_mk hk ht
    rw [e1, e2]
    generalize mk k s = x at *
    generalize mk k t = y at *
    rcases b1 with rfl | rfl <;> rcases b2 with rfl | rfl <;> decide
/-- the nine kinds -/
def kinds : List (List Nat) := [[], [97], [98], [99], [97, 98], [97, 99], [98, 99], [97, 98, 99], PL]
/-- the first kind at which two words part, go beyond -/
def partK (s t : Tr) : Option (List Nat) := kinds.find? fun k => mk k s != mk k t
def gapK (s t : Tr) : Option (List Nat) := kinds.find? fun k => !isW (mk k s) (mk k t)
end KW

set_option Elab.async false
set_option linter.all false
set_option maxRecDepth 100000
set_option maxHeartbeats 4000000
/-! # the facts under the words' names -/
namespace KX
open PySem PySem.Spec PyProof.Rows L2 VX
open KV (top FnP defs iIsInt iHasAll iFits iWord iWithin iSumM iComM iLetM iMark iWon iFirstB iIsBr iWonAll iOpenK iFacts iTree iLWord iWords)
def kindV : List V := [.str "", .str "a", .str "b", .str "c", .str "ab", .str "ac", .str "bc", .str "abc", .str "plane"]
abbrev iTake := KV.iLTake
abbrev iCell := KV.iLCell
abbrev iBox := KV.iLBox
abbrev wC (K : PySem.W.Frag) : Addr := He.ga K "Word"
abbrev propG (K : PySem.W.Frag) (m : Str) : Addr := VY.pG K (wC K) m
abbrev fC (K : PySem.W.Frag) : Addr := He.ga K "Facts"
abbrev cC (K : PySem.W.Frag) : Addr := He.ga K "Clash"
abbrev fpropG (K : PySem.W.Frag) (m : Str) : Addr := VY.pG K (fC K) m
/-- what a walk knows, for words -/
structure Txt (K : PySem.W.Frag) (mg : Str → Option Value) : Prop where
  t : KV.Txt K mg
section
variable {K : PySem.W.Frag} {mg : Str → Option Value}
theorem Txt.fr (T : Txt K mg) (x : Str) (h : x ∈ KV.free := by decide +kernel) : mg x = none := T.t.free x h
theorem Txt.df (T : Txt K mg) (x : Str) (i : Nat) (h : (x, i) ∈ defs := by decide +kernel) : mg x = some (.ref (He.ga K x)) := T.t.dfs (x, i) h
theorem Txt.leaves (T : Txt K mg) : mg "LEAVES" = some (.ref (He.ga K "LEAVES")) := T.t.g_LEAVES
theorem Txt.joints (T : Txt K mg) : mg "JOINTS" = some (.ref (He.ga K "JOINTS")) := T.t.g_JOINTS
theorem Txt.hands (T : Txt K mg) : mg "HANDS" = some (.ref (He.ga K "HANDS")) := T.t.g_HANDS
theorem Txt.kinds (T : Txt K mg) : mg "KINDS" = some (.ref (He.ga K "KINDS")) := T.t.g_KINDS
theorem Txt.plane (T : Txt K mg) : ∃ t, mg "PLANE" = some (.str "plane" t) := T.t.s_PLANE
theorem Txt.ltup (T : Txt K mg) : ∀ H, SqT K H (He.ga K "LEAVES") [.str "a", .str "b", .str "c", .str "0", .str "1"] := T.t.t_LEAVES
theorem Txt.jtup (T : Txt K mg) : ∀ H, SqT K H (He.ga K "JOINTS") [.str "+", .str "&"] := T.t.t_JOINTS
theorem Txt.htup (T : Txt K mg) : ∀ H, SqT K H (He.ga K "HANDS") [.str "a", .str "b", .str "c"] := T.t.t_HANDS
theorem Txt.ktup (T : Txt K mg) : ∀ H, SqT K H (He.ga K "KINDS") [.str "", .str "a", .str "b", .str "c", .str "ab", .str "ac", .str "bc", .str "abc", .str "plane"] := T.t.t_KINDS
theorem Txt.word (T : Txt K mg) : mg "Word" = some (.ref (He.ga K "Word")) := T.t.g_Word
theorem Txt.cls (T : Txt K mg) : Cls K (He.ga K "Word") := T.t.c_Word
theorem Txt.fs (T : Txt K mg) : NoAttr K (He.ga K "Word") "_sign" := T.t.a_Word_sign
theorem Txt.fp (T : Txt K mg) : NoAttr K (He.ga K "Word") "_parts" := T.t.a_Word_parts
theorem Txt.mks (T : Txt K mg) : Mk K (He.ga K "Word") (He.ma K (He.ga K "Word") "__init__") := T.t.k_Word
theorem Txt.ps (T : Txt K mg) : PropOf K (He.ga K "Word") "sign" (He.ma K (He.ga K "Word") "sign") (VY.pG K (He.ga K "Word") "sign") := T.t.p_Word_sign
theorem Txt.pp (T : Txt K mg) : PropOf K (He.ga K "Word") "parts" (He.ma K (He.ga K "Word") "parts") (VY.pG K (He.ga K "Word") "parts") := T.t.p_Word_parts
theorem Txt.sure (T : Txt K mg) : ∃ t, mg "SURE" = some (.str "sure" t) := T.t.s_SURE
theorem Txt.barred (T : Txt K mg) : ∃ t, mg "BARRED" = some (.str "barred" t) := T.t.s_BARRED
theorem Txt.opn (T : Txt K mg) : ∃ t, mg "OPEN" = some (.str "open" t) := T.t.s_OPEN
theorem Txt.facts (T : Txt K mg) : mg "Facts" = some (.ref (He.ga K "Facts")) := T.t.g_Facts
theorem Txt.fcls (T : Txt K mg) : Cls K (He.ga K "Facts") := T.t.c_Facts
theorem Txt.ffw (T : Txt K mg) : NoAttr K (He.ga K "Facts") "_within" := T.t.a_Facts_within
theorem Txt.ffn (T : Txt K mg) : NoAttr K (He.ga K "Facts") "_not_within" := T.t.a_Facts_not_within
theorem Txt.fmk (T : Txt K mg) : Mk K (He.ga K "Facts") (He.ma K (He.ga K "Facts") "__init__") := T.t.k_Facts
theorem Txt.clash (T : Txt K mg) : mg "Clash" = some (.ref (He.ga K "Clash")) := T.t.g_Clash
theorem Txt.cx (T : Txt K mg) : PySem.W.excIn K (cC K) He.veBase "ValueError.__new__" = true := T.t.x_Clash.x
theorem Txt.ck (T : Txt K mg) : PySem.W.keepIn K (.ref (cC K)) = true := T.t.x_Clash.k
theorem Txt.cb (T : Txt K mg) : PySem.W.subIn K (.ref (cC K)) (.type "BaseException") = some true := T.t.x_Clash.b
theorem Txt.ct (T : Txt K mg) : PySem.W.typeIn K (.ref (cC K)) = some (.type "type") := T.t.x_Clash.t
end
end KX

set_option Elab.async false
set_option linter.all false
set_option maxRecDepth 100000
set_option maxHeartbeats 4000000
/-! # words.py: fits, Word -/
namespace KX
open PySem PySem.Spec PyProof.Rows L2 VX KW
open KV (top FnP defs iIsInt iHasAll iFits iWord iWithin iSumM iComM iLetM iMark iWon iFirstB iIsBr iWonAll iOpenK iFacts iTree iLWord iWords)
section
variable {P : Program} {w : World} {K : PySem.W.Frag} {mg : Str → Option Value} {base : Heap} {f : Addr} {fd : FuncData}
/-- a text of one sign -/
abbrev one (c : Nat) : Str := ⟨#[c]⟩
theorem one_eq {c d : Nat} : (one c = one d) ↔ c = d := by
  constructor
  · intro h
    have := congrArg (fun s : Str => s.cps.toList) h
    simpa using this
  · rintro rfl; rfl
theorem dec_one {c d : Nat} : decide (V.str (one c) = V.str (one d)) = (c == d) := by
  rw [Bool.eq_iff_iff]
  simp only [decide_eq_true_eq, beq_iff_eq]
  constructor
  · intro h
    exact one_eq.mp (by injection h)
  · rintro rfl; rfl
theorem beq_one {c d : Nat} : (one d == one c) = (c == d) := by
  rw [Bool.eq_iff_iff, beq_iff_eq, beq_iff_eq, one_eq]
  exact eq_comm
theorem in_leaves (c : Nat) : inV (V.str (one c)) [V.str "a", V.str "b", V.str "c", V.str "0", V.str "1"] = leafC c := by
  show ((one 97 == one c) || ((one 98 == one c) || ((one 99 == one c) || ((one 48 == one c) || ((one 49 == one c) || false))))) = _
  simp only [beq_one, leafC, Bool.or_false, Bool.or_assoc]
theorem in_joints (c : Nat) : inV (V.str (one c)) [V.str "+", V.str "&"] = jointC c := by
  show ((one 43 == one c) || ((one 38 == one c) || false)) = _
  simp only [beq_one, jointC, Bool.or_false]
/-! ### fits -/
def spFits : Sp := fun vs H Q _ => ∃ (c : Nat) (m : Int), vs = [.str (one c), .int m] ∧ Q (.bl (if leafC c = true then decide (m = 0) else jointC c && decide (m = 2))) H
theorem sc_fits : FnScope ["sign", "many"] ["sign", "many"] (defScope (top iFits)) := ⟨rfl, rfl, rfl, by decide +kernel, rfl, by decide +kernel, by decide +kernel⟩
theorem ok_fits (F : FnP K "fits" iFits f fd) (T : Txt K mg) : FnOk P w K mg base CX0 1 f fd ["sign", "many"] spFits := by
  refine F.ok sc_fits (fun vs H Q E h => ?_) (fun cdv A outer s H vs Q E hr h => ?_)
  · obtain ⟨c, m, rfl, _⟩ := h
    rfl
  · obtain ⟨c, m, rfl, k⟩ := h
    refine ⟨_, PSs.nox (pss_cons (ps_if (pt_cmpR op_in_seq (pv 0) (pe_glob (v := .ref (He.ga K "LEAVES")) (by rfl) T.leaves rfl) (by rfl)) (pss_one (ps_ret (pe_cmp (pc_eqI (pv 1) pe_int) rfl))) pss_nil)
      (pss_one (ps_ret (pe_and (pe_cmpR op_in_seq (pv 0) (pe_glob (v := .ref (He.ga K "JOINTS")) (by rfl) T.joints rfl) (by rfl)) (pe_one (pe_cmp (pc_eqI (pv 1) pe_int) rfl)))))), ?_⟩
    refine ⟨_, rfl, _, _, rfl, .inr (T.ltup _), rfl, rfl, _, rfl, ?_⟩
    simp only [Bool.false_eq_true, if_false, in_leaves]
    refine ite2 (fun hc => ?_) (fun hc => ?_)
    · rw [if_pos hc] at k
      exact ⟨_, rfl, _, _, rfl, rfl, k⟩
    · rw [if_neg hc] at k
      refine ⟨_, rfl, _, _, rfl, .inr (T.jtup _), rfl, rfl, _, rfl, ?_⟩
      simp only [Bool.false_eq_true, if_false, in_joints]
      cases hj : jointC c with
      | false =>
        rw [hj] at k
        exact iteF k
      | true =>
        rw [hj] at k
        exact iteT ⟨_, rfl, _, _, rfl, rfl, k⟩
abbrev sWI : Stmt := inClass (top iWord) 0
abbrev sSg : Stmt := inClass (top iWord) 2
abbrev sPa : Stmt := inClass (top iWord) 3
def fitB (c m : Nat) : Bool := if leafC c = true then decide (m = 0) else jointC c && decide (m = 2)
/-- the word at x: its sign, its parts -/
def IsWd (K : PySem.W.Frag) (H : Hp) (x : Addr) (c : Nat) (xs : List V) : Prop := ∃ dx a, H x = some (.ins (wC K) dx [("_sign", .str (one c)), ("_parts", .ref a)]) ∧ SqT K H a xs
theorem SqT.same {H H' : Hp} {a : Addr} {xs : List V} (s : Same H H') (h : SqT K H a xs) : SqT K H' a xs := by
  rcases h with (h | ⟨o, h⟩) | h
  · exact .inl (.inl (s _ _ h))
  · exact .inl (.inr ⟨o, s _ _ h⟩)
  · exact .inr h
theorem IsWd.same {H H' : Hp} {x : Addr} {c : Nat} {xs : List V} (s : Same H H') (h : IsWd K H x c xs) : IsWd K H' x c xs := by
  obtain ⟨dx, a, h1, h2⟩ := h
  exact ⟨dx, a, s _ _ h1, SqT.same s h2⟩
theorem seqT_keep {H H' : Hp} {x a C dx : Addr} {fs : List (Str × V)} {xs : List V} (hx : H x = some (.ins C dx fs)) (k : ∀ b o, H b = some o → b ≠ x → H' b = some o) (h : SqT K H a xs) : SqT K H' a xs := by
  rcases h with (h | ⟨o, h⟩) | h
  · exact .inl (.inl (k _ _ h (ne_of h hx (by intro z; cases z))))
  · exact .inl (.inr ⟨o, k _ _ h (ne_of h hx (by intro z; cases z))⟩)
  · exact .inr h
theorem seqL_keep {H H' : Hp} {x a C dx : Addr} {fs : List (Str × V)} {xs : List V} (hx : H x = some (.ins C dx fs)) (k : ∀ b o, H b = some o → b ≠ x → H' b = some o) (h : SqL K H a xs) : SqL K H' a xs := by
  rcases h with (h | ⟨o, h⟩) | h
  · exact .inl (.inl (k _ _ h (ne_of h hx (by intro z; cases z))))
  · exact .inl (.inr ⟨o, k _ _ h (ne_of h hx (by intro z; cases z))⟩)
  · exact .inr h
def spWI (K : PySem.W.Frag) : Sp := fun vs H Q _ => ∃ (x : Addr) (c : Nat) (a : Addr) (xs : List V) (dx : Addr), vs = [.ref x, .str (one c), .ref a] ∧ H x = some (.ins (wC K) dx []) ∧ (SqL K H a xs ∨ SqT K H a xs) ∧ fitB c xs.length = true ∧ xs.length ≤ 1000 ∧
  ∀ H', (∀ b o, H b = some o → b ≠ x → H' b = some o) → IsWd K H' x c xs → Q .non H'
theorem sc_wi : FnScope ["self", "sign", "parts"] ["self", "sign", "parts"] (defScope sWI) := ⟨rfl, rfl, rfl, by decide +kernel, rfl, by decide +kernel, by decide +kernel⟩
theorem ok_wi {dvs : List V} {fd1 : FuncData} (F : FunD K "__init__" "Word.__init__" (defArgs sWI) (defBody sWI) (defScope sWI) dvs [] f fd) (T : Txt K mg) (F1 : FnP K "fits" iFits (He.ga K "fits") fd1) : FnOk P w K mg base CX0 2 f fd ["self", "sign", "parts"] (spWI K) := by
  have G1 : FnOk P w K mg base CX0 1 _ fd1 ["sign", "many"] spFits := ok_fits F1 T
  have B1 : Binds K fd1 ["sign", "many"] [] := F1.bindsN fun _ _ _ _ _ _ us hl => match us, hl with | [_, _], _ => rfl
  refine F.ok sc_wi (fun vs H Q E h => ?_) (fun cdv A outer s H vs Q E hr h => ?_)
  · obtain ⟨x, c, a, xs, dx, rfl, _⟩ := h
    rfl
  · obtain ⟨x, c, a, xs, dx, rfl, hx, hs, hf, hl, k⟩ := h
    refine ⟨_, PSs.nox (pss_cons (ps_if (pt_not (pt_val (pe_call G1 hr (by rfl) (T.df "fits" iFits) F1.kp B1 .nil pass0 (pa_cons (pv 1) (pa_cons (pe_callB call_len_seq (by rfl) (T.fr "len") boot_len (pa_cons (pv 2) pa_nil)) pa_nil))))) (pss_one ps_never) pss_nil)
      (pss_cons (ps_fld (pv 0) (pv 1) rfl)
      (pss_one (ps_fld (pv 0) (pe_callTy call_tuple_of (by rfl) (T.fr "tuple") (by decide +kernel) (pa_cons (pv 2) pa_nil)) rfl)))), ?_⟩
    refine ⟨_, rfl, _, rfl, a, xs, rfl, hs, c, (xs.length : Nat), rfl, _, rfl, ?_⟩
    have e : (if leafC c = true then decide ((xs.length : Int) = 0) else jointC c && decide ((xs.length : Int) = 2)) = true := by
      have q := hf
      unfold fitB at q
      have e1 : decide ((xs.length : Int) = 0) = decide (xs.length = 0) := decide_eq_decide.mpr (by omega)
      have e2 : decide ((xs.length : Int) = 2) = decide (xs.length = 2) := decide_eq_decide.mpr (by omega)
      rwa [← e1, ← e2] at q
    rw [e]
    refine iteF ?_
    refine ⟨_, rfl, _, rfl, x, _, dx, [], rfl, hx, T.cls, T.fs, by decide, ?_⟩
    have hx1 : upd H x (.ins (wC K) dx [("_sign", .str (one c))]) x = some (.ins (wC K) dx [("_sign", .str (one c))]) := upd_same
    have k1 : ∀ b o, H b = some o → b ≠ x → upd H x (.ins (wC K) dx [("_sign", .str (one c))]) b = some o := fun b o q ne => by rw [upd_ne ne]; exact q
    rcases hs with hs | hs
    · refine ⟨_, rfl, a, xs, rfl, .inl ⟨seqL_keep hx k1 hs, fun t ht => ?_⟩⟩
      have tx : x ≠ t := ne_of_none hx1 ht
      refine ⟨_, rfl, x, _, dx, _, rfl, (by rw [upd_ne tx]; exact hx1), T.cls, T.fp, (by show 1 < 1000; decide), ?_⟩
      refine k _ (fun b o q ne => ?_) ⟨dx, t, upd_same, .inl (.inl (by rw [upd_ne (Ne.symm tx), upd_same]))⟩
      have q1 := k1 b o q ne
      rw [upd_ne ne, upd_ne (ne_of_none q1 ht)]
      exact q1
    · refine ⟨_, rfl, a, xs, rfl, .inr ⟨seqT_keep hx k1 hs, ?_⟩⟩
      refine ⟨_, rfl, x, _, dx, _, rfl, hx1, T.cls, T.fp, (by show 1 < 1000; decide), ?_⟩
      rw [upd_upd]
      have k2 : ∀ b o, H b = some o → b ≠ x → upd H x (.ins (wC K) dx (putF "_parts" (V.ref a) [("_sign", .str (one c))])) b = some o := fun b o q ne => by rw [upd_ne ne]; exact q
      exact k _ k2 ⟨dx, a, upd_same, seqT_keep hx k2 hs⟩
/-! ### sign, parts -/
def spGetS (K : PySem.W.Frag) : Sp := fun vs H Q _ => ∃ (x : Addr) (c : Nat) (xs : List V), vs = [.ref x] ∧ IsWd K H x c xs ∧ Q (.str (one c)) H
def spGetP (K : PySem.W.Frag) : Sp := fun vs H Q _ => ∃ (x : Addr) (c : Nat) (xs : List V), vs = [.ref x] ∧ IsWd K H x c xs ∧ ∀ a, SqT K H a xs → Q (.ref a) H
theorem sc_gets : FnScope ["self"] ["self"] (defScope sSg) := ⟨rfl, rfl, rfl, by decide +kernel, rfl, by decide +kernel, by decide +kernel⟩
theorem sc_getp : FnScope ["self"] ["self"] (defScope sPa) := ⟨rfl, rfl, rfl, by decide +kernel, rfl, by decide +kernel, by decide +kernel⟩
theorem ok_gets (F : FunD K "sign" "Word.sign" (defArgs sSg) (defBody sSg) (defScope sSg) [] [] f fd) (T : Txt K mg) : FnOk P w K mg base CX0 1 f fd ["self"] (spGetS K) := by
  refine F.ok sc_gets (fun vs H Q E h => ?_) (fun cdv A outer s H vs Q E hr h => ?_)
  · obtain ⟨x, c, xs, rfl, _⟩ := h
    rfl
  · obtain ⟨x, c, xs, rfl, ⟨dx, a, h1, h2⟩, k⟩ := h
    exact ⟨_, PSs.nox (pss_one (ps_ret (pe_fld (pv 0) rfl))), _, rfl, x, _, dx, _, .str (one c), rfl, h1, T.cls, T.fs, rfl, k⟩
theorem ok_getp (F : FunD K "parts" "Word.parts" (defArgs sPa) (defBody sPa) (defScope sPa) [] [] f fd) (T : Txt K mg) : FnOk P w K mg base CX0 1 f fd ["self"] (spGetP K) := by
  refine F.ok sc_getp (fun vs H Q E h => ?_) (fun cdv A outer s H vs Q E hr h => ?_)
  · obtain ⟨x, c, xs, rfl, _⟩ := h
    rfl
  · obtain ⟨x, c, xs, rfl, ⟨dx, a, h1, h2⟩, k⟩ := h
    exact ⟨_, PSs.nox (pss_one (ps_ret (pe_fld (pv 0) rfl))), _, rfl, x, _, dx, _, .ref a, rfl, h1, T.cls, T.fp, rfl, k a h2⟩
/-! ### making words -/
structure Wif (K : PySem.W.Frag) (fdI : FuncData) (dv : V) (fd1 : FuncData) : Prop where
  fi : FunD K "__init__" "Word.__init__" (defArgs sWI) (defBody sWI) (defScope sWI) [dv] [] (He.ma K (wC K) "__init__") fdI
  ft : FnP K "fits" iFits (He.ga K "fits") fd1
  dv : ∃ a, dv = .ref a ∧ ∀ H, SqT K H a []
theorem Wif.b0 {fdI fd1 : FuncData} {dv : V} (Z : Wif K fdI dv fd1) : ∃ ds, Vals [dv] ds ∧ Binds K fdI ["self", "sign", "parts"] ds := by
  obtain ⟨ds, h1, h2⟩ := Z.fi.binds1 (ps := ["self", "sign", "parts"]) 2 0 (by simp) (by simp) fun T kV doc pm an cdv ct us its hl hi => by
    match us, its, hl, hi with
    | [a, b], [e], _, _ => exact ⟨_, rfl, rfl⟩
  exact ⟨ds, h1, h2⟩
theorem Wif.b1 {fdI fd1 : FuncData} {dv : V} (Z : Wif K fdI dv fd1) : Binds K fdI ["self", "sign", "parts"] [] := by
  obtain ⟨ds, h1, h2⟩ := Z.fi.binds1 (ps := ["self", "sign", "parts"]) 3 1 (by simp) (by simp) fun T kV doc pm an cdv ct us its hl hi => by
    match us, its, hl, hi with
    | [a, b, c], [e], _, _ => exact ⟨_, rfl, rfl⟩
  cases h1
  exact h2
/-- the tree of the word at x -/
def IsTr (K : PySem.W.Frag) (H : Hp) : Addr → Tr → Prop
  | x, .lf c => leafC c = true ∧ IsWd K H x c []
  | x, .nd c l r => jointC c = true ∧ ∃ y z, IsWd K H x c [.ref y, .ref z] ∧ IsTr K H y l ∧ IsTr K H z r
theorem IsTr.same {H H' : Hp} (s : Same H H') : ∀ {t : Tr} {x : Addr}, IsTr K H x t → IsTr K H' x t
  | .lf _, _, h => ⟨h.1, h.2.same s⟩
  | .nd _ _ _, _, h => by
    obtain ⟨j, y, z, h1, h2, h3⟩ := h
    exact ⟨j, y, z, h1.same s, h2.same s, h3.same s⟩
theorem IsTr.ins {H : Hp} {x : Addr} : ∀ {t : Tr}, IsTr K H x t → ∃ dx fs, H x = some (.ins (wC K) dx fs)
  | .lf _, h => by obtain ⟨_, dx, a, h1, _⟩ := h; exact ⟨_, _, h1⟩
  | .nd _ _ _, h => by obtain ⟨_, y, z, ⟨dx, a, h1, _⟩, _⟩ := h; exact ⟨_, _, h1⟩
end
end KX

set_option Elab.async false
set_option linter.all false
set_option maxRecDepth 100000
set_option maxHeartbeats 4000000
/-! # classes.py: marks -/
namespace KX
open PySem PySem.Spec PyProof.Rows L2 VX KW
open KV (top FnP defs iIsInt iHasAll iFits iWord iWithin iSumM iComM iLetM iMark iWon iFirstB iIsBr iWonAll iOpenK iFacts iTree iLWord iWords)
section
variable {P : Program} {w : World} {K : PySem.W.Frag} {mg : Str → Option Value} {base : Heap} {f : Addr} {fd : FuncData}
/-! ### is_within, sum_mark, common_mark -/
def spWithin : Sp := fun vs H Q _ => ∃ x y : Nat, vs = [.str (one x), .str (one y)] ∧ Q (.bl (isW x y)) H
theorem sc_within : FnScope ["one", "other"] ["one", "other"] (defScope (top iWithin)) := ⟨rfl, rfl, rfl, by decide +kernel, rfl, by decide +kernel, by decide +kernel⟩
theorem ok_within (F : FnP K "is_within" iWithin f fd) (T : Txt K mg) : FnOk P w K mg base CX0 1 f fd ["one", "other"] spWithin := by
  refine F.ok sc_within (fun vs H Q E h => ?_) (fun cdv A outer s H vs Q E hr h => ?_)
  · obtain ⟨x, y, rfl, _⟩ := h
    rfl
  · obtain ⟨x, y, rfl, k⟩ := h
    refine ⟨_, PSs.nox (pss_one (ps_ret (pe_or (pe_cmpR op_eq (pv 0) (pv 1) (nomark _)) (pe_or (pe_cmpR op_eq (pv 0) pe_str (nomark _)) (pe_one (pe_cmpR op_eq (pv 1) pe_str (nomark _))))))), ?_⟩
    refine ⟨_, rfl, _, rfl, rfl, _, rfl, ?_⟩
    rw [show decide (V.str (one x) = V.str (one y)) = (x == y) from dec_one]
    unfold isW at k
    refine ite2 (fun h => ?_) (fun h => ?_)
    · rw [h] at k
      exact k
    · rw [Bool.eq_false_iff.mpr h] at k
      refine ⟨_, rfl, rfl, _, rfl, ?_⟩
      rw [show decide (V.str (one x) = V.str "0") = (x == 48) from dec_one]
      refine ite2 (fun h => ?_) (fun h => ?_)
      · rw [h] at k
        exact k
      · rw [Bool.eq_false_iff.mpr h] at k
        refine ⟨_, rfl, rfl, ?_⟩
        show Q (.bl (decide (V.str (one y) = V.str "1"))) H
        rw [show decide (V.str (one y) = V.str "1") = (y == 49) from dec_one]
        exact k
def spSum : Sp := fun vs H Q _ => ∃ x y : Nat, vs = [.str (one x), .str (one y)] ∧ Q (.str (one (sumM x y))) H
theorem sc_sum : FnScope ["one", "other"] ["one", "other"] (defScope (top iSumM)) := ⟨rfl, rfl, rfl, by decide +kernel, rfl, by decide +kernel, by decide +kernel⟩
theorem ok_sum {fdW : FuncData} (F : FnP K "sum_mark" iSumM f fd) (T : Txt K mg) (FW : FnP K "is_within" iWithin (He.ga K "is_within") fdW) : FnOk P w K mg base CX0 2 f fd ["one", "other"] spSum := by
  have GW : FnOk P w K mg base CX0 1 _ fdW ["one", "other"] spWithin := ok_within FW T
  have BW : Binds K fdW ["one", "other"] [] := FW.bindsN fun _ _ _ _ _ _ us hl => match us, hl with | [_, _], _ => rfl
  refine F.ok sc_sum (fun vs H Q E h => ?_) (fun cdv A outer s H vs Q E hr h => ?_)
  · obtain ⟨x, y, rfl, _⟩ := h
    rfl
  · obtain ⟨x, y, rfl, k⟩ := h
    refine ⟨_, PSs.nox (pss_cons (ps_if (pt_val (pe_call GW hr (by rfl) (T.df "is_within" iWithin) FW.kp BW .nil pass0 (pa_cons (pv 0) (pa_cons (pv 1) pa_nil)))) (pss_one (ps_ret (pv 1))) pss_nil) (pss_one (ps_ret (pe_ifExp (pt_val (pe_call GW hr (by rfl) (T.df "is_within" iWithin) FW.kp BW .nil pass0 (pa_cons (pv 1) (pa_cons (pv 0) pa_nil)))) (pv 0) pe_str)))), ?_⟩
    unfold sumM at k
    refine ⟨_, rfl, _, rfl, x, y, rfl, _, rfl, ?_⟩
    refine ite2 (fun h => ?_) (fun h => ?_)
    · rw [if_pos h] at k
      exact ⟨_, rfl, k⟩
    · rw [if_neg h] at k
      refine ⟨_, rfl, _, rfl, y, x, rfl, _, rfl, ?_⟩
      refine ite2 (fun h2 => ?_) (fun h2 => ?_)
      · rw [if_pos h2] at k
        exact ⟨_, rfl, k⟩
      · rw [if_neg h2] at k
        exact k
def spCom : Sp := fun vs H Q _ => ∃ x y : Nat, vs = [.str (one x), .str (one y)] ∧ Q (.str (one (comM x y))) H
theorem sc_com : FnScope ["one", "other"] ["one", "other"] (defScope (top iComM)) := ⟨rfl, rfl, rfl, by decide +kernel, rfl, by decide +kernel, by decide +kernel⟩
theorem ok_com {fdW : FuncData} (F : FnP K "common_mark" iComM f fd) (T : Txt K mg) (FW : FnP K "is_within" iWithin (He.ga K "is_within") fdW) : FnOk P w K mg base CX0 2 f fd ["one", "other"] spCom := by
  have GW : FnOk P w K mg base CX0 1 _ fdW ["one", "other"] spWithin := ok_within FW T
  have BW : Binds K fdW ["one", "other"] [] := FW.bindsN fun _ _ _ _ _ _ us hl => match us, hl with | [_, _], _ => rfl
  refine F.ok sc_com (fun vs H Q E h => ?_) (fun cdv A outer s H vs Q E hr h => ?_)
  · obtain ⟨x, y, rfl, _⟩ := h
    rfl
  · obtain ⟨x, y, rfl, k⟩ := h
    refine ⟨_, PSs.nox (pss_cons (ps_if (pt_val (pe_call GW hr (by rfl) (T.df "is_within" iWithin) FW.kp BW .nil pass0 (pa_cons (pv 0) (pa_cons (pv 1) pa_nil)))) (pss_one (ps_ret (pv 0))) pss_nil) (pss_one (ps_ret (pe_ifExp (pt_val (pe_call GW hr (by rfl) (T.df "is_within" iWithin) FW.kp BW .nil pass0 (pa_cons (pv 1) (pa_cons (pv 0) pa_nil)))) (pv 1) pe_str)))), ?_⟩
    unfold comM at k
    refine ⟨_, rfl, _, rfl, x, y, rfl, _, rfl, ?_⟩
    refine ite2 (fun h => ?_) (fun h => ?_)
    · rw [if_pos h] at k
      exact ⟨_, rfl, k⟩
    · rw [if_neg h] at k
      refine ⟨_, rfl, _, rfl, y, x, rfl, _, rfl, ?_⟩
      refine ite2 (fun h2 => ?_) (fun h2 => ?_)
      · rw [if_pos h2] at k
        exact ⟨_, rfl, k⟩
      · rw [if_neg h2] at k
        exact k
/-! ### letter_mark -/
/-- the kind as a text -/
def kS (k : List Nat) : Str := ⟨k.toArray⟩
theorem kS_list {k : List Nat} : (kS k).cps.toList = k := by simp [kS]
theorem kS_pl {k : List Nat} : decide (V.str (kS k) = V.str "plane") = decide (k = PL) := by
  apply decide_eq_decide.mpr
  constructor
  · intro h
    injection h with h
    have := congrArg (fun s : Str => s.cps.toList) h
    simp [kS] at this
    exact this
  · rintro rfl
    rfl
def spLet : Sp := fun vs H Q _ => ∃ (c : Nat) (k : List Nat), vs = [.str (one c), .str (kS k)] ∧ Q (.str (one (letM c k))) H
theorem sc_let : FnScope ["hand", "kind"] ["hand", "kind"] (defScope (top iLetM)) := ⟨rfl, rfl, rfl, by decide +kernel, rfl, by decide +kernel, by decide +kernel⟩
theorem ok_let (F : FnP K "letter_mark" iLetM f fd) (T : Txt K mg) : FnOk P w K mg base CX0 1 f fd ["hand", "kind"] spLet := by
  obtain ⟨tm, hm⟩ := T.plane
  refine F.ok sc_let (fun vs H Q E h => ?_) (fun cdv A outer s H vs Q E hr h => ?_)
  · obtain ⟨c, k, rfl, _⟩ := h
    rfl
  · obtain ⟨c, k, rfl, q⟩ := h
    refine ⟨_, PSs.nox (pss_cons (ps_if (pt_cmpR op_eq (pv 1) (pe_glob (v := .str "plane") (by rfl) hm ⟨tm, rfl⟩) (nomark _)) (pss_one (ps_ret (pv 0))) pss_nil) (pss_one (ps_ret (pe_ifExp (pt_cmpR op_in_sign (pv 0) (pv 1) (by rfl)) pe_str pe_str)))), ?_⟩
    unfold letM at q
    refine ⟨_, rfl, rfl, _, rfl, ?_⟩
    rw [kS_pl]
    refine ite2 (fun h => ?_) (fun h => ?_)
    · have h' := of_decide_eq_true h
      rw [if_pos h'] at q
      exact ⟨_, rfl, q⟩
    · have h' : k ≠ PL := fun e => h (decide_eq_true e)
      rw [if_neg h'] at q
      refine ⟨_, rfl, _, rfl, c, _, rfl, rfl, _, rfl, ?_⟩
      rw [kS_list]
      refine ite2 (fun h2 => ?_) (fun h2 => ?_)
      · rw [if_pos (of_decide_eq_true h2)] at q
        exact q
      · rw [if_neg (fun e => h2 (decide_eq_true e))] at q
        exact q
end
end KX

set_option Elab.async false
set_option linter.all false
set_option maxRecDepth 100000
set_option maxHeartbeats 4000000
/-! # classes.py: mark -/
namespace KX
open PySem PySem.Spec PyProof.Rows L2 VX KW
open KV (top FnP defs iIsInt iHasAll iFits iWord iWithin iSumM iComM iLetM iMark iWon iFirstB iIsBr iWonAll iOpenK iFacts iTree iLWord iWords)
section
variable {P : Program} {w : World} {K : PySem.W.Frag} {mg : Str → Option Value} {base : Heap} {f : Addr} {fd : FuncData}
theorem in_hands (c : Nat) : inV (V.str (one c)) [V.str "a", V.str "b", V.str "c"] = hand c := by
  show ((one 97 == one c) || ((one 98 == one c) || ((one 99 == one c) || false))) = _
  simp only [beq_one, hand, Bool.or_false, Bool.or_assoc]
/-- the defs that mark reaches -/
structure Mkf (K : PySem.W.Frag) (fdW fdS fdC fdL fdg fdp : FuncData) : Prop where
  fw : FnP K "is_within" iWithin (He.ga K "is_within") fdW
  fs : FnP K "sum_mark" iSumM (He.ga K "sum_mark") fdS
  fc : FnP K "common_mark" iComM (He.ga K "common_mark") fdC
  fl : FnP K "letter_mark" iLetM (He.ga K "letter_mark") fdL
  fg : FunD K "sign" "Word.sign" (defArgs sSg) (defBody sSg) (defScope sSg) [] [] (propG K "sign") fdg
  fp : FunD K "parts" "Word.parts" (defArgs sPa) (defBody sPa) (defScope sPa) [] [] (propG K "parts") fdp
def spMark (K : PySem.W.Frag) (n : Nat) : Sp := fun vs H Q _ => ∃ (x : Addr) (t : Tr) (k : List Nat), vs = [.ref x, .str (kS k)] ∧ IsTr K H x t ∧ dep t ≤ n ∧ ∀ H', Same H H' → Q (.str (one (mk k t))) H'
def spMarkL (K : PySem.W.Frag) : Nat → Sp
  | 0 => fun _ _ _ _ => False
  | n + 1 => spMark K n
abbrev nM : List Str := ["word", "kind", "first", "second", "part"]
theorem sc_mark : FnScope nM ["word", "kind"] (defScope (top iMark)) := ⟨rfl, rfl, rfl, by decide +kernel, rfl, by decide +kernel, by decide +kernel⟩
theorem ok_mark1 {fdW fdS fdC fdL fdg fdp : FuncData} (F : FnP K "mark" iMark (He.ga K "mark") fd) (T : Txt K mg) (Z : Mkf K fdW fdS fdC fdL fdg fdp) (n : Nat) (GR : FnOk P w K mg base CX0 (3 + n) (He.ga K "mark") fd ["word", "kind"] (spMarkL K n)) :
    FnOk P w K mg base CX0 (4 + n) (He.ga K "mark") fd ["word", "kind"] (spMark K n) := by
  have BR : Binds K fd ["word", "kind"] [] := F.bindsN fun _ _ _ _ _ _ us hl => match us, hl with | [_, _], _ => rfl
  have GSg : FnOk P w K mg base CX0 1 _ fdg ["self"] (spGetS K) := ok_gets Z.fg T
  have BSg : Binds K fdg ["self"] [] := Z.fg.bindsN fun _ _ _ _ _ _ us hl => match us, hl with | [_], _ => rfl
  have GPa : FnOk P w K mg base CX0 1 _ fdp ["self"] (spGetP K) := ok_getp Z.fp T
  have BPa : Binds K fdp ["self"] [] := Z.fp.bindsN fun _ _ _ _ _ _ us hl => match us, hl with | [_], _ => rfl
  have GL : FnOk P w K mg base CX0 1 _ fdL ["hand", "kind"] spLet := ok_let Z.fl T
  have BL : Binds K fdL ["hand", "kind"] [] := Z.fl.bindsN fun _ _ _ _ _ _ us hl => match us, hl with | [_, _], _ => rfl
  have GS : FnOk P w K mg base CX0 2 _ fdS ["one", "other"] spSum := ok_sum Z.fs T Z.fw
  have BS : Binds K fdS ["one", "other"] [] := Z.fs.bindsN fun _ _ _ _ _ _ us hl => match us, hl with | [_, _], _ => rfl
  have GC : FnOk P w K mg base CX0 2 _ fdC ["one", "other"] spCom := ok_com Z.fc T Z.fw
  have BC : Binds K fdC ["one", "other"] [] := Z.fc.bindsN fun _ _ _ _ _ _ us hl => match us, hl with | [_, _], _ => rfl
  rw [show 4 + n = (3 + n) + 1 by omega]
  refine F.ok sc_mark (fun vs H Q E h => ?_) (fun cdv A outer s H vs Q E hr h => ?_)
  · obtain ⟨x, t, k, rfl, _⟩ := h
    rfl
  · obtain ⟨x, t, k, rfl, hx, hd, q⟩ := h
    have nd := sc_mark.nd
    have hr1 : Room 1 _ := hr.mono (by omega)
    have hr2 : Room 2 _ := hr.mono (by omega)
    refine ⟨_, PSs.nox (pss_cons (ps_if (pt_cmpR op_in_seq (pe_prop (pv 0) T.cls T.ps GSg hr2 BSg .nil pass0 rfl) (pe_glob (v := .ref (He.ga K "HANDS")) (by rfl) T.hands rfl) (by rfl)) (pss_one (ps_ret (pe_call GL hr1 (by rfl) (T.df "letter_mark" iLetM) Z.fl.kp BL .nil pass0 (pa_cons (pe_prop (pv 0) T.cls T.ps GSg hr2 BSg .nil pass0 rfl) (pa_cons (pv 1) pa_nil))))) pss_nil) (pss_cons (ps_if (pt_cmpR op_eq (pe_callB call_len_seq (by rfl) (T.fr "len") boot_len (pa_cons (pe_prop (pv 0) T.cls T.pp GPa hr2 BPa .nil pass0 rfl) pa_nil)) pe_int (nomark _)) (pss_one (ps_ret (pe_prop (pv 0) T.cls T.ps GSg hr2 BSg .nil pass0 rfl))) pss_nil) (pss_cons (ps_asg (pe_lc (own := [("part", 4)]) (g := gName 4) (by rfl) nd (pi_tup (pe_prop (pv 0) T.cls T.pp GPa hr2 BPa .nil pass0 rfl)) (blkOk_by (own := [("part", 4)]) (N := nM) (sc := defScope (top iMark)) (by decide +kernel)) (fun _ _ _ _ _ => pg_name (i := 4) nd rfl (Or.inl rfl)) (fun _ _ _ _ _ => pts_nil) (fun _ _ _ _ _ => pe_call GR hr (by rfl) (T.df "mark" iMark) F.kp BR .nil pass0 (pa_cons (pv 4) (pa_cons (pv 1) pa_nil)))) (pg_unl rfl (pgs_cons (pg_name (i := 2) nd rfl (.inl rfl)) (pgs_cons (pg_name (i := 3) nd rfl (.inl rfl)) pgs_nil)))) (pss_one (ps_ret (pe_ifExp (pt_cmpR op_eq (pe_prop (pv 0) T.cls T.ps GSg hr2 BSg .nil pass0 rfl) pe_str (nomark _)) (pe_call GS hr2 (by rfl) (T.df "sum_mark" iSumM) Z.fs.kp BS .nil pass0 (pa_cons (pv 2) (pa_cons (pv 3) pa_nil))) (pe_call GC hr2 (by rfl) (T.df "common_mark" iComM) Z.fc.kp BC .nil pass0 (pa_cons (pv 2) (pa_cons (pv 3) pa_nil))))))))), ?_⟩
    cases t with
    | lf c =>
      obtain ⟨hl, hw⟩ := hx
      obtain ⟨dx, a, h1, h2⟩ := id hw
      refine ⟨_, rfl, x, dx, _, rfl, h1, x, c, _, rfl, hw, _, _, rfl, .inr (T.htup _), rfl, rfl, _, rfl, ?_⟩
      simp only [Bool.false_eq_true, if_false, in_hands]
      simp only [mk] at q
      refine ite2 (fun hh => ?_) (fun hh => ?_)
      · rw [if_pos hh] at q
        exact ⟨_, rfl, x, dx, _, rfl, h1, x, c, _, rfl, hw, _, rfl, c, k, rfl, q _ (Same.refl _)⟩
      · rw [if_neg hh] at q
        refine ⟨_, rfl, x, dx, _, rfl, h1, x, c, _, rfl, hw, fun a2 ha2 => ⟨a2, _, rfl, .inr ha2, rfl, _, rfl, ?_⟩⟩
        exact iteT ⟨_, rfl, x, dx, _, rfl, h1, x, c, _, rfl, hw, q _ (Same.refl _)⟩
    | nd c l r =>
      obtain ⟨hj, y, z, hw, hy, hz⟩ := hx
      obtain ⟨dx, a, h1, h2⟩ := id hw
      have hnh : hand c = false := by rcases joint_two hj with rfl | rfl <;> rfl
      refine ⟨_, rfl, x, dx, _, rfl, h1, x, c, _, rfl, hw, _, _, rfl, .inr (T.htup _), rfl, rfl, _, rfl, ?_⟩
      simp only [Bool.false_eq_true, if_false, in_hands, hnh]
      refine ⟨_, rfl, x, dx, _, rfl, h1, x, c, _, rfl, hw, fun a2 ha2 => ⟨a2, _, rfl, .inr ha2, rfl, _, rfl, ?_⟩⟩
      refine iteF ?_
      simp only [dep] at hd
      obtain ⟨m, rfl⟩ : ∃ m, n = m + 1 := ⟨n - 1, by omega⟩
      refine ⟨_, rfl, x, dx, _, rfl, h1, x, c, _, rfl, hw, fun a3 ha3 => ⟨a3, rfl, ⟨_, ha3⟩, fun D hD => lc_it (walk_tup (K := K) (a := a3) (xs := [.ref y, .ref z])) (fun i H' => Same H H' ∧ H' D = some (.lst (([V.str (one (mk k l)), V.str (one (mk k r))] : List V).take i))) ⟨same_new hD, upd_same⟩ (fun i H' _ p => SqT.same p.1 ha3) ?_ ?_⟩⟩
      · rintro i v H1 H2 hi ⟨sm, hDl⟩ ⟨rfl, hv⟩
        refine ⟨rfl, yes_if ?_⟩
        have go : ∀ {u : Addr} {tt : Tr}, v = .ref u → IsTr K H2 u tt → dep tt ≤ m → ([V.str (one (mk k l)), V.str (one (mk k r))] : List V)[i]? = some (.str (one (mk k tt))) →
            spMarkL K (m + 1) [v, .str (kS k)] H2 (fun v H3 => ∃ acc, H3 D = some (.lst acc) ∧ acc.length < sizeLine ∧ Same H (upd H3 D (.lst (acc ++ [v]))) ∧ (upd H3 D (.lst (acc ++ [v]))) D = some (.lst (([V.str (one (mk k l)), V.str (one (mk k r))] : List V).take (i + 1)))) E0 := fun {u tt} e ht hdt hit => by
          subst e
          exact ⟨u, tt, k, rfl, ht, hdt, fun H3 s3 => ⟨_, s3 _ _ hDl, lt_line (Nat.le_trans (List.length_take_le' _ _) (by show 2 ≤ 100000; decide)), Same.grow (sm.trans s3) hD, by rw [upd_same, take_one hit]⟩⟩
        have hi' : i = 0 ∨ i = 1 := by have : i < 2 := hi; omega
        rcases hi' with rfl | rfl
        · exact ⟨_, rfl, _, rfl, go (Option.some.inj hv).symm (hy.same sm) (by omega) rfl⟩
        · exact ⟨_, rfl, _, rfl, go (Option.some.inj hv).symm (hz.same sm) (by omega) rfl⟩
      · rintro H1 ⟨sm, hDl⟩
        refine ⟨D, _, rfl, SqL.of hDl, rfl, _, _, rfl, _, _, rfl, rfl, ?_⟩
        have w1 := hw.same sm
        obtain ⟨dx1, a1, g1, g2⟩ := id w1
        refine ⟨_, rfl, x, dx1, _, rfl, g1, x, c, _, rfl, w1, rfl, _, rfl, ?_⟩
        rw [show decide (V.str (one c) = V.str "+") = (c == 43) from dec_one]
        have q1 := q _ sm
        simp only [mk] at q1
        refine ite2 (fun h => ?_) (fun h => ?_)
        · rw [if_pos (by simpa using h)] at q1
          exact ⟨_, rfl, _, rfl, _, _, rfl, q1⟩
        · rw [if_neg (by simpa using h)] at q1
          exact ⟨_, rfl, _, rfl, _, _, rfl, q1⟩
theorem ok_mark {fdW fdS fdC fdL fdg fdp : FuncData} (F : FnP K "mark" iMark (He.ga K "mark") fd) (T : Txt K mg) (Z : Mkf K fdW fdS fdC fdL fdg fdp) : ∀ n, FnOk P w K mg base CX0 (4 + n) (He.ga K "mark") fd ["word", "kind"] (spMark K n) := by
  intro n
  induction n with
  | zero => exact ok_mark1 F T Z 0 ⟨fun _ _ _ _ h => h.elim, fun _ _ _ _ _ _ _ _ _ _ _ _ _ h => h.elim⟩
  | succ n ih => exact ok_mark1 F T Z (n + 1) (by rw [show 3 + (n + 1) = 4 + n by omega]; exact ih)
end
end KX

set_option Elab.async false
set_option linter.all false
set_option maxRecDepth 100000
set_option maxHeartbeats 4000000
/-! # classes.py: marks -/
namespace KX
open PySem PySem.Spec PyProof.Rows L2 VX KW
open KV (top FnP defs iIsInt iHasAll iFits iWord iWithin iSumM iComM iLetM iMark iWon iFirstB iIsBr iWonAll iOpenK iFacts iTree iLWord iWords)
section
variable {P : Program} {w : World} {K : PySem.W.Frag} {mg : Str → Option Value} {base : Heap} {f : Addr} {fd : FuncData}
def dictK (g : List Nat → V) : List (Key × V) := kinds.map fun k => (Sum.inr (kS k), g k)
theorem dictK_put (g : List Nat → V) {i : Nat} {k : List Nat} (h : kinds[i]? = some k) : putK ((dictK g).take i) (Sum.inr (kS k)) (g k) = (dictK g).take (i + 1) := by
  match i, h with
  | 0, h => cases h; rfl
  | 1, h => cases h; rfl
  | 2, h => cases h; rfl
  | 3, h => cases h; rfl
  | 4, h => cases h; rfl
  | 5, h => cases h; rfl
  | 6, h => cases h; rfl
  | 7, h => cases h; rfl
  | 8, h => cases h; rfl
  | i + 9, h => exact absurd h (by simp [kinds])
theorem dictK_get (g : List Nat → V) {i : Nat} {k : List Nat} (h : kinds[i]? = some k) : valV (dictK g) (Sum.inr (kS k)) = some (g k) := by
  match i, h with
  | 0, h => cases h; rfl
  | 1, h => cases h; rfl
  | 2, h => cases h; rfl
  | 3, h => cases h; rfl
  | 4, h => cases h; rfl
  | 5, h => cases h; rfl
  | 6, h => cases h; rfl
  | 7, h => cases h; rfl
  | 8, h => cases h; rfl
  | i + 9, h => exact absurd h (by simp [kinds])
theorem kind_at {i : Nat} {v : V} (h : kindV[i]? = some v) : ∃ k, kinds[i]? = some k ∧ v = .str (kS k) := by
  match i, h with
  | 0, h => cases h; exact ⟨_, rfl, rfl⟩
  | 1, h => cases h; exact ⟨_, rfl, rfl⟩
  | 2, h => cases h; exact ⟨_, rfl, rfl⟩
  | 3, h => cases h; exact ⟨_, rfl, rfl⟩
  | 4, h => cases h; exact ⟨_, rfl, rfl⟩
  | 5, h => cases h; exact ⟨_, rfl, rfl⟩
  | 6, h => cases h; exact ⟨_, rfl, rfl⟩
  | 7, h => cases h; exact ⟨_, rfl, rfl⟩
  | 8, h => cases h; exact ⟨_, rfl, rfl⟩
  | i + 9, h => exact absurd h (by simp [kindV])
end
end KX

set_option Elab.async false
set_option linter.all false
set_option maxRecDepth 100000
set_option maxHeartbeats 4000000
/-! # classes.py: parting, breach, same, below -/
namespace KX
open PySem PySem.Spec PyProof.Rows L2 VX KW
open KV (top FnP defs iIsInt iHasAll iFits iWord iWithin iSumM iComM iLetM iMark iWon iFirstB iIsBr iWonAll iOpenK iFacts iTree iLWord iWords)
section
variable {P : Program} {w : World} {K : PySem.W.Frag} {mg : Str → Option Value} {base : Heap} {f : Addr} {fd : FuncData}
def spWon (K : PySem.W.Frag) : Sp := fun vs H Q _ => ∃ (x y : Addr) (s t : Tr) (k : List Nat), vs = [.ref x, .ref y, .str (kS k)] ∧ IsTr K H x s ∧ IsTr K H y t ∧ dep s ≤ 20 ∧ dep t ≤ 20 ∧ ∀ H', Same H H' → Q (.bl (isW (mk k s) (mk k t))) H'
theorem sc_won : FnScope ["one", "other", "kind"] ["one", "other", "kind"] (defScope (top iWon)) := ⟨rfl, rfl, rfl, by decide +kernel, rfl, by decide +kernel, by decide +kernel⟩
theorem ok_won {fdM fdW fdS fdC fdL fdg fdp : FuncData} (F : FnP K "within_on" iWon f fd) (T : Txt K mg) (FM : FnP K "mark" iMark (He.ga K "mark") fdM) (Z : Mkf K fdW fdS fdC fdL fdg fdp) : FnOk P w K mg base CX0 25 f fd ["one", "other", "kind"] (spWon K) := by
  have GM : FnOk P w K mg base CX0 24 _ fdM ["word", "kind"] (spMark K 20) := ok_mark FM T Z 20
  have BM : Binds K fdM ["word", "kind"] [] := FM.bindsN fun _ _ _ _ _ _ us hl => match us, hl with | [_, _], _ => rfl
  have GW : FnOk P w K mg base CX0 1 _ fdW ["one", "other"] spWithin := ok_within Z.fw T
  have BW : Binds K fdW ["one", "other"] [] := Z.fw.bindsN fun _ _ _ _ _ _ us hl => match us, hl with | [_, _], _ => rfl
  refine F.ok sc_won (fun vs H Q E h => ?_) (fun cdv A outer s H vs Q E hr h => ?_)
  · obtain ⟨x, y, s, t, k, rfl, _⟩ := h
    rfl
  · obtain ⟨x, y, s', t, k, rfl, hx, hy, hds, hdt, q⟩ := h
    have hr1 : Room 1 _ := hr.mono (by decide)
    refine ⟨_, PSs.nox (pss_one (ps_ret (pe_call GW hr1 (by rfl) (T.df "is_within" iWithin) Z.fw.kp BW .nil pass0 (pa_cons (pe_call GM hr (by rfl) (T.df "mark" iMark) FM.kp BM .nil pass0 (pa_cons (pv 0) (pa_cons (pv 2) pa_nil))) (pa_cons (pe_call GM hr (by rfl) (T.df "mark" iMark) FM.kp BM .nil pass0 (pa_cons (pv 1) (pa_cons (pv 2) pa_nil))) pa_nil))))), ?_⟩
    exact ⟨_, rfl, _, rfl, x, s', k, rfl, hx, hds, fun H2 s2 => ⟨_, rfl, _, rfl, y, t, k, rfl, hy.same s2, hdt, fun H3 s3 => ⟨mk k s', mk k t, rfl, q _ (s2.trans s3)⟩⟩⟩
end
end KX

set_option Elab.async false
set_option linter.all false
set_option maxRecDepth 100000
set_option maxHeartbeats 4000000
/-! # the draws, trees -/
namespace KX
open PySem PySem.Spec PyProof.Rows L2 VX KW
open KV (top FnP defs iIsInt iHasAll iFits iWord iWithin iSumM iComM iLetM iMark iWon iFirstB iIsBr iWonAll iOpenK iFacts iTree iLWord iWords)
section
variable {P : Program} {w : World} {K : PySem.W.Frag} {mg : Str → Option Value} {base : Heap} {f : Addr} {fd : FuncData}
/-! ### _law_box -/
/-! ### _law_take -/
theorem sc_take : FnScope ["_law_box_here", "_law_many", "_law_digit", "_law_mixed"] ["_law_box_here", "_law_many"] (defScope (top iTake)) := ⟨rfl, rfl, rfl, by decide +kernel, rfl, by decide +kernel, by decide +kernel⟩
theorem ok_take (F : FnP K "_law_take" iTake f fd) (T : Txt K mg) : FnOk P w K mg base CX0 1 f fd ["_law_box_here", "_law_many"] spTake := by
  refine F.ok sc_take (fun vs H Q E h => ?_) (fun cdv A outer s H vs Q E hr h => ?_)
  · obtain ⟨b, m, x, y, z, rfl, _⟩ := h
    rfl
  · obtain ⟨b, m, x, y, z, rfl, hb, x0, y0, y1, z0, z1, m0, m1, k⟩ := h
    have i0 := T.fr "int"
    refine ⟨_, PSs.nox (pss_cons (ps_if (pt_cmpR op_ge (pe_ix ix_list (pv 0) pe_int (fun _ _ => rfl)) (pe_op op_pow pe_int pe_int) (nomark _))
        (pss_cons (ps_set (i := 2) sc_take.nd rfl (Or.inl rfl) (pe_op op_mod (pe_callTy call_int1 (by rfl) i0 boot_int (pa_cons (pe_ix ix_list (pv 0) pe_int (fun _ _ => rfl)) pa_nil)) (pv 1)))
        (pss_cons (ps_asg (pe_op op_fdiv (pe_ix ix_list (pv 0) pe_int (fun _ _ => rfl)) (pv 1)) (pg_sub (pv 0) pe_int set_list))
        (pss_one (ps_ret (pv 2))))) pss_nil)
      (pss_cons (ps_asg (pe_op op_add (pe_ix ix_list (pv 0) pe_int (fun _ _ => rfl)) pe_int) (pg_sub (pv 0) pe_int set_list))
      (pss_cons (ps_set (i := 3) sc_take.nd rfl (Or.inl rfl) (pe_op op_mod (pe_op op_pw (pe_callTy call_int1 (by rfl) i0 boot_int (pa_cons (pe_op op_add (pe_op op_add (pe_op op_mul (pe_op op_add (pe_ix ix_list (pv 0) pe_int (fun _ _ => rfl)) pe_int) pe_int)
          (pe_op op_mul (pe_ix ix_list (pv 0) pe_int (fun _ _ => rfl)) pe_int)) (pe_ix ix_list (pv 0) pe_int (fun _ _ => rfl))) pa_nil)) pe_int) pe_int))
      (pss_cons (ps_set (i := 3) sc_take.nd rfl (Or.inl rfl) (pe_op op_mod (pe_op op_pw (pe_callTy call_int1 (by rfl) i0 boot_int (pa_cons (pe_op op_add (pv 3) (pe_op op_mul (pe_ix ix_list (pv 0) pe_int (fun _ _ => rfl)) pe_int)) pa_nil)) pe_int) pe_int))
      (pss_one (ps_ret (pe_op op_mod (pe_callTy call_int1 (by rfl) i0 boot_int (pa_cons (pe_op op_fdiv (pv 3) pe_int) pa_nil)) (pv 1)))))))), ?_⟩
    refine ⟨_, rfl, b, _, _, _, rfl, rfl, SqL.of hb, rfl, _, _, rfl, rfl, ⟨by decide, by decide, by decide⟩, _, _, rfl, rfl, _, rfl, ?_⟩
    refine ite2 (fun c => ?_) (fun c => ?_)
    · refine ⟨_, rfl, b, _, _, _, rfl, rfl, SqL.of hb, rfl, .inl ⟨_, rfl, _, rfl, _, _, rfl, rfl, m0, ?_⟩⟩
      refine ⟨_, rfl, b, _, _, _, rfl, rfl, SqL.of hb, rfl, _, rfl, _, _, rfl, rfl, ⟨m0, by omega⟩, ?_⟩
      refine ⟨_, rfl, b, _, _, 0, rfl, rfl, hb, rfl, _, rfl, ?_⟩
      have d0 : 0 ≤ x % m := Int.emod_nonneg x (by omega)
      have d1 : x % m < m := Int.emod_lt_of_pos x m0
      have q0 : 0 ≤ x / m := Int.ediv_nonneg x0 (by omega)
      have q1 : x / m ≤ x := Int.ediv_le_self m x0
      exact k (x % m) (x / m) y d0 d1 q0 q1 (by omega) (by omega)
    · have c' : x < 10 ^ 18 := by simpa using c
      refine ⟨_, rfl, b, _, _, _, rfl, rfl, SqL.of hb, rfl, _, _, rfl, rfl, ?_⟩
      refine ⟨_, rfl, b, _, _, 1, rfl, rfl, hb, rfl, ?_⟩
      have h1 : upd H b (.lst (([V.int x, V.int y, V.int z] : List V).set 1 (V.int (y + 1)))) b = some (.lst [.int x, .int (y + 1), .int z]) := upd_same
      refine ⟨_, rfl, b, _, _, _, rfl, rfl, SqL.of h1, rfl, _, _, rfl, rfl, _, _, rfl, rfl, .inr ⟨by decide, by decide⟩, _, rfl, b, _, _, _, rfl, rfl, SqL.of h1, rfl, _, _, rfl, rfl, .inr ⟨by decide, by decide⟩, _, _, rfl, rfl, _, rfl, b, _, _, _, rfl, rfl, SqL.of h1, rfl, _, _, rfl, rfl, .inl ⟨_, rfl, _, _, rfl, rfl, pw_ok (by omega) (by omega), _, _, rfl, rfl, (by show (0 : Int) < 2147483647; decide), ?_⟩⟩
      refine ⟨_, rfl, _, rfl, b, _, _, _, rfl, rfl, SqL.of h1, rfl, _, _, rfl, rfl, .inr ⟨by decide, by decide⟩, _, _, rfl, rfl, .inl ⟨_, rfl, _, _, rfl, rfl, ?_, _, _, rfl, rfl, (by show (0 : Int) < 2147483399; decide), ?_⟩⟩
      · have a0 := Int.emod_nonneg (((x + 7) * 69069 + (y + 1) * 40692 + z) ^ Int.toNat 3) (show (2147483647 : Int) ≠ 0 by decide)
        have a1 := Int.emod_lt_of_pos (((x + 7) * 69069 + (y + 1) * 40692 + z) ^ Int.toNat 3) (show (0 : Int) < 2147483647 by decide)
        exact pw_ok (by omega) (by omega)
      · refine ⟨_, rfl, _, _, rfl, rfl, ⟨by decide, by decide⟩, .inl ⟨_, rfl, _, rfl, _, _, rfl, rfl, m0, ?_⟩⟩
        exact k _ x (y + 1) (Int.emod_nonneg _ (by omega)) (Int.emod_lt_of_pos _ m0) x0 (Int.le_refl x) (by omega) (by omega)
/-! ### _law_tree -/
/-- the tree of tuples at v -/
def IsTT (H : Hp) : V → Tr → Prop
  | v, .lf c => leafC c = true ∧ ∃ a, v = .ref a ∧ H a = some (.tup [.str (one c), .non, .non])
  | v, .nd c l r => jointC c = true ∧ ∃ a u z, v = .ref a ∧ H a = some (.tup [.str (one c), u, z]) ∧ IsTT H u l ∧ IsTT H z r
theorem IsTT.same {H H' : Hp} (s : Same H H') : ∀ {t : Tr} {v : V}, IsTT H v t → IsTT H' v t
  | .lf c, _, h => by
    obtain ⟨j, a, e, h1⟩ := h
    exact ⟨j, a, e, s _ _ h1⟩
  | .nd c l r, _, h => by
    obtain ⟨j, a, u, z, e, h1, h2, h3⟩ := h
    exact ⟨j, a, u, z, e, s _ _ h1, h2.same s, h3.same s⟩
theorem IsTT.kept {H H' : Hp} {b : Addr} {N : Nat} (k : Kept b H H') (hb : BoxK H b N) : ∀ {t : Tr} {v : V}, IsTT H v t → IsTT H' v t
  | .lf c, _, h => by
    obtain ⟨j, a, e, h1⟩ := h
    obtain ⟨xs, hx⟩ := hb.at
    exact ⟨j, a, e, k _ _ h1 (ne_of h1 hx (by intro z; cases z))⟩
  | .nd c l r, _, h => by
    obtain ⟨j, a, u, z, e, h1, h2, h3⟩ := h
    obtain ⟨xs, hx⟩ := hb.at
    exact ⟨j, a, u, z, e, k _ _ h1 (ne_of h1 hx (by intro z; cases z)), h2.kept k hb, h3.kept k hb⟩
theorem IsTT.ref {H : Hp} : ∀ {t : Tr} {v : V}, IsTT H v t → ∃ a, v = .ref a
  | .lf _, _, h => let ⟨_, a, e, _⟩ := h; ⟨a, e⟩
  | .nd _ _ _, _, h => let ⟨_, a, _, _, e, _⟩ := h; ⟨a, e⟩
def spTree (n : Nat) : Sp := fun vs H Q _ => ∃ (b : Addr) (N m : Nat), vs = [.ref b, .int m] ∧ BoxK H b N ∧ N + 3 * m ≤ 800000 ∧ m ≤ 1000 ∧ 1 ≤ m ∧ m ≤ n + 1 ∧
  ∀ H' a t, Kept b H H' → BoxK H' b (N + (3 * m - 2)) → IsTT H' (.ref a) t → dep t < m → Q (.ref a) H'
def spTreeL : Nat → Sp
  | 0 => fun _ _ _ _ => False
  | n + 1 => spTree n
theorem sc_tree : FnScope ["_law_box_here", "_law_size_here", "_law_left"] ["_law_box_here", "_law_size_here"] (defScope (top iTree)) := ⟨rfl, rfl, rfl, by decide +kernel, rfl, by decide +kernel, by decide +kernel⟩
theorem ok_tree1 {fdT : FuncData} (F : FnP K "_law_tree" iTree (He.ga K "_law_tree") fd) (T : Txt K mg) (FT : FnP K "_law_take" iTake (He.ga K "_law_take") fdT) (n : Nat) (GR : FnOk P w K mg base CX0 (1 + n) (He.ga K "_law_tree") fd ["_law_box_here", "_law_size_here"] (spTreeL n)) :
    FnOk P w K mg base CX0 (2 + n) (He.ga K "_law_tree") fd ["_law_box_here", "_law_size_here"] (spTree n) := by
  have BR : Binds K fd ["_law_box_here", "_law_size_here"] [] := F.bindsN fun _ _ _ _ _ _ us hl => match us, hl with | [_, _], _ => rfl
  have GT : FnOk P w K mg base CX0 1 _ fdT ["_law_box_here", "_law_many"] spTake := ok_take FT T
  have BT : Binds K fdT ["_law_box_here", "_law_many"] [] := FT.bindsN fun _ _ _ _ _ _ us hl => match us, hl with | [_, _], _ => rfl
  rw [show 2 + n = (1 + n) + 1 by omega]
  refine F.ok sc_tree (fun vs H Q E h => ?_) (fun cdv A outer s H vs Q E hr h => ?_)
  · obtain ⟨b, N, m, rfl, _⟩ := h
    rfl
  · obtain ⟨b, N, m, rfl, hb, hN, hm9, hm1, hmn, q⟩ := h
    have nd := sc_tree.nd
    have hr1 : Room 1 _ := hr.mono (by omega)
    refine ⟨_, PSs.nox (pss_cons (ps_if (pt_cmpR op_eq (pv 1) pe_int (nomark _)) (pss_one (ps_ret (pe_tup (pa_cons (pe_ix ix_list (pe_lst (pa_cons pe_str (pa_cons pe_str (pa_cons pe_str (pa_cons pe_str (pa_cons pe_str (pa_cons pe_str (pa_cons pe_str (pa_cons pe_str pa_nil))))))))) (pe_call GT hr1 (by rfl) (T.df "_law_take" iTake) FT.kp BT .nil pass0 (pa_cons (pv 0) (pa_cons pe_int pa_nil))) (fun _ _ => rfl)) (pa_cons pe_non (pa_cons pe_non pa_nil)))))) pss_nil) (pss_cons (ps_set (i := 2) nd rfl (.inl rfl) (pe_op op_add pe_int (pe_call GT hr1 (by rfl) (T.df "_law_take" iTake) FT.kp BT .nil pass0 (pa_cons (pv 0) (pa_cons (pe_op op_sub (pv 1) pe_int) pa_nil))))) (pss_one (ps_ret (pe_tup (pa_cons (pe_ix ix_list (pe_lst (pa_cons pe_str (pa_cons pe_str pa_nil))) (pe_call GT hr1 (by rfl) (T.df "_law_take" iTake) FT.kp BT .nil pass0 (pa_cons (pv 0) (pa_cons pe_int pa_nil))) (fun _ _ => rfl)) (pa_cons (pe_call GR hr (by rfl) (T.df "_law_tree" iTree) F.kp BR .nil pass0 (pa_cons (pv 0) (pa_cons (pv 2) pa_nil))) (pa_cons (pe_call GR hr (by rfl) (T.df "_law_tree" iTree) F.kp BR .nil pass0 (pa_cons (pv 0) (pa_cons (pe_op op_sub (pv 1) (pv 2)) pa_nil))) pa_nil)))))))), ?_⟩
    refine ⟨_, rfl, rfl, _, rfl, ?_⟩
    refine ite2 (fun h1 => ?_) (fun h1 => ?_)
    · have e1 : m = 1 := by
        have := of_decide_eq_true h1
        injection this with this
        omega
      subst e1
      refine ⟨(by show 8 ≤ sizeLine; decide), fun l0 hl0 => ⟨_, rfl, ?_⟩⟩
      dsimp -proj only [tCons, tC, tNil, List.append_nil]
      refine pick_use (m := 8) hb hl0 (by omega) rfl (by decide) (by decide) fun v H1 hv k1 b1 => ?_
      have hv : ∃ c, v = .str (one c) ∧ leafC c = true := by
        simp only [List.mem_cons, List.not_mem_nil, or_false] at hv
        rcases hv with rfl | rfl | rfl | rfl | rfl | rfl | rfl | rfl
        · exact ⟨97, rfl, rfl⟩
        · exact ⟨98, rfl, rfl⟩
        · exact ⟨99, rfl, rfl⟩
        · exact ⟨97, rfl, rfl⟩
        · exact ⟨98, rfl, rfl⟩
        · exact ⟨99, rfl, rfl⟩
        · exact ⟨48, rfl, rfl⟩
        · exact ⟨49, rfl, rfl⟩
      obtain ⟨c, rfl, hc⟩ := hv
      refine ⟨(by show 3 ≤ sizeLine; decide), fun p hp => ?_⟩
      have s1 := same_new (o := .tup [.str (one c), .non, .non]) hp
      exact q _ p (.lf c) (k1.trans (Kept.of s1)) ((b1.same s1).mono (by omega)) ⟨hc, p, rfl, upd_same⟩ (by show 0 < 1; decide)
    · have h1' : m ≠ 1 := fun e => h1 (decide_eq_true (by rw [e]; rfl))
      obtain ⟨n, rfl⟩ : ∃ n', n = n' + 1 := ⟨n - 1, by omega⟩
      refine ⟨_, rfl, _, rfl, _, _, rfl, rfl, ?_⟩
      dsimp -proj only [tCons, tC, tNil, List.append_nil]
      refine take_use (m := (m : Int) - 1) hb (by omega) (by omega) (by omega) fun d H1 d0 d1 k1 b1 _ => ?_
      obtain ⟨e, rfl⟩ : ∃ e : Nat, d = (e : Int) := ⟨d.toNat, by omega⟩
      refine ⟨_, _, rfl, rfl, ?_⟩
      refine ⟨(by show 2 ≤ sizeLine; decide), fun l0 hl0 => ⟨_, rfl, ?_⟩⟩
      dsimp -proj only [tCons, tC, tNil, List.append_nil]
      refine pick_use (m := 2) b1 hl0 (by omega) rfl (by decide) (by decide) fun v H2 hv k2 b2 => ?_
      have hv : ∃ c, v = .str (one c) ∧ jointC c = true := by
        simp only [List.mem_cons, List.not_mem_nil, or_false] at hv
        rcases hv with rfl | rfl
        · exact ⟨43, rfl, rfl⟩
        · exact ⟨38, rfl, rfl⟩
      obtain ⟨c, rfl, hc⟩ := hv
      refine ⟨_, rfl, _, rfl, b, N + 1 + 1, e + 1, ?_, b2, by omega, by omega, by omega, by omega, fun H3 a1 t1 k3 b3 ht1 hd1 => ?_⟩
      · show [V.ref b, V.int (1 + (e : Int))] = _
        rw [show (1 + (e : Int)) = ((e + 1 : Nat) : Int) by omega]
      refine ⟨_, rfl, _, rfl, _, rfl, _, _, rfl, rfl, b, _, m - (e + 1), ?_, b3, by omega, by omega, by omega, by omega, fun H4 a2 t2 k4 b4 ht2 hd2 => ?_⟩
      · show [V.ref b, V.int ((m : Int) - (1 + (e : Int)))] = _
        rw [show ((m : Int) - (1 + (e : Int))) = ((m - (e + 1) : Nat) : Int) by omega]
      refine ⟨(by show 3 ≤ sizeLine; decide), fun p hp => ?_⟩
      have s1 := same_new (o := .tup [.str (one c), .ref a1, .ref a2]) hp
      refine q _ p (.nd c t1 t2) (k1.trans (k2.trans (k3.trans (k4.trans (Kept.of s1))))) ((b4.same s1).mono (by omega)) ⟨hc, p, .ref a1, .ref a2, rfl, upd_same, (ht1.kept k4 b3).same s1, ht2.same s1⟩ ?_
      simp only [dep]
      omega
theorem ok_tree {fdT : FuncData} (F : FnP K "_law_tree" iTree (He.ga K "_law_tree") fd) (T : Txt K mg) (FT : FnP K "_law_take" iTake (He.ga K "_law_take") fdT) : ∀ n, FnOk P w K mg base CX0 (2 + n) (He.ga K "_law_tree") fd ["_law_box_here", "_law_size_here"] (spTree n) := by
  intro n
  induction n with
  | zero => exact ok_tree1 F T FT 0 ⟨fun _ _ _ _ h => h.elim, fun _ _ _ _ _ _ _ _ _ _ _ _ _ h => h.elim⟩
  | succ n ih => exact ok_tree1 F T FT (n + 1) (by rw [show 1 + (n + 1) = 2 + n by omega]; exact ih)
end
end KX

set_option Elab.async false
set_option linter.all false
set_option maxRecDepth 100000
set_option maxHeartbeats 4000000
/-! # _law_word -/
namespace KX
open PySem PySem.Spec PyProof.Rows L2 VX KW
open KV (top FnP defs iIsInt iHasAll iFits iWord iWithin iSumM iComM iLetM iMark iWon iFirstB iIsBr iWonAll iOpenK iFacts iTree iLWord iWords)
section
variable {P : Program} {w : World} {K : PySem.W.Frag} {mg : Str → Option Value} {base : Heap} {f : Addr} {fd : FuncData}
def spLWord (K : PySem.W.Frag) (n : Nat) : Sp := fun vs H Q _ => ∃ (v : V) (t : Tr), vs = [v] ∧ IsTT H v t ∧ dep t ≤ n ∧ ∀ H' x, Same H H' → IsTr K H' x t → Q (.ref x) H'
def spLWordL (K : PySem.W.Frag) : Nat → Sp
  | 0 => fun _ _ _ _ => False
  | n + 1 => spLWord K n
theorem sc_lword : FnScope ["_law_tree_here"] ["_law_tree_here"] (defScope (top iLWord)) := ⟨rfl, rfl, rfl, by decide +kernel, rfl, by decide +kernel, by decide +kernel⟩
theorem ok_lword1 {fdI fd1 : FuncData} {dv : V} (F : FnP K "_law_word" iLWord (He.ga K "_law_word") fd) (T : Txt K mg) (Z : Wif K fdI dv fd1) (n : Nat) (GR : FnOk P w K mg base CX0 (3 + n) (He.ga K "_law_word") fd ["_law_tree_here"] (spLWordL K n)) :
    FnOk P w K mg base CX0 (4 + n) (He.ga K "_law_word") fd ["_law_tree_here"] (spLWord K n) := by
  have BR : Binds K fd ["_law_tree_here"] [] := F.bindsN fun _ _ _ _ _ _ us hl => match us, hl with | [_], _ => rfl
  have GI : FnOk P w K mg base CX0 2 _ fdI ["self", "sign", "parts"] (spWI K) := ok_wi Z.fi T Z.ft
  obtain ⟨ds, h0, BI0⟩ := Z.b0
  have BI := Z.b1
  obtain ⟨ad, rfl, hdv⟩ := Z.dv
  rw [show 4 + n = (3 + n) + 1 by omega]
  refine F.ok sc_lword (fun vs H Q E h => ?_) (fun cdv A outer s H vs Q E hr h => ?_)
  · obtain ⟨v, t, rfl, _⟩ := h
    rfl
  · obtain ⟨v, t, rfl, ht, hd, q⟩ := h
    have nd := sc_lword.nd
    have hr3 : Room (2 + 1) _ := hr.mono (by omega)
    refine ⟨_, PSs.nox (pss_cons (ps_if (pt_cmpR op_isN (pe_ix ix_tup (pv 0) pe_int (fun _ _ => rfl)) pe_non (nomark _)) (pss_one (ps_ret (pe_make T.mks GI hr3 (by rfl) T.word BI0 h0 pass0 (pa_cons (pe_ix ix_tup (pv 0) pe_int (fun _ _ => rfl)) pa_nil)))) pss_nil) (pss_one (ps_ret (pe_make T.mks GI hr3 (by rfl) T.word BI .nil pass0 (pa_cons (pe_ix ix_tup (pv 0) pe_int (fun _ _ => rfl)) (pa_cons (pe_lst (pa_cons (pe_call GR hr (by rfl) (T.df "_law_word" iLWord) F.kp BR .nil pass0 (pa_cons (pe_ix ix_tup (pv 0) pe_int (fun _ _ => rfl)) pa_nil)) (pa_cons (pe_call GR hr (by rfl) (T.df "_law_word" iLWord) F.kp BR .nil pass0 (pa_cons (pe_ix ix_tup (pv 0) pe_int (fun _ _ => rfl)) pa_nil)) pa_nil))) pa_nil)))))), ?_⟩
    cases t with
    | lf c =>
      obtain ⟨hc, a, rfl, ha⟩ := ht
      refine ⟨_, rfl, a, _, 1, _, rfl, rfl, SqT.of ha, rfl, rfl, _, rfl, ?_⟩
      refine iteT ⟨_, rfl, a, _, 0, _, rfl, rfl, SqT.of ha, rfl, fun x dx hx hdx ne => ?_⟩
      have s1 : Same H (upd (upd H dx (.own x)) x (.ins (wC K) dx [])) := same_two hdx (by rw [upd_ne (Ne.symm ne)]; exact hx)
      refine ⟨x, c, ad, [], dx, rfl, upd_same, .inr (hdv _), (by show fitB c 0 = true; simp [fitB, hc]), (by show 0 ≤ 1000; decide), fun H' kept isw => ⟨rfl, ?_⟩⟩
      exact q H' x (fun b o z => kept b o (s1 _ _ z) (ne_of_none z hx)) ⟨hc, isw⟩
    | nd c l r =>
      obtain ⟨hc, a, u, z, rfl, ha, hl, hr'⟩ := ht
      simp only [dep] at hd
      obtain ⟨m, rfl⟩ : ∃ m, n = m + 1 := ⟨n - 1, by omega⟩
      have un : u ≠ .non := by obtain ⟨a, e⟩ := hl.ref; rw [e]; intro z; cases z
      refine ⟨_, rfl, a, _, 1, _, rfl, rfl, SqT.of ha, rfl, rfl, _, rfl, ?_⟩
      rw [show decide (u = V.non) = false from decide_eq_false un]
      refine iteF ⟨_, rfl, a, _, 0, _, rfl, rfl, SqT.of ha, rfl, ?_⟩
      refine ⟨_, rfl, a, _, 1, _, rfl, rfl, SqT.of ha, rfl, u, l, rfl, hl, by omega, fun H1 x1 s1 t1 => ?_⟩
      refine ⟨_, rfl, a, _, 2, _, rfl, rfl, SqT.of (s1 _ _ ha), rfl, z, r, rfl, hr'.same s1, by omega, fun H2 x2 s2 t2 => ?_⟩
      refine ⟨(by show 2 ≤ sizeLine; decide), fun p hp x dx hx hdx ne => ?_⟩
      have s12 := s1.trans s2
      have sp := same_new (o := .lst [.ref x1, .ref x2]) hp
      have s3 : Same (upd H2 p (.lst [.ref x1, .ref x2])) (upd (upd (upd H2 p (.lst [.ref x1, .ref x2])) dx (.own x)) x (.ins (wC K) dx [])) := same_two hdx (by rw [upd_ne (Ne.symm ne)]; exact hx)
      refine ⟨x, c, p, [.ref x1, .ref x2], dx, rfl, upd_same, .inl (SqL.of (s3 _ _ upd_same)), (by show fitB c 2 = true; rcases joint_two hc with rfl | rfl <;> rfl), (by show 2 ≤ 1000; decide), fun H' kept isw => ⟨rfl, ?_⟩⟩
      have s4 : Same H2 H' := fun b o y => kept b o (s3 _ _ (sp _ _ y)) (ne_of_none (sp _ _ y) hx)
      exact q H' x (s12.trans s4) ⟨hc, x1, x2, isw, t1.same (s2.trans s4), t2.same s4⟩
theorem ok_lword {fdI fd1 : FuncData} {dv : V} (F : FnP K "_law_word" iLWord (He.ga K "_law_word") fd) (T : Txt K mg) (Z : Wif K fdI dv fd1) : ∀ n, FnOk P w K mg base CX0 (4 + n) (He.ga K "_law_word") fd ["_law_tree_here"] (spLWord K n) := by
  intro n
  induction n with
  | zero => exact ok_lword1 F T Z 0 ⟨fun _ _ _ _ h => h.elim, fun _ _ _ _ _ _ _ _ _ _ _ _ _ h => h.elim⟩
  | succ n ih => exact ok_lword1 F T Z (n + 1) (by rw [show 3 + (n + 1) = 4 + n by omega]; exact ih)
end
end KX

set_option linter.all false
/-! # facts about what lies within what (no model) -/
namespace KW
abbrev Pr := Tr × Tr
def won (k : List Nat) (p : Pr) : Bool := isW (mk k p.1) (mk k p.2)
/-- the first pair that does not allow a kind -/
def brK (ps : List Pr) (k : List Nat) : Option Nat := ps.findIdx? fun p => !won k p
def okK (ps : List Pr) (k : List Nat) : Bool := ps.all fun p => won k p
def opK (ps : List Pr) : List (List Nat) := kinds.filter (okK ps)
def allW (ks : List (List Nat)) (q : Pr) : Bool := ks.all fun k => won k q
/-- the first pair that shows a clash -/
def clK (ps qs : List Pr) : Option Nat := qs.findIdx? (allW (opK ps))
def clB (ps qs : List Pr) : Bool := qs.any (allW (opK ps))
def keptK (ks : List (List Nat)) (p : Pr) : List (List Nat) := ks.filter fun k => won k p
/-- the indices of the pairs that a kind breaks -/
def brL (ps : List Pr) (k : List Nat) : List Nat := (List.range ps.length).filter fun i => match ps[i]? with | some p => !won k p | none => false
/-- the indices of the pairs that hold on all of some kinds -/
def lackL (qs : List Pr) (ks : List (List Nat)) : List Nat := (List.range qs.length).filter fun i => match qs[i]? with | some q => allW ks q | none => false
inductive Vd | clash | sure | opn | barred
deriving DecidableEq
def vd (ps qs : List Pr) (p : Pr) : Vd := if clB ps qs = true then .clash else if allW (opK ps) p = true then .sure else if (lackL qs (keptK (opK ps) p)).isEmpty = true then .opn else .barred
theorem brK_ok {ps : List Pr} {k : List Nat} : (brK ps k).isNone = okK ps k := by
  unfold brK okK
  induction ps with
  | nil => rfl
  | cons p ps ih =>
    rw [List.findIdx?_cons, List.all_cons]
    cases h : won k p with
    | true =>
      simp only [Bool.not_true, Bool.false_eq_true, if_false, Bool.true_and, Option.isNone_map]
      exact ih
    | false => rfl
theorem clK_none {ps qs : List Pr} : (clK ps qs).isSome = clB ps qs := by
  unfold clK clB
  rw [List.findIdx?_isSome]
theorem brL_nil {ps : List Pr} {k : List Nat} : (brL ps k).isEmpty = okK ps k := by
  rw [Bool.eq_iff_iff, List.isEmpty_iff]
  unfold brL okK
  rw [List.filter_eq_nil_iff, List.all_eq_true]
  constructor
  · intro h p hp
    obtain ⟨i, hi, e⟩ := List.mem_iff_getElem.mp hp
    have := h i (List.mem_range.mpr hi)
    rw [List.getElem?_eq_getElem hi, e] at this
    simpa using this
  · intro h i hi
    have hi' := List.mem_range.mp hi
    rw [List.getElem?_eq_getElem hi']
    simp [h _ (List.getElem_mem hi')]
theorem lackL_nil {qs : List Pr} {ks : List (List Nat)} : (lackL qs ks).isEmpty = !qs.any (allW ks) := by
  rw [Bool.eq_iff_iff, List.isEmpty_iff]
  unfold lackL
  rw [List.filter_eq_nil_iff, Bool.not_eq_true', List.any_eq_false]
  constructor
  · intro h q hq
    obtain ⟨i, hi, e⟩ := List.mem_iff_getElem.mp hq
    have := h i (List.mem_range.mpr hi)
    rw [List.getElem?_eq_getElem hi, e] at this
    simpa using this
  · intro h i hi
    have hi' := List.mem_range.mp hi
    rw [List.getElem?_eq_getElem hi']
    simpa using h _ (List.getElem_mem hi')
theorem opK_add {ps : List Pr} {p : Pr} : opK (ps ++ [p]) = keptK (opK ps) p := by
  unfold opK keptK
  rw [List.filter_filter]
  refine List.filter_congr fun k _ => ?_
  unfold okK
  rw [List.all_append, List.all_cons, List.all_nil, Bool.and_true, Bool.and_comm]
theorem clB_in {ps qs : List Pr} {p : Pr} : clB (ps ++ [p]) qs = !(lackL qs (keptK (opK ps) p)).isEmpty := by
  unfold clB
  rw [opK_add, lackL_nil, Bool.not_not]
theorem clB_out {ps qs : List Pr} {p : Pr} : clB ps (qs ++ [p]) = (clB ps qs || allW (opK ps) p) := by
  unfold clB
  rw [List.any_append, List.any_cons, List.any_nil, Bool.or_false]
theorem keptK_all {ks : List (List Nat)} {p : Pr} : allW ks p = true ↔ keptK ks p = ks := by
  unfold allW keptK
  rw [List.all_eq_true, List.filter_eq_self]
theorem kept_allW {ks : List (List Nat)} {p : Pr} : allW (keptK ks p) p = true := by
  unfold allW keptK
  rw [List.all_eq_true]
  intro k hk
  exact (List.mem_filter.mp hk).2
theorem vd_in {ps qs : List Pr} {p : Pr} (h : clB ps qs = false) : clB (ps ++ [p]) qs = decide (vd ps qs p = .barred) := by
  unfold vd
  rw [if_neg (by rw [h]; exact Bool.false_ne_true)]
  by_cases a : allW (opK ps) p = true
  · rw [if_pos a]
    have e := keptK_all.mp a
    unfold clB at *
    rw [opK_add, e, h]
    rfl
  · rw [if_neg a, clB_in]
    cases (lackL qs (keptK (opK ps) p)).isEmpty <;> rfl
theorem vd_out {ps qs : List Pr} {p : Pr} (h : clB ps qs = false) : clB ps (qs ++ [p]) = decide (vd ps qs p = .sure) := by
  unfold vd
  rw [if_neg (by rw [h]; exact Bool.false_ne_true), clB_out, h, Bool.false_or]
  cases allW (opK ps) p with
  | true => rfl
  | false =>
    rw [if_neg Bool.false_ne_true]
    cases (lackL qs (keptK (opK ps) p)).isEmpty <;> rfl
theorem vd_clash {ps qs : List Pr} {p : Pr} : vd ps qs p = .clash ↔ clB ps qs = true := by
  unfold vd
  constructor
  · intro h
    cases hc : clB ps qs with
    | true => rfl
    | false =>
      rw [if_neg (by rw [hc]; exact Bool.false_ne_true)] at h
      split at h
      · cases h
      · split at h <;> cases h
  · intro h
    rw [if_pos h]
theorem opK_sub {ps : List Pr} {p : Pr} : ∀ k ∈ opK (ps ++ [p]), k ∈ opK ps := by
  rw [opK_add]
  intro k hk
  exact (List.mem_filter.mp hk).1
end KW

set_option Elab.async false
set_option linter.all false
set_option maxRecDepth 100000
set_option maxHeartbeats 4000000
/-! # facts.py: pairs, papers -/
namespace KX
open PySem PySem.Spec PyProof.Rows L2 VX KW
open KV (top FnP defs iIsInt iHasAll iFits iWord iWithin iSumM iComM iLetM iMark iWon iFirstB iIsBr iWonAll iOpenK iFacts iTree iLWord iWords)
section
variable {P : Program} {w : World} {K : PySem.W.Frag} {mg : Str → Option Value} {base : Heap} {f : Addr} {fd : FuncData}
/-! ### pairs -/
/-- the pair of words at v -/
def IsPr (K : PySem.W.Frag) (H : Hp) (v : V) (p : Pr) : Prop := ∃ a x y, v = .ref a ∧ SqT K H a [.ref x, .ref y] ∧ IsTr K H x p.1 ∧ IsTr K H y p.2 ∧ dep p.1 ≤ 20 ∧ dep p.2 ≤ 20
def IsPrs (K : PySem.W.Frag) (H : Hp) (vs : List V) (ps : List Pr) : Prop := vs.length = ps.length ∧ ∀ (i : Nat) v p, vs[i]? = some v → ps[i]? = some p → IsPr K H v p
theorem IsPr.same {H H' : Hp} (s : Same H H') {v : V} {p : Pr} (h : IsPr K H v p) : IsPr K H' v p := by
  obtain ⟨a, x, y, e, h1, h2, h3, h4⟩ := h
  exact ⟨a, x, y, e, SqT.same s h1, h2.same s, h3.same s, h4⟩
theorem IsPrs.same {H H' : Hp} (s : Same H H') {vs : List V} {ps : List Pr} (h : IsPrs K H vs ps) : IsPrs K H' vs ps := ⟨h.1, fun i v p h1 h2 => (h.2 i v p h1 h2).same s⟩
theorem IsPrs.nil {H : Hp} : IsPrs K H [] [] := ⟨rfl, fun i v p h => by simp at h⟩
theorem IsPrs.add {H : Hp} {vs : List V} {ps : List Pr} {v : V} {p : Pr} (h : IsPrs K H vs ps) (q : IsPr K H v p) : IsPrs K H (vs ++ [v]) (ps ++ [p]) := by
  refine ⟨by simp [h.1], fun i u r h1 h2 => ?_⟩
  rw [List.getElem?_append] at h1 h2
  rw [← h.1] at h2
  by_cases c : i < vs.length
  · rw [if_pos c] at h1 h2
    exact h.2 i u r h1 h2
  · rw [if_neg c] at h1 h2
    by_cases z : i - vs.length = 0
    · rw [z] at h1 h2
      cases h1
      cases h2
      exact q
    · obtain ⟨m, e⟩ : ∃ m, i - vs.length = m + 1 := ⟨i - vs.length - 1, by omega⟩
      rw [e] at h1
      cases h1
theorem IsPrs.at {H : Hp} {vs : List V} {ps : List Pr} (h : IsPrs K H vs ps) {i : Nat} {v : V} (hv : vs[i]? = some v) : ∃ p, ps[i]? = some p ∧ IsPr K H v p := by
  obtain ⟨hi, _⟩ := List.getElem?_eq_some_iff.mp hv
  have hp : ps[i]? = some (ps[i]'(by rw [← h.1]; exact hi)) := List.getElem?_eq_getElem _
  exact ⟨_, hp, h.2 i v _ hv hp⟩
/-- what a store at b leaves alone: b is a list, a dict, an instance without words in it -/
inductive Lse : HO → Prop
  | lst (xs : List V) : Lse (.lst xs)
  | dic (kvs : List (Key × V)) : Lse (.dK kvs)
  | raw (C dx : Addr) : Lse (.ins C dx [])
  | one (C dx : Addr) (x : Str × V) : Lse (.ins C dx [x])
theorem keepT {H H' : Hp} {b a : Addr} {o : HO} {xs : List V} (hb : H b = some o) (l : Lse o) (k : Kept b H H') (h : SqT K H a xs) : SqT K H' a xs := by
  rcases h with (h | ⟨u, h⟩) | h
  · exact .inl (.inl (k _ _ h (by rintro rfl; rw [hb] at h; cases l <;> cases h)))
  · exact .inl (.inr ⟨u, k _ _ h (by rintro rfl; rw [hb] at h; cases l <;> cases h)⟩)
  · exact .inr h
theorem IsWd.keep {H H' : Hp} {b x : Addr} {o : HO} {c : Nat} {xs : List V} (hb : H b = some o) (l : Lse o) (k : Kept b H H') (h : IsWd K H x c xs) : IsWd K H' x c xs := by
  obtain ⟨dx, a, h1, h2⟩ := h
  exact ⟨dx, a, k _ _ h1 (by rintro rfl; rw [hb] at h1; cases l <;> cases h1), keepT hb l k h2⟩
theorem IsTr.keep {H H' : Hp} {b : Addr} {o : HO} (hb : H b = some o) (l : Lse o) (k : Kept b H H') : ∀ {t : Tr} {x : Addr}, IsTr K H x t → IsTr K H' x t
  | .lf _, _, h => ⟨h.1, h.2.keep hb l k⟩
  | .nd _ _ _, _, h => by
    obtain ⟨j, y, z, h1, h2, h3⟩ := h
    exact ⟨j, y, z, h1.keep hb l k, h2.keep hb l k, h3.keep hb l k⟩
theorem IsPr.keep {H H' : Hp} {b : Addr} {o : HO} (hb : H b = some o) (l : Lse o) (k : Kept b H H') {v : V} {p : Pr} (h : IsPr K H v p) : IsPr K H' v p := by
  obtain ⟨a, x, y, e, h1, h2, h3, h4⟩ := h
  exact ⟨a, x, y, e, keepT hb l k h1, h2.keep hb l k, h3.keep hb l k, h4⟩
theorem IsPrs.keep {H H' : Hp} {b : Addr} {o : HO} (hb : H b = some o) (l : Lse o) (k : Kept b H H') {vs : List V} {ps : List Pr} (h : IsPrs K H vs ps) : IsPrs K H' vs ps := ⟨h.1, fun i v p h1 h2 => (h.2 i v p h1 h2).keep hb l k⟩
/-! ### all defs of the text -/
abbrev sF (i : Nat) : Stmt := inClass (top iFacts) i
def fmets : List (Str × Nat) := [("kinds", 3), ("clashes", 4), ("verdict", 5), ("model", 6), ("reason", 7), ("clash_reason", 8), ("shows", 9), ("_supposed", 11), ("_check", 12), ("_paper", 13), ("_is_paper", 14), ("_is_never", 15)]
abbrev MtP (K : PySem.W.Frag) (x : Str) (i : Nat) (f : Addr) (fd : FuncData) : Prop := FunD K x (("Facts." : Str) ++ x) (defArgs (sF i)) (defBody (sF i)) (defScope (sF i)) [] [] f fd
structure Al (K : PySem.W.Frag) : Prop where
  d : ∀ p ∈ defs, ∃ fd, FnP K p.1 p.2 (He.ga K p.1) fd
  wi : ∃ (fd : FuncData) (a : Addr), FunD K "__init__" "Word.__init__" (defArgs sWI) (defBody sWI) (defScope sWI) [.ref a] [] (He.ma K (wC K) "__init__") fd ∧ ∀ H, SqT K H a []
  wg : ∃ fd, FunD K "sign" "Word.sign" (defArgs sSg) (defBody sSg) (defScope sSg) [] [] (propG K "sign") fd
  wp : ∃ fd, FunD K "parts" "Word.parts" (defArgs sPa) (defBody sPa) (defScope sPa) [] [] (propG K "parts") fd
  fi : ∃ (fd : FuncData) (a b : Addr), FunD K "__init__" "Facts.__init__" (defArgs (sF 0)) (defBody (sF 0)) (defScope (sF 0)) [] [("within", .ref a), ("not_within", .ref b)] (He.ma K (fC K) "__init__") fd ∧ (∀ H, SqT K H a []) ∧ ∀ H, SqT K H b []
  m : ∀ p ∈ fmets, Meth K (fC K) p.1 (He.ma K (fC K) p.1) ∧ ∃ fd, MtP K p.1 p.2 (He.ma K (fC K) p.1) fd
theorem Al.def (A : Al K) (x : Str) (i : Nat) (h : (x, i) ∈ defs := by decide +kernel) : ∃ fd, FnP K x i (He.ga K x) fd := A.d (x, i) h
theorem Al.met (A : Al K) (x : Str) (i : Nat) (h : (x, i) ∈ fmets := by decide +kernel) : Meth K (fC K) x (He.ma K (fC K) x) ∧ ∃ fd, MtP K x i (He.ma K (fC K) x) fd := A.m (x, i) h
theorem Al.mkf (A : Al K) : ∃ fdW fdS fdC fdL fdg fdp, Mkf K fdW fdS fdC fdL fdg fdp := by
  obtain ⟨a, ha⟩ := A.def "is_within" iWithin
  obtain ⟨b, hb⟩ := A.def "sum_mark" iSumM
  obtain ⟨c, hc⟩ := A.def "common_mark" iComM
  obtain ⟨d, hd⟩ := A.def "letter_mark" iLetM
  obtain ⟨e, he⟩ := A.wg
  obtain ⟨g, hg⟩ := A.wp
  exact ⟨a, b, c, d, e, g, ha, hb, hc, hd, he, hg⟩
theorem g_won (T : Txt K mg) (A : Al K) : ∃ fd, FnP K "within_on" iWon (He.ga K "within_on") fd ∧ FnOk P w K mg base CX0 25 (He.ga K "within_on") fd ["one", "other", "kind"] (spWon K) ∧ Binds K fd ["one", "other", "kind"] [] := by
  obtain ⟨fd, F⟩ := A.def "within_on" iWon
  obtain ⟨fdm, M⟩ := A.def "mark" iMark
  obtain ⟨_, _, _, _, _, _, Z⟩ := A.mkf
  exact ⟨fd, F, ok_won F T M Z, F.bindsN fun _ _ _ _ _ _ us hl => match us, hl with | [_, _, _], _ => rfl⟩
/-! ### first_breach -/
def optN : Option Nat → V
  | none => .non
  | some i => .int i
theorem optN_non {o : Option Nat} : decide (optN o = V.non) = o.isNone := by cases o <;> rfl
theorem fi_at {g : Pr → Bool} {ps : List Pr} {i : Nat} {p : Pr} (hp : ps[i]? = some p) (h : g p = true) (hn : ∀ j, j < i → ∀ p, ps[j]? = some p → g p = false) : ps.findIdx? g = some i := by
  rw [List.findIdx?_eq_some_iff_getElem]
  obtain ⟨hi, e⟩ := List.getElem?_eq_some_iff.mp hp
  refine ⟨hi, by rw [e]; exact h, fun j hj => ?_⟩
  rw [hn j hj _ (List.getElem?_eq_getElem (by omega))]
  exact Bool.false_ne_true
theorem fi_no {g : Pr → Bool} {ps : List Pr} (h : ∀ (i : Nat) p, ps[i]? = some p → g p = false) : ps.findIdx? g = none := by
  rw [List.findIdx?_eq_none_iff]
  intro p hp
  obtain ⟨i, hi⟩ := List.mem_iff_getElem?.mp hp
  exact h i p hi
def spFB (K : PySem.W.Frag) : Sp := fun vs H Q _ => ∃ (a : Addr) (xs : List V) (ps : List Pr) (k : List Nat), vs = [.ref a, .str (kS k)] ∧ SqT K H a xs ∧ IsPrs K H xs ps ∧ ∀ H', Same H H' → Q (optN (brK ps k)) H'
abbrev nFB : List Str := ["pairs", "kind", "at", "one", "other"]
theorem sc_fb : FnScope nFB ["pairs", "kind"] (defScope (top iFirstB)) := ⟨rfl, rfl, rfl, by decide +kernel, rfl, by decide +kernel, by decide +kernel⟩

theorem g_fb (T : Txt K mg) (A : Al K) : ∃ fd, FnP K "first_breach" iFirstB (He.ga K "first_breach") fd ∧ FnOk P w K mg base CX0 26 (He.ga K "first_breach") fd ["pairs", "kind"] (spFB K) ∧ Binds K fd ["pairs", "kind"] [] := by
  obtain ⟨fdN, FN, GN, BN⟩ := g_won (P := P) (w := w) (base := base) T A
  obtain ⟨fd, F⟩ := A.def "first_breach" iFirstB
  refine ⟨fd, F, ?_, F.bindsN fun _ _ _ _ _ _ us hl => match us, hl with | [_, _], _ => rfl⟩
  refine F.ok sc_fb (fun vs H Q E h => ?_) (fun cdv A outer s H vs Q E hr h => ?_)
  · obtain ⟨a, xs, ps, k, rfl, _⟩ := h
    rfl
  · obtain ⟨a, xs, ps, k, rfl, ha, hp, q⟩ := h
    have nd := sc_fb.nd
    refine ⟨_, PSs.nox (pss_cons (ps_for PassesOwn.never rfl (pi_enumT (by rfl) (T.fr "enumerate") (pa_cons (pv 0) pa_nil)) (pg_tup (by rfl) (pgs_cons (pg_name (i := 2) nd rfl (.inl rfl)) (pgs_cons (pg_tup (by rfl) (pgs_cons (pg_name (i := 3) nd rfl (.inl rfl)) (pgs_cons (pg_name (i := 4) nd rfl (.inl rfl)) pgs_nil))) pgs_nil))) (pss_one (ps_if (pt_not (pt_val (pe_call GN hr (by rfl) (T.df "within_on" iWon) FN.kp BN .nil pass0 (pa_cons (pv 3) (pa_cons (pv 4) (pa_cons (pv 1) pa_nil)))))) (pss_one (ps_ret (pv 2))) pss_nil))) (pss_one (ps_ret pe_non))), ?_⟩
    refine ⟨_, rfl, a, _, rfl, ha, for_it walk_enumT (fun i σ H' => (∃ y1 y2 y3, σ = [some (V.ref a), some (V.str (kS k)), y1, y2, y3]) ∧ Same H H' ∧ ∀ j, j < i → ∀ p, ps[j]? = some p → (fun p => !won k p) p = false) ⟨⟨none, none, none, rfl⟩, Same.refl _, fun j hj => absurd hj (Nat.not_lt_zero j)⟩ (fun i σ H' _ z => SqT.same z.2.1 ha) ?_ ?_⟩
    · rintro i x σ H1 H2 hi ⟨⟨y1, y2, y3, rfl⟩, sm, hn⟩ ⟨T', x', y', rfl, hT, rfl, e1, e2⟩
      obtain rfl : V.int (i : Nat) = x' := Option.some.inj e1
      obtain ⟨p, hpi, u, x, y, rfl, hu, hx, hy, dx, dy⟩ := hp.at e2
      have s1 : Same H (upd H1 T' (.tup [.int (i : Nat), .ref u])) := sm.trans (same_new hT)
      refine ⟨T', _, rfl, SqT.of upd_same, rfl, _, _, rfl, _, _, rfl, u, _, rfl, SqT.same s1 hu, rfl, _, _, rfl, _, _, rfl, rfl, rfl, ?_⟩
      refine ⟨_, rfl, _, rfl, _, rfl, x, y, p.1, p.2, k, rfl, hx.same s1, hy.same s1, dx, dy, fun H3 s3 => ⟨_, rfl, ?_⟩⟩
      have s13 := s1.trans s3
      cases hw : isW (mk k p.1) (mk k p.2) with
      | false =>
        refine iteT ⟨_, rfl, ?_⟩
        have e : brK ps k = some i := fi_at hpi (by show (!isW (mk k p.1) (mk k p.2)) = true; rw [hw]; rfl) hn
        rw [e] at q
        exact q _ s13
      | true =>
        refine iteF ⟨⟨_, _, _, rfl⟩, s13, fun j hj p2 hp2 => ?_⟩
        by_cases e : j = i
        · subst e
          rw [hpi] at hp2
          cases hp2
          show (!isW (mk k p.1) (mk k p.2)) = false
          rw [hw]
          rfl
        · exact hn j (by omega) p2 hp2
    · rintro σ H1 ⟨⟨y1, y2, y3, rfl⟩, sm, hn⟩
      have e : brK ps k = none := fi_no fun i p hpi => hn i (by
        obtain ⟨hi, _⟩ := List.getElem?_eq_some_iff.mp hpi
        rw [hp.1]
        exact hi) p hpi
      rw [e] at q
      exact q _ sm
/-! ### within_on_all -/
def kvL (ks : List (List Nat)) : List V := ks.map fun k => V.str (kS k)
theorem kvL_at {ks : List (List Nat)} {i : Nat} {v : V} (h : (kvL ks)[i]? = some v) : ∃ k, ks[i]? = some k ∧ v = .str (kS k) := by
  unfold kvL at h
  rw [List.getElem?_map] at h
  cases e : ks[i]? with
  | none => rw [e] at h; cases h
  | some k => rw [e] at h; exact ⟨k, rfl, (Option.some.inj h).symm⟩
def spWA (K : PySem.W.Frag) : Sp := fun vs H Q _ => ∃ (v : V) (p : Pr) (l : Addr) (ks : List (List Nat)), vs = [v, .ref l] ∧ IsPr K H v p ∧ SqL K H l (kvL ks) ∧ ks.length ≤ 1000 ∧ ∀ H', Same H H' → Q (.bl (allW ks p)) H'
theorem SqL.same {H H' : Hp} {a : Addr} {xs : List V} (s : Same H H') (h : SqL K H a xs) : SqL K H' a xs := by
  rcases h with (h | ⟨o, h⟩) | h
  · exact .inl (.inl (s _ _ h))
  · exact .inl (.inr ⟨o, s _ _ h⟩)
  · exact .inr h
abbrev nWA : List Str := ["pair", "kinds", "one", "other", "kind"]
theorem sc_wa : FnScope nWA ["pair", "kinds"] (defScope (top iWonAll)) := ⟨rfl, rfl, rfl, by decide +kernel, rfl, by decide +kernel, by decide +kernel⟩

theorem g_wa (T : Txt K mg) (A : Al K) : ∃ fd, FnP K "within_on_all" iWonAll (He.ga K "within_on_all") fd ∧ FnOk P w K mg base CX0 26 (He.ga K "within_on_all") fd ["pair", "kinds"] (spWA K) ∧ Binds K fd ["pair", "kinds"] [] := by
  obtain ⟨fdN, FN, GN, BN⟩ := g_won (P := P) (w := w) (base := base) T A
  obtain ⟨fd, F⟩ := A.def "within_on_all" iWonAll
  refine ⟨fd, F, ?_, F.bindsN fun _ _ _ _ _ _ us hl => match us, hl with | [_, _], _ => rfl⟩
  refine F.ok sc_wa (fun vs H Q E h => ?_) (fun cdv A outer s H vs Q E hr h => ?_)
  · obtain ⟨v, p, l, ks, rfl, _⟩ := h
    rfl
  · obtain ⟨v, p, l, ks, rfl, ⟨u, x, y, rfl, hu, hx, hy, dx, dy⟩, hl, hks, q⟩ := h
    have nd := sc_wa.nd
    refine ⟨_, PSs.nox (pss_cons (ps_asg (pv 0) (pg_tup (by rfl) (pgs_cons (pg_name (i := 2) nd rfl (.inr rfl)) (pgs_cons (pg_name (i := 3) nd rfl (.inr rfl)) pgs_nil)))) (pss_one (ps_ret (pe_callB (cr_all rfl) (by rfl) (T.fr "all") (by decide +kernel) (pa_cons (pe_lc (own := [("kind", 4)]) (g := gName 4) (by rfl) nd (pi_list (pv 1)) (blkOk_by (own := [("kind", 4)]) (N := nWA) (sc := defScope (top iWonAll)) (by decide +kernel)) (fun _ _ _ _ _ => pg_name (i := 4) nd rfl (Or.inl rfl)) (fun _ _ _ _ _ => pts_nil) (fun _ _ _ _ _ => pe_call GN hr (by rfl) (T.df "within_on" iWon) FN.kp BN .nil pass0 (pa_cons (pv 2) (pa_cons (pv 3) (pa_cons (pv 4) pa_nil))))) pa_nil))))), ?_⟩
    refine ⟨_, rfl, u, _, rfl, hu, rfl, _, _, rfl, _, _, rfl, rfl, ?_⟩
    refine ⟨_, rfl, l, rfl, ⟨_, hl⟩, fun D hD => lc_it (walk_list (K := K) (a := l) (xs := kvL ks)) (fun i H' => Same H H' ∧ H' D = some (.lst (((ks.take i).map fun k => won k p).map V.bl))) ⟨same_new hD, upd_same⟩ (fun i H' _ z => SqL.same z.1 hl) ?_ ?_⟩
    · rintro i v H1 H2 hi ⟨sm, hDl⟩ ⟨rfl, hv⟩
      obtain ⟨k, hk, rfl⟩ := kvL_at hv
      refine ⟨rfl, yes_if ?_⟩
      refine ⟨_, rfl, _, rfl, _, rfl, x, y, p.1, p.2, k, rfl, hx.same sm, hy.same sm, dx, dy, fun H3 s3 => ⟨_, s3 _ _ hDl, lt_line (by simp only [List.length_map]; have := List.length_take_le' i ks; omega), Same.grow (sm.trans s3) hD, ?_⟩⟩
      rw [upd_same, take_more (g := fun k => won k p) hk, List.map_append]
      rfl
    · rintro H1 ⟨sm, hDl⟩
      have e : (kvL ks).length = ks.length := by simp [kvL]
      rw [e, List.take_length] at hDl
      refine ⟨D, _, rfl, SqL.of hDl, ?_⟩
      have := q _ sm
      unfold allW at this
      rw [List.all_map]
      exact this
/-! ### open_kinds -/
theorem filt_yes {α : Type} {xs : List α} {i : Nat} {x : α} {c : α → Bool} (h : xs[i]? = some x) (hc : c x = true) : (xs.take (i + 1)).filter c = (xs.take i).filter c ++ [x] := by
  rw [List.take_succ, h, List.filter_append]
  simp [hc]
theorem filt_no {α : Type} {xs : List α} {i : Nat} {x : α} {c : α → Bool} (h : xs[i]? = some x) (hc : c x = false) : (xs.take (i + 1)).filter c = (xs.take i).filter c := by
  rw [List.take_succ, h, List.filter_append]
  simp [hc]
theorem kvL_len {ks : List (List Nat)} : (kvL ks).length = ks.length := by simp [kvL]
theorem filt_le {c : List Nat → Bool} {i : Nat} : ((kinds.take i).filter c).length ≤ 9 := Nat.le_trans (List.length_filter_le _ _) (List.length_take_le' _ _)
def spOK : Sp := fun vs H Q _ => ∃ (d : Addr) (kvs : List (Key × V)) (g : List Nat → V), vs = [.ref d] ∧ H d = some (.dK kvs) ∧ (∀ k ∈ kinds, valV kvs (.inr (kS k)) = some (g k)) ∧
  ∀ H' l, Same H H' → H l = none → H' l = some (.lst (kvL (kinds.filter fun k => decide (g k = .non)))) → Q (.ref l) H'
abbrev nOK : List Str := ["paper", "kind"]
theorem sc_ok : FnScope nOK ["paper"] (defScope (top iOpenK)) := ⟨rfl, rfl, rfl, by decide +kernel, rfl, by decide +kernel, by decide +kernel⟩

theorem g_ok (T : Txt K mg) (A : Al K) : ∃ fd, FnP K "open_kinds" iOpenK (He.ga K "open_kinds") fd ∧ FnOk P w K mg base CX0 1 (He.ga K "open_kinds") fd ["paper"] spOK ∧ Binds K fd ["paper"] [] := by
  obtain ⟨fd, F⟩ := A.def "open_kinds" iOpenK
  refine ⟨fd, F, ?_, F.bindsN fun _ _ _ _ _ _ us hl => match us, hl with | [_], _ => rfl⟩
  refine F.ok sc_ok (fun vs H Q E h => ?_) (fun cdv A outer s H vs Q E hr h => ?_)
  · obtain ⟨d, kvs, g, rfl, _⟩ := h
    rfl
  · obtain ⟨d, kvs, g, rfl, hd, hg, q⟩ := h
    have nd := sc_ok.nd
    have hu := hu_of hr
    refine ⟨_, PSs.nox (pss_one (ps_ret (pe_lc (own := [("kind", 1)]) (g := gName 1) (by rfl) nd (pi_tup (pe_glob (v := .ref (He.ga K "KINDS")) (by rfl) T.kinds rfl)) (blkOk_by (own := [("kind", 1)]) (N := nOK) (sc := defScope (top iOpenK)) (by decide +kernel)) (fun _ _ _ _ _ => pg_name (i := 1) nd rfl (Or.inl rfl)) (fun _ _ _ _ _ => pts_one (pt_cmpR op_isN (pe_dget hu (pv 0) (pv 1) (fun _ _ => rfl)) pe_non (nomark _))) (fun _ _ _ _ _ => pv 1)))), ?_⟩
    refine ⟨_, rfl, ⟨_, T.ktup _⟩, fun D hD => lc_it (walk_tup (K := K) (a := He.ga K "KINDS") (xs := kindV)) (fun i H' => Same H H' ∧ H' D = some (.lst (kvL ((kinds.take i).filter fun k => decide (g k = .non))))) ⟨same_new hD, upd_same⟩ (fun i H' _ _ => T.ktup H') ?_ ?_⟩
    · rintro i v H1 H2 hi ⟨sm, hDl⟩ ⟨rfl, hv⟩
      obtain ⟨k, hk, rfl⟩ := kind_at hv
      have get : DGet H2 d (.str (kS k)) (some (g k)) := by
        have := DGet.k (k := Sum.inr (kS k)) (sm _ _ hd)
        rw [hg k (List.mem_of_getElem? hk)] at this
        exact this
      refine ⟨rfl, _, rfl, _, rfl, d, _, rfl, get, rfl, _, rfl, ?_⟩
      refine ite2 (fun h => ?_) (fun h => ?_)
      · refine ⟨_, rfl, _, hDl, lt_line (by rw [kvL_len]; exact Nat.le_trans filt_le (by decide)), Same.grow sm hD, ?_⟩
        rw [upd_same, filt_yes (c := fun k => decide (g k = .non)) hk h]
        simp only [kvL, List.map_append]
        rfl
      · refine ⟨sm, ?_⟩
        rw [filt_no (c := fun k => decide (g k = .non)) hk (Bool.eq_false_iff.mpr h)]
        exact hDl
    · rintro H1 ⟨sm, hDl⟩
      exact q _ _ sm hD hDl
end
end KX

set_option Elab.async false
set_option linter.all false
set_option maxRecDepth 100000
set_option maxHeartbeats 4000000
/-! # facts.py: Facts -/
namespace KX
open PySem PySem.Spec PyProof.Rows L2 VX KW
open KV (top FnP defs iIsInt iHasAll iFits iWord iWithin iSumM iComM iLetM iMark iWon iFirstB iIsBr iWonAll iOpenK iFacts iTree iLWord iWords)
section
variable {P : Program} {w : World} {K : PySem.W.Frag} {mg : Str → Option Value} {base : Heap} {f : Addr} {fd : FuncData}
/-- the facts at x -/
def IsFa (K : PySem.W.Frag) (H : Hp) (x : Addr) (ps qs : List Pr) : Prop := ∃ dx a b xs us, H x = some (.ins (fC K) dx [("_within", .ref a), ("_not_within", .ref b)]) ∧ SqT K H a xs ∧ IsPrs K H xs ps ∧ SqT K H b us ∧ IsPrs K H us qs ∧ ps.length ≤ 100 ∧ qs.length ≤ 100
theorem IsFa.same {H H' : Hp} (s : Same H H') {x : Addr} {ps qs : List Pr} (h : IsFa K H x ps qs) : IsFa K H' x ps qs := by
  obtain ⟨dx, a, b, xs, us, h1, h2, h3, h4, h5, h6⟩ := h
  exact ⟨dx, a, b, xs, us, s _ _ h1, SqT.same s h2, h3.same s, SqT.same s h4, h5.same s, h6⟩
theorem IsFa.keep {H H' : Hp} {b x : Addr} {o : HO} (hb : H b = some o) (l : Lse o) (k : Kept b H H') {ps qs : List Pr} (h : IsFa K H x ps qs) : IsFa K H' x ps qs := by
  obtain ⟨dx, a, c, xs, us, h1, h2, h3, h4, h5, h6⟩ := h
  exact ⟨dx, a, c, xs, us, k _ _ h1 (by rintro rfl; rw [hb] at h1; cases l <;> cases h1), keepT hb l k h2, h3.keep hb l k, keepT hb l k h4, h5.keep hb l k, h6⟩
theorem keepL {H H' : Hp} {b a : Addr} {C dx : Addr} {fs : List (Str × V)} {xs : List V} (hb : H b = some (.ins C dx fs)) (k : Kept b H H') (h : SqL K H a xs) : SqL K H' a xs := seqL_keep hb k h
/-! ### Facts.__init__ -/
def spFI (K : PySem.W.Frag) : Sp := fun vs H Q _ => ∃ (x a b dx : Addr) (xs us : List V) (ps qs : List Pr), vs = [.ref x, .ref a, .ref b] ∧ H x = some (.ins (fC K) dx []) ∧ (SqL K H a xs ∨ SqT K H a xs) ∧ IsPrs K H xs ps ∧ (SqL K H b us ∨ SqT K H b us) ∧ IsPrs K H us qs ∧ ps.length ≤ 100 ∧ qs.length ≤ 100 ∧
  ∀ H', Kept x H H' → IsFa K H' x ps qs → Q .non H'
abbrev nIni : List Str := ["self", "within", "not_within"]
theorem sc_ini : FnScope nIni ["self", "within", "not_within"] (defScope (sF 0)) := ⟨rfl, rfl, rfl, by decide +kernel, rfl, by decide +kernel, by decide +kernel⟩

theorem ok_fi {da db : V} (F : FunD K "__init__" "Facts.__init__" (defArgs (sF 0)) (defBody (sF 0)) (defScope (sF 0)) [] [("within", da), ("not_within", db)] f fd) (T : Txt K mg) : FnOk P w K mg base CX0 1 f fd ["self", "within", "not_within"] (spFI K) := by
  refine F.ok sc_ini (fun vs H Q E h => ?_) (fun cdv A outer s H vs Q E hr h => ?_)
  · obtain ⟨x, a, b, dx, xs, us, ps, qs, rfl, _⟩ := h
    rfl
  · obtain ⟨x, a, b, dx, xs, us, ps, qs, rfl, hx, ha, hp, hb, hq, lp, lq, q⟩ := h
    refine ⟨_, PSs.nox (pss_cons (ps_fld (pv 0) (pe_callTy (call_tupK K) (by rfl) (T.fr "tuple") (by decide +kernel) (pa_cons (pv 1) pa_nil)) rfl) (pss_one (ps_fld (pv 0) (pe_callTy (call_tupK K) (by rfl) (T.fr "tuple") (by decide +kernel) (pa_cons (pv 2) pa_nil)) rfl))), ?_⟩
    refine ⟨_, rfl, ?_⟩
    refine tup_use ha fun t1 H1 s1 h1 => ?_
    refine ⟨_, rfl, x, _, dx, [], rfl, s1 _ _ hx, T.fcls, T.ffw, by decide, ?_⟩
    have x2 : upd H1 x (.ins (fC K) dx (putF "_within" (V.ref t1) [])) x = some (.ins (fC K) dx [("_within", .ref t1)]) := upd_same
    have k2 : Kept x H1 (upd H1 x (.ins (fC K) dx (putF "_within" (V.ref t1) []))) := fun c o z ne => by rw [upd_ne ne]; exact z
    have kb : Kept x H (upd H1 x (.ins (fC K) dx (putF "_within" (V.ref t1) []))) := fun c o z ne => k2 c o (s1 _ _ z) ne
    have t1b := keepT (s1 _ _ hx) (.raw _ _) k2 h1
    generalize upd H1 x (.ins (fC K) dx (putF "_within" (V.ref t1) [])) = H2 at x2 k2 kb t1b
    have hb2 : SqL K H2 b us ∨ SqT K H2 b us := hb.elim (fun h => .inl (keepL hx kb h)) (fun h => .inr (keepT hx (.raw _ _) kb h))
    refine ⟨_, rfl, ?_⟩
    refine tup_use hb2 fun t2 H3 s3 h3 => ?_
    refine ⟨_, rfl, x, _, dx, _, rfl, s3 _ _ x2, T.fcls, T.ffn, (by show 1 < 1000; decide), ?_⟩
    have k4 : Kept x H3 (upd H3 x (.ins (fC K) dx (putF "_not_within" (V.ref t2) [("_within", V.ref t1)]))) := fun c o z ne => by rw [upd_ne ne]; exact z
    have k5 : Kept x H (upd H3 x (.ins (fC K) dx (putF "_not_within" (V.ref t2) [("_within", V.ref t1)]))) := fun c o z ne => k4 c o (s3 _ _ (kb c o z ne)) ne
    have x3 := s3 _ _ x2
    exact q _ k5 ⟨dx, t1, t2, xs, us, upd_same, keepT x3 (.one _ _ _) k4 (SqT.same s3 t1b), hp.keep hx (.raw _ _) k5, keepT x3 (.one _ _ _) k4 h3, hq.keep hx (.raw _ _) k5, lp, lq⟩
/-! ### _paper -/
def papK (ps : List Pr) : List Nat → V := fun k => optN (brK ps k)
def spPap (K : PySem.W.Frag) : Sp := fun vs H Q _ => ∃ (x : Addr) (ps qs : List Pr), vs = [.ref x] ∧ IsFa K H x ps qs ∧ ∀ H' d, Same H H' → H d = none → H' d = some (.dK (dictK (papK ps))) → Q (.ref d) H'
abbrev nPap : List Str := ["self", "kind"]
theorem sc_pap : FnScope nPap ["self"] (defScope (sF 13)) := ⟨rfl, rfl, rfl, by decide +kernel, rfl, by decide +kernel, by decide +kernel⟩

theorem g_pap (T : Txt K mg) (A : Al K) : Meth K (fC K) "_paper" (He.ma K (fC K) "_paper") ∧ ∃ fd, FnOk P w K mg base CX0 27 (He.ma K (fC K) "_paper") fd ["self"] (spPap K) ∧ Binds K fd ["self"] [] := by
  obtain ⟨fdB, FB, GB, BB⟩ := g_fb (P := P) (w := w) (base := base) T A
  obtain ⟨M, fd, F⟩ := A.met "_paper" 13
  refine ⟨M, fd, ?_, F.bindsN fun _ _ _ _ _ _ us hl => match us, hl with | [_], _ => rfl⟩
  refine F.ok sc_pap (fun vs H Q E h => ?_) (fun cdv A outer s H vs Q E hr h => ?_)
  · obtain ⟨x, ps, qs, rfl, _⟩ := h
    rfl
  · obtain ⟨x, ps, qs, rfl, hx, q⟩ := h
    obtain ⟨dx, a, b, xs, us, h1, h2, h3, _⟩ := id hx
    have nd := sc_pap.nd
    refine ⟨_, PSs.nox (pss_one (ps_ret (pe_dc (own := [("kind", 1)]) (g := gName 1) (tt := tYes) rfl nd (pi_tup (pe_glob (v := .ref (He.ga K "KINDS")) (by rfl) T.kinds rfl)) (blkOk_by (own := [("kind", 1)]) (N := nPap) (sc := defScope (sF 13)) (by decide +kernel)) (fun _ _ _ _ _ => pg_name (i := 1) nd rfl (Or.inl rfl)) (fun _ _ _ _ _ => pts_nil) (fun _ _ _ _ _ => pv 1) (fun _ _ _ _ _ => pe_call GB hr (by rfl) (T.df "first_breach" iFirstB) FB.kp BB .nil pass0 (pa_cons (pe_fldK K (pv 0) rfl) (pa_cons (pv 1) pa_nil)))))), ?_⟩
    refine ⟨_, rfl, ⟨_, T.ktup _⟩, fun D hD => dc_tup (K := K) (xs := kindV) (fun i H' => Same H H' ∧ H' D = some (.dK ((dictK (papK ps)).take i))) ⟨same_new hD, upd_same⟩ (fun i H' _ _ => T.ktup H') ?_ ?_⟩
    · rintro i v H1 hv ⟨sm, hDl⟩
      obtain ⟨k, hk, rfl⟩ := kind_at hv
      refine ⟨rfl, yes_if ?_⟩
      refine ⟨_, rfl, _, rfl, x, _, dx, _, .ref a, rfl, sm _ _ h1, T.fcls, T.ffw, rfl, _, rfl, a, xs, ps, k, rfl, SqT.same sm h2, h3.same sm, fun H2 s2 => ⟨_, Sum.inr (kS k), rfl, s2 _ _ hDl, lt_line (Nat.le_trans (List.length_take_le' _ _) (by show 9 ≤ 100000; decide)), Same.grow (sm.trans s2) hD, ?_⟩⟩
      rw [upd_same]
      exact congrArg (fun z => some (HO.dK z)) (dictK_put (papK ps) hk)
    · rintro H1 ⟨sm, hDl⟩
      exact q _ _ sm hD hDl
theorem pap_get {ps : List Pr} : ∀ k ∈ kinds, valV (dictK (papK ps)) (.inr (kS k)) = some (papK ps k) := fun k hk => by
  obtain ⟨i, hi⟩ := List.mem_iff_getElem?.mp hk
  exact dictK_get _ hi
theorem pap_op {ps : List Pr} : (kinds.filter fun k => decide (papK ps k = .non)) = opK ps := by
  unfold opK
  refine List.filter_congr fun k _ => ?_
  unfold papK
  rw [optN_non, brK_ok]
/-! ### kinds -/
def spKnd (K : PySem.W.Frag) : Sp := fun vs H Q _ => ∃ (x : Addr) (ps qs : List Pr), vs = [.ref x] ∧ IsFa K H x ps qs ∧ ∀ H' l, Same H H' → H l = none → H' l = some (.lst (kvL (opK ps))) → Q (.ref l) H'
abbrev nKnd : List Str := ["self"]
theorem sc_knd : FnScope nKnd ["self"] (defScope (sF 3)) := ⟨rfl, rfl, rfl, by decide +kernel, rfl, by decide +kernel, by decide +kernel⟩

theorem g_knd (T : Txt K mg) (A : Al K) : Meth K (fC K) "kinds" (He.ma K (fC K) "kinds") ∧ ∃ fd, FnOk P w K mg base CX0 28 (He.ma K (fC K) "kinds") fd ["self"] (spKnd K) ∧ Binds K fd ["self"] [] := by
  obtain ⟨MP, fdP, GP, BP⟩ := g_pap (P := P) (w := w) (base := base) T A
  obtain ⟨fdO, FO, GO, BO⟩ := g_ok (P := P) (w := w) (base := base) T A
  obtain ⟨M, fd, F⟩ := A.met "kinds" 3
  refine ⟨M, fd, ?_, F.bindsN fun _ _ _ _ _ _ us hl => match us, hl with | [_], _ => rfl⟩
  refine F.ok sc_knd (fun vs H Q E h => ?_) (fun cdv A outer s H vs Q E hr h => ?_)
  · obtain ⟨x, ps, qs, rfl, _⟩ := h
    rfl
  · obtain ⟨x, ps, qs, rfl, hx, q⟩ := h
    obtain ⟨dx, a, b, xs, us, h1, h2, h3, _⟩ := id hx
    have hr1 : Room 1 _ := hr.mono (by decide)
    refine ⟨_, PSs.nox (pss_one (ps_ret (pe_call GO hr1 (by rfl) (T.df "open_kinds" iOpenK) FO.kp BO .nil pass0 (pa_cons (pe_meth0 (pv 0) T.fcls MP GP hr BP .nil pass0) pa_nil)))), ?_⟩
    refine ⟨_, rfl, x, dx, _, rfl, h1, rfl, x, ps, qs, rfl, hx, fun H1 d s1 hd hdd => ⟨d, _, papK ps, rfl, hdd, pap_get, fun H2 l s2 hl hll => ?_⟩⟩
    rw [pap_op] at hll
    exact q _ _ (s1.trans s2) (s1.free hl) hll
/-! ### clash_reason, clashes -/
def IsCR (H H' : Hp) (v : V) (ps : List Pr) : Option Nat → Prop
  | none => v = .non
  | some i => ∃ t d, v = .ref t ∧ H t = none ∧ H' t = some (.tup [.int i, .ref d]) ∧ H d = none ∧ H' d = some (.dK (dictK (papK ps))) ∧ t ≠ d
def spCr (K : PySem.W.Frag) : Sp := fun vs H Q _ => ∃ (x : Addr) (ps qs : List Pr), vs = [.ref x] ∧ IsFa K H x ps qs ∧ ∀ H' v, Same H H' → IsCR H H' v ps (clK ps qs) → Q v H'
abbrev nCr : List Str := ["self", "paper", "left", "at", "pair"]
theorem sc_cr : FnScope nCr ["self"] (defScope (sF 8)) := ⟨rfl, rfl, rfl, by decide +kernel, rfl, by decide +kernel, by decide +kernel⟩

theorem g_cr (T : Txt K mg) (A : Al K) : Meth K (fC K) "clash_reason" (He.ma K (fC K) "clash_reason") ∧ ∃ fd, FnOk P w K mg base CX0 28 (He.ma K (fC K) "clash_reason") fd ["self"] (spCr K) ∧ Binds K fd ["self"] [] := by
  obtain ⟨MP, fdP, GP, BP⟩ := g_pap (P := P) (w := w) (base := base) T A
  obtain ⟨fdO, FO, GO, BO⟩ := g_ok (P := P) (w := w) (base := base) T A
  obtain ⟨fdA, FA, GA, BA⟩ := g_wa (P := P) (w := w) (base := base) T A
  obtain ⟨M, fd, F⟩ := A.met "clash_reason" 8
  refine ⟨M, fd, ?_, F.bindsN fun _ _ _ _ _ _ us hl => match us, hl with | [_], _ => rfl⟩
  refine F.ok sc_cr (fun vs H Q E h => ?_) (fun cdv A outer s H vs Q E hr h => ?_)
  · obtain ⟨x, ps, qs, rfl, _⟩ := h
    rfl
  · obtain ⟨x, ps, qs, rfl, hx, q⟩ := h
    obtain ⟨dx, a, b, xs, us, h1, h2, h3, h4, h5, _⟩ := id hx
    have hr1 : Room 1 _ := hr.mono (by decide)
    have hr2 : Room 26 _ := hr.mono (by decide)
    have nd := sc_cr.nd
    have l9 : (opK ps).length ≤ 1000 := Nat.le_trans (List.length_filter_le _ _) (by decide)
    refine ⟨_, PSs.nox (pss_cons (ps_set (i := 1) nd rfl (.inl rfl) (pe_meth0 (pv 0) T.fcls MP GP hr BP .nil pass0)) (pss_cons (ps_set (i := 2) nd rfl (.inl rfl) (pe_call GO hr1 (by rfl) (T.df "open_kinds" iOpenK) FO.kp BO .nil pass0 (pa_cons (pv 1) pa_nil))) (pss_cons (ps_for PassesOwn.never rfl (pi_enumT (by rfl) (T.fr "enumerate") (pa_cons (pe_fld (pv 0) rfl) pa_nil)) (pg_tup (by rfl) (pgs_cons (pg_name (i := 3) nd rfl (.inl rfl)) (pgs_cons (pg_name (i := 4) nd rfl (.inl rfl)) pgs_nil))) (pss_one (ps_if (pt_val (pe_call GA hr2 (by rfl) (T.df "within_on_all" iWonAll) FA.kp BA .nil pass0 (pa_cons (pv 4) (pa_cons (pv 2) pa_nil)))) (pss_one (ps_ret (pe_tup (pa_cons (pv 3) (pa_cons (pv 1) pa_nil))))) pss_nil))) (pss_one (ps_ret pe_non))))), ?_⟩
    refine ⟨_, rfl, x, dx, _, rfl, h1, rfl, x, ps, qs, rfl, hx, fun H1 d s1 hd hdd => ?_⟩
    refine ⟨_, rfl, d, _, papK ps, rfl, hdd, pap_get, fun H2 l s2 hl hll => ?_⟩
    rw [pap_op] at hll
    have s12 := s1.trans s2
    refine ⟨_, rfl, x, _, dx, _, .ref b, rfl, s12 _ _ h1, T.fcls, T.ffn, rfl, b, _, rfl, SqT.same s12 h4, for_it walk_enumT (fun i σ H' => (∃ y1 y2, σ = [some (V.ref x), some (V.ref d), some (V.ref l), y1, y2]) ∧ Same H2 H' ∧ ∀ j, j < i → ∀ p, qs[j]? = some p → allW (opK ps) p = false) ⟨⟨none, none, rfl⟩, Same.refl _, fun j hj => absurd hj (Nat.not_lt_zero j)⟩ (fun i σ H' _ z => SqT.same (s12.trans z.2.1) h4) ?_ ?_⟩
    · rintro i v σ Ha Hb hi ⟨⟨y1, y2, rfl⟩, sm, hn⟩ ⟨T', x', y', rfl, hT, rfl, e1, e2⟩
      obtain rfl : V.int (i : Nat) = x' := Option.some.inj e1
      obtain ⟨p, hpi, hpr⟩ := h5.at e2
      have s3 : Same H2 (upd Ha T' (.tup [.int (i : Nat), y'])) := sm.trans (same_new hT)
      refine ⟨T', _, rfl, SqT.of upd_same, rfl, _, _, rfl, _, _, rfl, rfl, ?_⟩
      refine ⟨_, rfl, _, rfl, y', p, l, opK ps, rfl, hpr.same (s12.trans s3), SqL.of (s3 _ _ hll), l9, fun H3 s4 => ⟨_, rfl, ?_⟩⟩
      have s5 := s3.trans s4
      cases hw : allW (opK ps) p with
      | true =>
        refine iteT ⟨_, rfl, _, rfl, (by show 2 ≤ sizeLine; decide), fun t ht => ?_⟩
        have e : clK ps qs = some i := fi_at hpi hw hn
        rw [e] at q
        have hd3 : H3 d = some (.dK (dictK (papK ps))) := s5 _ _ (s2 _ _ hdd)
        exact q _ _ ((s12.trans s5).trans (same_new ht)) ⟨t, d, rfl, (s12.trans s5).free ht, upd_same, hd, (by rw [upd_ne (ne_of_none hd3 ht)]; exact hd3), Ne.symm (ne_of_none hd3 ht)⟩
      | false =>
        refine iteF ⟨⟨_, _, rfl⟩, s5, fun j hj p2 hp2 => ?_⟩
        by_cases e : j = i
        · subst e
          rw [hpi] at hp2
          cases hp2
          exact hw
        · exact hn j (by omega) p2 hp2
    · rintro σ Ha ⟨⟨y1, y2, rfl⟩, sm, hn⟩
      have e : clK ps qs = none := fi_no fun i p hpi => hn i (by
        obtain ⟨hi, _⟩ := List.getElem?_eq_some_iff.mp hpi
        rw [h5.1]
        exact hi) p hpi
      rw [e] at q
      exact q _ _ (s12.trans sm) rfl
def spCl (K : PySem.W.Frag) : Sp := fun vs H Q _ => ∃ (x : Addr) (ps qs : List Pr), vs = [.ref x] ∧ IsFa K H x ps qs ∧ ∀ H', Same H H' → Q (.bl (clB ps qs)) H'
theorem cr_non {H H' : Hp} {v : V} {ps : List Pr} {o : Option Nat} (h : IsCR H H' v ps o) : decide (v = .non) = o.isNone := by
  cases o with
  | none => obtain rfl : v = .non := h; rfl
  | some i => obtain ⟨t, d, rfl, _⟩ := h; rfl
abbrev nCl : List Str := ["self"]
theorem sc_cl : FnScope nCl ["self"] (defScope (sF 4)) := ⟨rfl, rfl, rfl, by decide +kernel, rfl, by decide +kernel, by decide +kernel⟩

theorem g_cl (T : Txt K mg) (A : Al K) : Meth K (fC K) "clashes" (He.ma K (fC K) "clashes") ∧ ∃ fd, FnOk P w K mg base CX0 29 (He.ma K (fC K) "clashes") fd ["self"] (spCl K) ∧ Binds K fd ["self"] [] := by
  obtain ⟨MC, fdC, GC, BC⟩ := g_cr (P := P) (w := w) (base := base) T A
  obtain ⟨M, fd, F⟩ := A.met "clashes" 4
  refine ⟨M, fd, ?_, F.bindsN fun _ _ _ _ _ _ us hl => match us, hl with | [_], _ => rfl⟩
  refine F.ok sc_cl (fun vs H Q E h => ?_) (fun cdv A outer s H vs Q E hr h => ?_)
  · obtain ⟨x, ps, qs, rfl, _⟩ := h
    rfl
  · obtain ⟨x, ps, qs, rfl, hx, q⟩ := h
    obtain ⟨dx, a, b, xs, us, h1, h2, h3, _⟩ := id hx
    refine ⟨_, PSs.nox (pss_one (ps_ret (pe_cmpR op_notN (pe_meth0 (pv 0) T.fcls MC GC hr BC .nil pass0) pe_non (nomark _)))), ?_⟩
    refine ⟨_, rfl, x, dx, _, rfl, h1, rfl, x, ps, qs, rfl, hx, fun H1 v s1 hv => ⟨rfl, ?_⟩⟩
    rw [cr_non hv]
    have := q H1 s1
    rw [← clK_none] at this
    cases hk : clK ps qs with
    | none => rw [hk] at this; exact this
    | some i => rw [hk] at this; exact this
end
end KX

set_option Elab.async false
set_option linter.all false
set_option maxRecDepth 100000
set_option maxHeartbeats 4000000
/-! # facts.py: models, verdicts -/
namespace KX
open PySem PySem.Spec PyProof.Rows L2 VX KW
open KV (top FnP defs iIsInt iHasAll iFits iWord iWithin iSumM iComM iLetM iMark iWon iFirstB iIsBr iWonAll iOpenK iFacts iTree iLWord iWords)
section
variable {P : Program} {w : World} {K : PySem.W.Frag} {mg : Str → Option Value} {base : Heap} {f : Addr} {fd : FuncData}
/-! ### _check -/
def spCk (K : PySem.W.Frag) : Sp := fun vs H Q E => ∃ (x : Addr) (ps qs : List Pr), vs = [.ref x] ∧ IsFa K H x ps qs ∧ (clB ps qs = true → ∀ H', Same H H' → E (.ref (cC K)) none H') ∧ (clB ps qs = false → ∀ H', Same H H' → Q .non H')
abbrev nCk : List Str := ["self"]
theorem sc_ck : FnScope nCk ["self"] (defScope (sF 12)) := ⟨rfl, rfl, rfl, by decide +kernel, rfl, by decide +kernel, by decide +kernel⟩

theorem g_ck (T : Txt K mg) (A : Al K) : Meth K (fC K) "_check" (He.ma K (fC K) "_check") ∧ ∃ fd, FnOk P w K mg base (L2.CX P w) 30 (He.ma K (fC K) "_check") fd ["self"] (spCk K) ∧ Binds K fd ["self"] [] := by
  obtain ⟨MC, fdC, GC, BC⟩ := g_cl (P := P) (w := w) (base := base) T A
  obtain ⟨M, fd, F⟩ := A.met "_check" 12
  refine ⟨M, fd, ?_, F.bindsN fun _ _ _ _ _ _ us hl => match us, hl with | [_], _ => rfl⟩
  refine F.ok sc_ck (fun vs H Q E h => ?_) (fun cdv A outer s H vs Q E hr h => ?_)
  · obtain ⟨x, ps, qs, rfl, _⟩ := h
    rfl
  · obtain ⟨x, ps, qs, rfl, hx, kE, k⟩ := h
    obtain ⟨dx, a, b, xs, us, h1, _⟩ := id hx
    refine ⟨_, (pss_one (ps_if (pt_val (pe_meth0 (pv 0) T.fcls MC GC hr BC .nil pass0)) (pss_one (ps_raise rfl (takes_of rfl rfl rfl rfl) (pmk_own0 PySem.F.excBase_ValueError T.cx T.clash T.ck (raises_own T.cb T.ct) (by rfl)))) pss_nil)), ?_⟩
    refine ⟨_, rfl, x, dx, _, rfl, h1, rfl, x, ps, qs, rfl, hx, fun H1 s1 => ⟨_, rfl, ?_⟩⟩
    cases hc : clB ps qs with
    | true => exact iteT (kE hc H1 s1)
    | false => exact iteF (k hc H1 s1)
/-! ### _supposed -/
def supP (ps : List Pr) (p : Pr) (b : Bool) : List Pr := if b = true then ps ++ [p] else ps
theorem fa_kb (A : Al K) : ∃ fd, (∀ {P : Program} {w : World} {mg : Str → Option Value} {base : Heap}, Txt K mg → FnOk P w K mg base CX0 1 (He.ma K (fC K) "__init__") fd ["self", "within", "not_within"] (spFI K)) ∧
    KBn K fd ["self", "within", "not_within"] 1 ["within", "not_within"] (fun us ws => us ++ ws) (fun vs zs => vs ++ zs) ∧
    KBn K fd ["self", "within", "not_within"] 1 ["not_within", "within"] (fun us ws => us ++ ws.reverse) (fun vs zs => vs ++ zs.reverse) ∧
    ∃ a b ds, Vals [V.ref a, V.ref b] ds ∧ Binds K fd ["self", "within", "not_within"] ds ∧ (∀ H, SqT K H a []) ∧ ∀ H, SqT K H b [] := by
  obtain ⟨fd, a, b, F, ha, hb⟩ := A.fi
  refine ⟨fd, fun T => ok_fi F T, ?_, ?_, ?_⟩
  · obtain ⟨mv, h⟩ := F.kbinds0 (ps := ["self", "within", "not_within"]) 1 ["within", "not_within"] [] (fun vs mz zs => vs ++ zs) (by simp) (fun q hq => nomatch hq) (fun r1 _ r3 => r1.append r3) fun D doc pm an cdv ct us mv ws h1 h2 h3 => by
      match us, mv, ws, h1, h2, h3 with
      | [u], [], [w1, w2], _, _, _ => rfl
    exact h
  · obtain ⟨mv, h⟩ := F.kbinds0 (ps := ["self", "within", "not_within"]) 1 ["not_within", "within"] [] (fun vs mz zs => vs ++ zs.reverse) (by simp) (fun q hq => nomatch hq) (fun {vs mz zs us mv ws} r1 _ r3 => by
        refine r1.append ?_
        exact r3.reverse) fun D doc pm an cdv ct us mv ws h1 h2 h3 => by
      match us, mv, ws, h1, h2, h3 with
      | [u], [], [w1, w2], _, _, _ => rfl
    exact h
  · obtain ⟨ds, h1, h2⟩ := F.binds0 (ps := ["self", "within", "not_within"]) 1 (by simp) rfl fun D doc pm an cdv ct us ks h1 h2 => by
      match us, ks, h1, h2 with
      | [u], [k1, k2], _, _ => exact ⟨_, _, _, _, _, _, rfl, rfl, _, _, _, _, _, _, rfl, rfl, rfl⟩
    exact ⟨a, b, ds, h1, h2, ha, hb⟩
def spSup (K : PySem.W.Frag) : Sp := fun vs H Q _ => ∃ (x y z : Addr) (b : Bool) (ps qs : List Pr) (p : Pr), vs = [.ref x, .ref y, .ref z, .bl b] ∧ IsFa K H x ps qs ∧ IsTr K H y p.1 ∧ IsTr K H z p.2 ∧ dep p.1 ≤ 20 ∧ dep p.2 ≤ 20 ∧ ps.length ≤ 50 ∧ qs.length ≤ 50 ∧
  ∀ H' u, Same H H' → IsFa K H' u (supP ps p b) (supP qs p (!b)) → Q (.ref u) H'
abbrev nSup : List Str := ["self", "one", "other", "inside"]
theorem sc_sup : FnScope nSup ["self", "one", "other", "inside"] (defScope (sF 11)) := ⟨rfl, rfl, rfl, by decide +kernel, rfl, by decide +kernel, by decide +kernel⟩

theorem g_sup (T : Txt K mg) (A : Al K) : Meth K (fC K) "_supposed" (He.ma K (fC K) "_supposed") ∧ ∃ fd, FnOk P w K mg base CX0 3 (He.ma K (fC K) "_supposed") fd ["self", "one", "other", "inside"] (spSup K) ∧ Binds K fd ["self", "one", "other", "inside"] [] := by
  obtain ⟨fdI, GI', KB, _, _⟩ := fa_kb A
  have GI : FnOk P w K mg base CX0 1 (He.ma K (fC K) "__init__") fdI ["self", "within", "not_within"] (spFI K) := GI' T
  obtain ⟨M, fd, F⟩ := A.met "_supposed" 11
  refine ⟨M, fd, ?_, F.bindsN fun _ _ _ _ _ _ us hl => match us, hl with | [_, _, _, _], _ => rfl⟩
  refine F.ok sc_sup (fun vs H Q E h => ?_) (fun cdv A outer s H vs Q E hr h => ?_)
  · obtain ⟨x, y, z, b, ps, qs, p, rfl, _⟩ := h
    rfl
  · obtain ⟨x, y, z, b, ps, qs, p, rfl, hx, hy, hz, d1, d2, l1, l2, k⟩ := h
    obtain ⟨dx, a, c, xs, us, h1, h2, h3, h4, h5, _⟩ := id hx
    have hr2 : Room (1 + 1) _ := hr
    refine ⟨_, PSs.nox (pss_cons (ps_if (pt_val (pv 3)) (pss_one (ps_ret (pe_makeK0 T.fmk GI hr2 (by rfl) T.facts KB pass0 (pk_cons (pe_lst (StX.pa_star (pe_fld (pv 0) rfl) (pa_cons (pe_tup (pa_cons (pv 1) (pa_cons (pv 2) pa_nil))) pa_nil))) (pk_cons (pe_fld (pv 0) rfl) pk_nil))))) pss_nil) (pss_one (ps_ret (pe_makeK0 T.fmk GI hr2 (by rfl) T.facts KB pass0 (pk_cons (pe_fld (pv 0) rfl) (pk_cons (pe_lst (StX.pa_star (pe_fld (pv 0) rfl) (pa_cons (pe_tup (pa_cons (pv 1) (pa_cons (pv 2) pa_nil))) pa_nil))) pk_nil)))))), ?_⟩
    have e1 := h3.1
    have e2 := h5.1
    cases b with
    | true =>
      refine ⟨_, rfl, _, rfl, ?_⟩
      refine iteT ⟨_, rfl, x, _, dx, _, .ref a, rfl, h1, T.fcls, T.ffw, rfl, a, xs, rfl, .inl h2, _, rfl, _, rfl, (by show 2 ≤ sizeLine; decide), fun t ht => ⟨(by rw [List.length_append]; exact Nat.le_trans (by show xs.length + 1 ≤ 100000; omega) (by decide)), fun l hl => ?_⟩⟩
      have s1 : Same H (upd H t (.tup [.ref y, .ref z])) := same_new ht
      have s2 : Same (upd H t (.tup [.ref y, .ref z])) (upd (upd H t (.tup [.ref y, .ref z])) l (.lst (xs ++ [.ref t]))) := same_new hl
      refine ⟨_, rfl, x, _, dx, _, .ref c, rfl, s2 _ _ (s1 _ _ h1), T.fcls, T.ffn, rfl, rfl, rfl, fun u du hu hdu ne => ?_⟩
      have ht2 : upd (upd H t (.tup [.ref y, .ref z])) l (.lst (xs ++ [.ref t])) t = some (.tup [.ref y, .ref z]) := s2 _ _ upd_same
      have hl2 : upd (upd H t (.tup [.ref y, .ref z])) l (.lst (xs ++ [.ref t])) l = some (.lst (xs ++ [.ref t])) := upd_same
      have s12 := s1.trans s2
      generalize upd (upd H t (.tup [.ref y, .ref z])) l (.lst (xs ++ [.ref t])) = H2 at hu hdu ht2 hl2 s12
      have s3 : Same H2 (upd (upd H2 du (.own u)) u (.ins (fC K) du [])) := same_two hdu (by rw [upd_ne (Ne.symm ne)]; exact hu)
      have s13 := s12.trans s3
      refine ⟨u, l, c, du, xs ++ [.ref t], us, ps ++ [p], qs, rfl, upd_same, .inl (SqL.of (s3 _ _ hl2)), (h3.same s13).add ⟨t, y, z, rfl, SqT.of (s3 _ _ ht2), hy.same s13, hz.same s13, d1, d2⟩, .inr (SqT.same s13 h4), h5.same s13, by simp; omega, by omega, fun H4 k4 f4 => ⟨rfl, ?_⟩⟩
      exact k H4 u (fun b o q => k4 b o (s13 _ _ q) (ne_of_none (s12 _ _ q) hu)) f4
    | false =>
      refine ⟨_, rfl, _, rfl, ?_⟩
      refine iteF ⟨_, rfl, x, _, dx, _, .ref a, rfl, h1, T.fcls, T.ffw, rfl, _, rfl, x, _, dx, _, .ref c, rfl, h1, T.fcls, T.ffn, rfl, c, us, rfl, .inl h4, _, rfl, _, rfl, (by show 2 ≤ sizeLine; decide), fun t ht => ⟨(by rw [List.length_append]; exact Nat.le_trans (by show us.length + 1 ≤ 100000; omega) (by decide)), fun l hl => ?_⟩⟩
      have s1 : Same H (upd H t (.tup [.ref y, .ref z])) := same_new ht
      have s2 : Same (upd H t (.tup [.ref y, .ref z])) (upd (upd H t (.tup [.ref y, .ref z])) l (.lst (us ++ [.ref t]))) := same_new hl
      refine ⟨rfl, rfl, fun u du hu hdu ne => ?_⟩
      have ht2 : upd (upd H t (.tup [.ref y, .ref z])) l (.lst (us ++ [.ref t])) t = some (.tup [.ref y, .ref z]) := s2 _ _ upd_same
      have hl2 : upd (upd H t (.tup [.ref y, .ref z])) l (.lst (us ++ [.ref t])) l = some (.lst (us ++ [.ref t])) := upd_same
      have s12 := s1.trans s2
      generalize upd (upd H t (.tup [.ref y, .ref z])) l (.lst (us ++ [.ref t])) = H2 at hu hdu ht2 hl2 s12
      have s3 : Same H2 (upd (upd H2 du (.own u)) u (.ins (fC K) du [])) := same_two hdu (by rw [upd_ne (Ne.symm ne)]; exact hu)
      have s13 := s12.trans s3
      refine ⟨u, a, l, du, xs, us ++ [.ref t], ps, qs ++ [p], rfl, upd_same, .inr (SqT.same s13 h2), h3.same s13, .inl (SqL.of (s3 _ _ hl2)), (h5.same s13).add ⟨t, y, z, rfl, SqT.of (s3 _ _ ht2), hy.same s13, hz.same s13, d1, d2⟩, by omega, by simp; omega, fun H4 k4 f4 => ⟨rfl, ?_⟩⟩
      exact k H4 u (fun b o q => k4 b o (s13 _ _ q) (ne_of_none (s12 _ _ q) hu)) f4
/-! ### model -/
theorem kS_inj {k q : List Nat} : kS k = kS q ↔ k = q := by
  constructor
  · intro h
    have := congrArg (fun s : Str => s.cps.toList) h
    simpa [kS] using this
  · rintro rfl; rfl
theorem in_kv {k : List Nat} : ∀ ks : List (List Nat), inV (.str (kS k)) (kvL ks) = decide (k ∈ ks)
  | [] => rfl
  | q :: ks => by
    show ((kS q == kS k) || inV (.str (kS k)) (kvL ks)) = _
    rw [in_kv ks, Bool.eq_iff_iff]
    simp only [Bool.or_eq_true, beq_iff_eq, decide_eq_true_eq, List.mem_cons, kS_inj]
    exact ⟨fun h => h.elim (fun e => .inl e.symm) .inr, fun h => h.elim (fun e => .inl e.symm) .inr⟩
theorem kv_flat : ∀ ks : List (List Nat), (kvL ks).all flatV = true
  | [] => rfl
  | q :: ks => by
    show (flatV (.str (kS q)) && (kvL ks).all flatV) = true
    rw [kv_flat ks]
    rfl
def modK (ps : List Pr) : List Nat → V := fun k => .int (if okK ps k = true then 1 else 0)
theorem op_mem {ps : List Pr} {k : List Nat} (h : k ∈ kinds) : decide (k ∈ opK ps) = okK ps k := by
  rw [Bool.eq_iff_iff, decide_eq_true_eq]
  unfold opK
  rw [List.mem_filter]
  exact ⟨fun z => z.2, fun z => ⟨h, z⟩⟩
def spMo (K : PySem.W.Frag) : Sp := fun vs H Q E => ∃ (x y z : Addr) (b : Bool) (ps qs : List Pr) (p : Pr), vs = [.ref x, .ref y, .ref z, .bl b] ∧ IsFa K H x ps qs ∧ IsTr K H y p.1 ∧ IsTr K H z p.2 ∧ dep p.1 ≤ 20 ∧ dep p.2 ≤ 20 ∧ ps.length ≤ 50 ∧ qs.length ≤ 50 ∧
  (clB ps qs = true → ∀ H', Same H H' → E (.ref (cC K)) none H') ∧
  (clB ps qs = false → clB (supP ps p b) (supP qs p (!b)) = true → ∀ H', Same H H' → Q .non H') ∧
  (clB ps qs = false → clB (supP ps p b) (supP qs p (!b)) = false → ∀ H' d, Same H H' → H d = none → H' d = some (.dK (dictK (modK (supP ps p b)))) → Q (.ref d) H')
abbrev nMo : List Str := ["self", "one", "other", "inside", "more", "allowed", "kind"]
theorem sc_mo : FnScope nMo ["self", "one", "other", "inside"] (defScope (sF 6)) := ⟨rfl, rfl, rfl, by decide +kernel, rfl, by decide +kernel, by decide +kernel⟩

theorem g_mo (T : Txt K mg) (A : Al K) : Meth K (fC K) "model" (He.ma K (fC K) "model") ∧ ∃ fd, MtP K "model" 6 (He.ma K (fC K) "model") fd ∧ FnOk P w K mg base (L2.CX P w) 31 (He.ma K (fC K) "model") fd ["self", "one", "other", "inside"] (spMo K) ∧ Binds K fd ["self", "one", "other", "inside"] [] := by
  obtain ⟨MC, fdC, GC, BC⟩ := g_cl (P := P) (w := w) (base := base) T A
  obtain ⟨MK, fdK, GK, BK⟩ := g_ck (P := P) (w := w) (base := base) T A
  obtain ⟨MS, fdS, GS, BS⟩ := g_sup (P := P) (w := w) (base := base) T A
  obtain ⟨MN, fdN, GN, BN⟩ := g_knd (P := P) (w := w) (base := base) T A
  obtain ⟨M, fd, F⟩ := A.met "model" 6
  refine ⟨M, fd, F, ?_, F.bindsN fun _ _ _ _ _ _ us hl => match us, hl with | [_, _, _, _], _ => rfl⟩
  refine F.ok sc_mo (fun vs H Q E h => ?_) (fun cdv A outer s H vs Q E hr h => ?_)
  · obtain ⟨x, y, z, b, ps, qs, p, rfl, _⟩ := h
    rfl
  · obtain ⟨x, y, z, b, ps, qs, p, rfl, hx, hy, hz, d1, d2, l1, l2, kE, k0, k1⟩ := h
    obtain ⟨dx, a, c, xs, us, h1, _⟩ := id hx
    have nd := sc_mo.nd
    have hrs : Room 3 _ := hr.mono (by decide)
    have hrc : Room 29 _ := hr.mono (by decide)
    have hrn : Room 28 _ := hr.mono (by decide)
    refine ⟨_, (pss_cons (ps_expr (pe_meth0 (pv 0) T.fcls MK GK hr BK .nil (passes_call (takes_of rfl rfl rfl rfl) (fun _ _ _ _ h => h)))) (pss_cons (ps_set (i := 4) nd rfl (.inl rfl) (pe_meth (pv 0) T.fcls MS GS hrs BS .nil pass0 (pa_cons (pv 1) (pa_cons (pv 2) (pa_cons (pv 3) pa_nil))))) (pss_cons (ps_if (pt_val (pe_meth0 (pv 4) T.fcls MC GC hrc BC .nil pass0)) (pss_one (ps_ret pe_non)) pss_nil) (pss_cons (ps_set (i := 5) nd rfl (.inr rfl) (pe_meth0 (pv 4) T.fcls MN GN hrn BN .nil pass0)) (pss_one (ps_ret (pe_dc (own := [("kind", 6)]) (g := gName 6) (tt := tYes) rfl nd (pi_tup (pe_glob (v := .ref (He.ga K "KINDS")) (by rfl) T.kinds rfl)) (blkOk_by (own := [("kind", 6)]) (N := nMo) (sc := defScope (sF 6)) (by decide +kernel)) (fun _ _ _ _ _ => pg_name (i := 6) nd rfl (Or.inl rfl)) (fun _ _ _ _ _ => pts_nil) (fun _ _ _ _ _ => pv 6) (fun _ _ _ _ _ => pe_callTy call_int1 (by rfl) (T.fr "int") boot_int (pa_cons (pe_cmpR (op_inK K) (pv 6) (pv 5) (by rfl)) pa_nil))))))))), ?_⟩
    refine ⟨_, rfl, x, dx, _, rfl, h1, rfl, x, ps, qs, rfl, hx, kE, fun hc H1 s1 => ?_⟩
    have k0 := k0 hc
    have k1 := k1 hc
    refine ⟨_, rfl, x, dx, _, rfl, s1 _ _ h1, rfl, _, rfl, _, rfl, _, rfl, x, y, z, b, ps, qs, p, rfl, hx.same s1, hy.same s1, hz.same s1, d1, d2, l1, l2, fun H2 u s2 hu => ?_⟩
    have s12 := s1.trans s2
    obtain ⟨du, a', c', xs', us', h1', _⟩ := id hu
    refine ⟨_, rfl, u, du, _, rfl, h1', rfl, u, _, _, rfl, hu, fun H3 s3 => ⟨_, rfl, ?_⟩⟩
    cases hc2 : clB (supP ps p b) (supP qs p (!b)) with
    | true => exact iteT (k0 hc2 H3 (s12.trans s3))
    | false =>
      refine iteF ⟨_, rfl, u, du, _, rfl, s3 _ _ h1', rfl, u, _, _, rfl, hu.same s3, fun H4 l s4 hl hll => ?_⟩
      have s14 := (s12.trans s3).trans s4
      refine ⟨_, rfl, ⟨_, T.ktup _⟩, fun D hD => dc_tup (K := K) (xs := kindV) (fun i H' => Same H4 H' ∧ H' D = some (.dK ((dictK (modK (supP ps p b))).take i))) ⟨same_new hD, upd_same⟩ (fun i H' _ _ => T.ktup H') ?_ ?_⟩
      · rintro i v Ha hv ⟨sm, hDl⟩
        obtain ⟨k, hk, rfl⟩ := kind_at hv
        refine ⟨rfl, yes_if ?_⟩
        refine ⟨_, rfl, _, rfl, _, rfl, l, _, rfl, .inl (SqL.of (sm _ _ hll)), rfl, kv_flat _, .inr ⟨_, rfl, ?_⟩⟩
        refine ⟨_, Sum.inr (kS k), rfl, hDl, lt_line (Nat.le_trans (List.length_take_le' _ _) (by show 9 ≤ 100000; decide)), Same.grow sm hD, ?_⟩
        simp only [Bool.false_eq_true, if_false, in_kv, op_mem (List.mem_of_getElem? hk)]
        rw [upd_same]
        exact congrArg (fun z => some (HO.dK z)) (dictK_put (modK (supP ps p b)) hk)
      · rintro Ha ⟨sm, hDl⟩
        exact k1 hc2 _ _ (s14.trans sm) (s14.free hD) hDl
end
end KX

set_option Elab.async false
set_option linter.all false
set_option maxRecDepth 100000
set_option maxHeartbeats 4000000
/-! # law: pairs drawn, words -/
namespace KX
open PySem PySem.Spec PyProof.Rows L2 VX KW
open KV (top FnP defs iIsInt iHasAll iFits iWord iWithin iSumM iComM iLetM iMark iWon iFirstB iIsBr iWonAll iOpenK iFacts iTree iLWord iWords)
section
variable {P : Program} {w : World} {K : PySem.W.Frag} {mg : Str → Option Value} {base : Heap} {f : Addr} {fd : FuncData}
/-! ### pairs of trees -/
theorem IsTT.keep {H H' : Hp} {b : Addr} {o : HO} (hb : H b = some o) (l : Lse o) (k : Kept b H H') : ∀ {t : Tr} {v : V}, IsTT H v t → IsTT H' v t
  | .lf c, _, h => by
    obtain ⟨j, a, e, h1⟩ := h
    exact ⟨j, a, e, k _ _ h1 (by rintro rfl; rw [hb] at h1; cases l <;> cases h1)⟩
  | .nd c l2 r, _, h => by
    obtain ⟨j, a, u, z, e, h1, h2, h3⟩ := h
    exact ⟨j, a, u, z, e, k _ _ h1 (by rintro rfl; rw [hb] at h1; cases l <;> cases h1), h2.keep hb l k, h3.keep hb l k⟩
def IsTP (H : Hp) (v : V) (p : Pr) : Prop := ∃ a u z, v = .ref a ∧ H a = some (.tup [u, z]) ∧ IsTT H u p.1 ∧ IsTT H z p.2 ∧ dep p.1 ≤ 10 ∧ dep p.2 ≤ 10
def IsTPs (H : Hp) (vs : List V) (ps : List Pr) : Prop := vs.length = ps.length ∧ ∀ (i : Nat) v p, vs[i]? = some v → ps[i]? = some p → IsTP H v p
theorem IsTP.same {H H' : Hp} (s : Same H H') {v : V} {p : Pr} (h : IsTP H v p) : IsTP H' v p := by
  obtain ⟨a, u, z, e, h1, h2, h3, h4⟩ := h
  exact ⟨a, u, z, e, s _ _ h1, h2.same s, h3.same s, h4⟩
theorem IsTPs.same {H H' : Hp} (s : Same H H') {vs : List V} {ps : List Pr} (h : IsTPs H vs ps) : IsTPs H' vs ps := ⟨h.1, fun i v p h1 h2 => (h.2 i v p h1 h2).same s⟩
theorem IsTP.keep {H H' : Hp} {b : Addr} {o : HO} (hb : H b = some o) (l : Lse o) (k : Kept b H H') {v : V} {p : Pr} (h : IsTP H v p) : IsTP H' v p := by
  obtain ⟨a, u, z, e, h1, h2, h3, h4⟩ := h
  exact ⟨a, u, z, e, k _ _ h1 (by rintro rfl; rw [hb] at h1; cases l <;> cases h1), h2.keep hb l k, h3.keep hb l k, h4⟩
theorem IsTPs.keep {H H' : Hp} {b : Addr} {o : HO} (hb : H b = some o) (l : Lse o) (k : Kept b H H') {vs : List V} {ps : List Pr} (h : IsTPs H vs ps) : IsTPs H' vs ps := ⟨h.1, fun i v p h1 h2 => (h.2 i v p h1 h2).keep hb l k⟩
theorem IsTPs.nil {H : Hp} : IsTPs H [] [] := ⟨rfl, fun i v p h => by simp at h⟩
theorem IsTPs.add {H : Hp} {vs : List V} {ps : List Pr} {v : V} {p : Pr} (h : IsTPs H vs ps) (q : IsTP H v p) : IsTPs H (vs ++ [v]) (ps ++ [p]) := by
  refine ⟨by simp [h.1], fun i u r h1 h2 => ?_⟩
  rw [List.getElem?_append] at h1 h2
  rw [← h.1] at h2
  by_cases c : i < vs.length
  · rw [if_pos c] at h1 h2
    exact h.2 i u r h1 h2
  · rw [if_neg c] at h1 h2
    by_cases z : i - vs.length = 0
    · rw [z] at h1 h2
      cases h1
      cases h2
      exact q
    · obtain ⟨m, e⟩ : ∃ m, i - vs.length = m + 1 := ⟨i - vs.length - 1, by omega⟩
      rw [e] at h1
      cases h1
theorem IsTPs.at {H : Hp} {vs : List V} {ps : List Pr} (h : IsTPs H vs ps) {i : Nat} {v : V} (hv : vs[i]? = some v) : ∃ p, ps[i]? = some p ∧ IsTP H v p := by
  obtain ⟨hi, _⟩ := List.getElem?_eq_some_iff.mp hv
  have hp : ps[i]? = some (ps[i]'(by rw [← h.1]; exact hi)) := List.getElem?_eq_getElem _
  exact ⟨_, hp, h.2 i v _ hv hp⟩
/-! ### the law's defs, as callers have them -/
theorem g_lword (T : Txt K mg) (A : Al K) : ∃ fd, FnP K "_law_word" iLWord (He.ga K "_law_word") fd ∧ FnOk P w K mg base CX0 24 (He.ga K "_law_word") fd ["_law_tree_here"] (spLWord K 20) ∧ Binds K fd ["_law_tree_here"] [] := by
  obtain ⟨fd, F⟩ := A.def "_law_word" iLWord
  obtain ⟨fdf, Ff⟩ := A.def "fits" iFits
  obtain ⟨fdI, a, FI, ha⟩ := A.wi
  exact ⟨fd, F, ok_lword F T ⟨FI, Ff, a, rfl, ha⟩ 20, F.bindsN fun _ _ _ _ _ _ us hl => match us, hl with | [_], _ => rfl⟩
/-! ### _law_drawn -/
/-! ### _law_words, _law_kinds -/
def spWo (K : PySem.W.Frag) : Sp := fun vs H Q _ => ∃ (l : Addr) (xs : List V) (ps : List Pr), vs = [.ref l] ∧ H l = some (.lst xs) ∧ IsTPs H xs ps ∧ ps.length ≤ 1000 ∧ ∀ H' l' us, Same H H' → H l' = none → H' l' = some (.lst us) → IsPrs K H' us ps → Q (.ref l') H'
abbrev nWo : List Str := ["_law_pairs", "_law_low", "_law_high"]
theorem sc_wo : FnScope nWo ["_law_pairs"] (defScope (top iWords)) := ⟨rfl, rfl, rfl, by decide +kernel, rfl, by decide +kernel, by decide +kernel⟩

theorem g_wo (T : Txt K mg) (A : Al K) : ∃ fd, FnP K "_law_words" iWords (He.ga K "_law_words") fd ∧ FnOk P w K mg base CX0 25 (He.ga K "_law_words") fd ["_law_pairs"] (spWo K) ∧ Binds K fd ["_law_pairs"] [] := by
  obtain ⟨fdW, FW, GW, BW⟩ := g_lword (P := P) (w := w) (base := base) T A
  obtain ⟨fd, F⟩ := A.def "_law_words" iWords
  refine ⟨fd, F, ?_, F.bindsN fun _ _ _ _ _ _ us hl => match us, hl with | [_], _ => rfl⟩
  refine F.ok sc_wo (fun vs H Q E h => ?_) (fun cdv A outer s H vs Q E hr h => ?_)
  · obtain ⟨l, xs, ps, rfl, _⟩ := h
    rfl
  · obtain ⟨l, xs, ps, rfl, hl, hps, hle, q⟩ := h
    have nd := sc_wo.nd
    refine ⟨_, PSs.nox (pss_one (ps_ret (pe_lc (own := [("_law_low", 1), ("_law_high", 2)]) (g := gTup K 2 (gCons (gName 1) (gCons (gName 2) gNil))) (by rfl) nd (pi_list (pv 0)) (blkOk_by (own := [("_law_low", 1), ("_law_high", 2)]) (N := nWo) (sc := defScope (top iWords)) (by decide +kernel)) (fun _ _ _ _ _ => pg_tup (by rfl) (pgs_cons (pg_name (i := 1) nd rfl (Or.inl rfl)) (pgs_cons (pg_name (i := 2) nd rfl (Or.inl rfl)) pgs_nil))) (fun _ _ _ _ _ => pts_nil) (fun _ _ _ _ _ => pe_tup (pa_cons (pe_call GW hr (by rfl) (T.df "_law_word" iLWord) FW.kp BW .nil pass0 (pa_cons (pv 1) pa_nil)) (pa_cons (pe_call GW hr (by rfl) (T.df "_law_word" iLWord) FW.kp BW .nil pass0 (pa_cons (pv 2) pa_nil)) pa_nil)))))), ?_⟩
    refine ⟨_, rfl, l, rfl, ⟨_, SqL.of hl⟩, fun D hD => lc_it (walk_list (K := K) (a := l) (xs := xs)) (fun i H' => Same H H' ∧ ∃ us, H' D = some (.lst us) ∧ us.length = i ∧ IsPrs K H' us (ps.take i)) ⟨same_new hD, [], upd_same, rfl, .nil⟩ (fun i H' _ z => SqL.of (z.1 _ _ hl)) ?_ ?_⟩
    · rintro i v H1 H2 hi ⟨sm, us, hDl, hul, hus⟩ ⟨rfl, hv⟩
      obtain ⟨p, hpi, a, u, z, rfl, ha, hu, hz, d1, d2⟩ := hps.at hv
      refine ⟨a, _, rfl, SqT.of (sm _ _ ha), rfl, _, _, rfl, _, _, rfl, rfl, rfl, yes_if ?_⟩
      refine ⟨_, rfl, u, p.1, rfl, hu.same sm, by omega, fun H3 x s3 tx => ?_⟩
      refine ⟨_, rfl, z, p.2, rfl, (hz.same sm).same s3, by omega, fun H4 y s4 ty => ?_⟩
      refine ⟨(by show 2 ≤ sizeLine; decide), fun t ht => ?_⟩
      have s5 := same_new (o := .tup [.ref x, .ref y]) ht
      have s35 := s3.trans (s4.trans s5)
      have hD5 := s35 _ _ hDl
      refine ⟨us, hD5, lt_line (by have := hps.1; omega), Same.grow (sm.trans s35) hD, us ++ [.ref t], upd_same, by simp [hul], ?_⟩
      have kl : Kept D (upd H4 t (.tup [.ref x, .ref y])) (upd (upd H4 t (.tup [.ref x, .ref y])) D (.lst (us ++ [.ref t]))) := fun c u hc ne => by rw [upd_ne ne]; exact hc
      rw [take_one hpi]
      exact ((hus.same s35).keep hD5 (.lst _) kl).add ⟨t, x, y, rfl, keepT hD5 (.lst _) kl (SqT.of upd_same), (tx.same (s4.trans s5)).keep hD5 (.lst _) kl, (ty.same s5).keep hD5 (.lst _) kl, by omega, by omega⟩
    · rintro H1 ⟨sm, us, hDl, hul, hus⟩
      rw [hps.1, List.take_length] at hus
      exact q _ _ us sm hD hDl hus
end
end KX

set_option Elab.async false
set_option linter.all false
set_option maxRecDepth 100000
set_option maxHeartbeats 4000000
/-! # law: what pairs break, lack, tell -/
namespace KX
open PySem PySem.Spec PyProof.Rows L2 VX KW
open KV (top FnP defs iIsInt iHasAll iFits iWord iWithin iSumM iComM iLetM iMark iWon iFirstB iIsBr iWonAll iOpenK iFacts iTree iLWord iWords)
section
variable {P : Program} {w : World} {K : PySem.W.Frag} {mg : Str → Option Value} {base : Heap} {f : Addr} {fd : FuncData}
/-! ### indices -/
/-! ### _law_broken -/
/-! ### _law_left -/
/-! ### _law_lacking -/
theorem filt_le2 {ks : List (List Nat)} {c : List Nat → Bool} {i : Nat} : ((ks.take i).filter c).length ≤ ks.length := Nat.le_trans (List.length_filter_le _ _) (List.length_take_le' _ _)
/-! ### _law_verdict -/
def vdS : Vd → Str
  | .clash => "clash"
  | .sure => "sure"
  | .opn => "open"
  | .barred => "barred"
end
end KX

set_option Elab.async false
set_option linter.all false
set_option maxRecDepth 100000
set_option maxHeartbeats 4000000
/-! # k38: fits, told -/
namespace KX
open PySem PySem.Spec PyProof.Rows L2 VX KW
open KV (top FnP defs iIsInt iHasAll iFits iWord iWithin iSumM iComM iLetM iMark iWon iFirstB iIsBr iWonAll iOpenK iFacts iTree iLWord iWords)
section
variable {P : Program} {w : World} {K : PySem.W.Frag} {mg : Str → Option Value} {base : Heap} {f : Addr} {fd : FuncData}
/-! ### keywords of a def without defaults -/
/-! ### _law_fits -/
theorem get_of {H : Hp} {d : Addr} {g : List Nat → V} {i : Nat} {k : List Nat} (hG : H d = some (.dK (dictK g))) (hk : kinds[i]? = some k) : DGet H d (.str (kS k)) (some (g k)) := by
  have := DGet.k (k := Sum.inr (kS k)) hG
  rw [dictK_get g hk] at this
  exact this
/-! ### _law_told -/
end
end KX

set_option Elab.async false
set_option linter.all false
set_option maxRecDepth 100000
set_option maxHeartbeats 4000000
/-! # k38: law -/
namespace KX
open PySem PySem.Spec PyProof.Rows L2 VX KW
open KV (top FnP defs iIsInt iHasAll iFits iWord iWithin iSumM iComM iLetM iMark iWon iFirstB iIsBr iWonAll iOpenK iFacts iTree iLWord iWords)
section
variable {P : Program} {w : World} {K : PySem.W.Frag} {mg : Str → Option Value} {base : Heap} {f : Addr} {fd : FuncData}
/-! ### what stands through the law -/
theorem sup_all {ps qs : List Pr} {p : Pr} {b : Bool} (h : clB (supP ps p b) (supP qs p (!b)) = false) : allW (opK (supP ps p b)) p = b := by
  cases b with
  | true =>
    show allW (opK (ps ++ [p])) p = true
    rw [opK_add]
    exact kept_allW
  | false =>
    have h : clB ps (qs ++ [p]) = false := h
    rw [clB_out, Bool.or_eq_false_iff] at h
    exact h.2
theorem sup_no {ps qs : List Pr} {p : Pr} {b : Bool} (h0 : clB ps qs = false) (h : clB (supP ps p b) (supP qs p (!b)) = false) : qs.any (allW (opK (supP ps p b))) = false := by
  cases b with
  | true => exact h
  | false => exact h0
/-! ### the law -/
end
end KX

set_option linter.all false
/-! # papers and reasons (no model) -/
namespace KW
abbrev Pap := List (List Nat × Option Int)
def hasAll (pk : Pap) : Bool := decide (pk.length = 9) && kinds.all fun k => (pk.lookup k).isSome
def okI (ps : List Pr) (k : List Nat) : Option Int → Bool
  | none => true
  | some n => decide (0 ≤ n) && (match ps[n.toNat]? with | some p => !won k p | none => false)
def isPap (ps : List Pr) (pk : Pap) : Bool := hasAll pk && pk.all fun e => okI ps e.1 e.2
def opP (pk : Pap) : List (List Nat) := kinds.filter fun k => decide (pk.lookup k = some none)
def never (qs : List Pr) (n : Int) (ks : List (List Nat)) : Bool := decide (0 ≤ n) && (match qs[n.toNat]? with | some q => allW ks q | none => false)
inductive Rs | sure | barred (n : Int)
def shB (ps qs : List Pr) (p : Pr) (r : Rs) (pk : Pap) : Bool := isPap ps pk && (match r with | .sure => allW (opP pk) p | .barred n => never qs n (keptK (opP pk) p))
def scB (ps qs : List Pr) (n : Int) (pk : Pap) : Bool := isPap ps pk && never qs n (opP pk)
/-- the keys are kinds, each once -/
def WfP (pk : Pap) : Prop := (pk.map (·.1)).Nodup ∧ ∀ e ∈ pk, e.1 ∈ kinds
def papP (ps : List Pr) : Pap := kinds.map fun k => (k, (brK ps k).map Int.ofNat)
theorem kinds_nodup : kinds.Nodup := by decide
theorem papP_keys {ps : List Pr} : (papP ps).map (·.1) = kinds := by
  unfold papP
  rw [List.map_map]
  exact List.map_id _
theorem papP_wf {ps : List Pr} : WfP (papP ps) := by
  refine ⟨by rw [papP_keys]; exact kinds_nodup, fun e he => ?_⟩
  have : e.1 ∈ (papP ps).map (·.1) := List.mem_map.mpr ⟨e, he, rfl⟩
  rwa [papP_keys] at this
theorem lookup_map {g : List Nat → Option Int} : ∀ {ks : List (List Nat)} {k : List Nat}, k ∈ ks → (ks.map fun k => (k, g k)).lookup k = some (g k)
  | [], _, h => nomatch h
  | q :: ks, k, h => by
    rw [List.map_cons, List.lookup_cons]
    by_cases e : k = q
    · subst e
      simp
    · rw [show (k == q) = false from beq_eq_false_iff_ne.mpr e]
      exact lookup_map ((List.mem_cons.mp h).resolve_left e)
theorem papP_get {ps : List Pr} {k : List Nat} (h : k ∈ kinds) : (papP ps).lookup k = some ((brK ps k).map Int.ofNat) := lookup_map h
theorem papP_all {ps : List Pr} : hasAll (papP ps) = true := by
  unfold hasAll
  rw [Bool.and_eq_true]
  refine ⟨rfl, List.all_eq_true.mpr fun k hk => ?_⟩
  rw [papP_get hk]
  rfl
theorem brK_at {ps : List Pr} {k : List Nat} {i : Nat} (h : brK ps k = some i) : ∃ p, ps[i]? = some p ∧ won k p = false := by
  unfold brK at h
  rw [List.findIdx?_eq_some_iff_getElem] at h
  obtain ⟨hi, h1, _⟩ := h
  exact ⟨ps[i], List.getElem?_eq_getElem hi, by simpa using h1⟩
theorem papP_ok {ps : List Pr} : isPap ps (papP ps) = true := by
  unfold isPap
  rw [papP_all, Bool.true_and, List.all_eq_true]
  intro e he
  obtain ⟨k, hk, rfl⟩ := List.mem_map.mp he
  show okI ps k ((brK ps k).map Int.ofNat) = true
  cases hb : brK ps k with
  | none => rfl
  | some i =>
    obtain ⟨p, hp, hw⟩ := brK_at hb
    show okI ps k (some (Int.ofNat i)) = true
    unfold okI
    rw [Bool.and_eq_true, decide_eq_true_eq]
    refine ⟨Int.natCast_nonneg i, ?_⟩
    show (match ps[i]? with | some p => !won k p | none => false) = true
    rw [hp]
    simp [hw]
theorem papP_op {ps : List Pr} : opP (papP ps) = opK ps := by
  unfold opP opK
  refine List.filter_congr fun k hk => ?_
  rw [papP_get hk, ← brK_ok]
  cases brK ps k <;> rfl
theorem clK_at {ps qs : List Pr} {i : Nat} (h : clK ps qs = some i) : ∃ q, qs[i]? = some q ∧ allW (opK ps) q = true := by
  unfold clK at h
  rw [List.findIdx?_eq_some_iff_getElem] at h
  obtain ⟨hi, h1, _⟩ := h
  exact ⟨qs[i], List.getElem?_eq_getElem hi, h1⟩
theorem never_at {qs : List Pr} {ks : List (List Nat)} {i : Nat} {q : Pr} (h : qs[i]? = some q) (w : allW ks q = true) : never qs (i : Int) ks = true := by
  unfold never
  rw [decide_eq_true (Int.natCast_nonneg i), Bool.true_and]
  show (match qs[i]? with | some q => allW ks q | none => false) = true
  rw [h]
  exact w
/-- what the law looks for -/
theorem lack_mem {qs : List Pr} {ks : List (List Nat)} {n : Int} : decide (n ∈ (lackL qs ks).map Int.ofNat) = never qs n ks := by
  rw [Bool.eq_iff_iff, decide_eq_true_eq]
  unfold never lackL
  simp only [List.mem_map, List.mem_filter, List.mem_range, Bool.and_eq_true, decide_eq_true_eq]
  constructor
  · rintro ⟨i, ⟨_, h⟩, rfl⟩
    exact ⟨Int.natCast_nonneg i, h⟩
  · rintro ⟨h0, h⟩
    refine ⟨n.toNat, ⟨?_, h⟩, Int.toNat_of_nonneg h0⟩
    by_cases c : n.toNat < qs.length
    · exact c
    · rw [List.getElem?_eq_none (by omega)] at h
      cases h
theorem br_mem {ps : List Pr} {k : List Nat} {n : Int} : decide (n ∈ (brL ps k).map Int.ofNat) = okI ps k (some n) := by
  rw [Bool.eq_iff_iff, decide_eq_true_eq]
  unfold okI brL
  simp only [List.mem_map, List.mem_filter, List.mem_range, Bool.and_eq_true, decide_eq_true_eq]
  constructor
  · rintro ⟨i, ⟨_, h⟩, rfl⟩
    exact ⟨Int.natCast_nonneg i, h⟩
  · rintro ⟨h0, h⟩
    refine ⟨n.toNat, ⟨?_, h⟩, Int.toNat_of_nonneg h0⟩
    by_cases c : n.toNat < ps.length
    · exact c
    · rw [List.getElem?_eq_none (by omega)] at h
      cases h
theorem lookup_some {pk : Pap} : ∀ {k : List Nat}, (pk.lookup k).isSome = true ↔ k ∈ pk.map (·.1) := by
  induction pk with
  | nil => intro k; simp
  | cons e pk ih =>
    intro k
    rw [List.lookup_cons, List.map_cons, List.mem_cons]
    by_cases h : k = e.1
    · rw [show (k == e.1) = true from beq_iff_eq.mpr h]
      simp [h]
    · rw [show (k == e.1) = false from beq_eq_false_iff_ne.mpr h]
      simp only [ih, h, false_or]
theorem lookup_mem {pk : Pap} : ∀ {k : List Nat} {o : Option Int}, pk.lookup k = some o → (k, o) ∈ pk := by
  induction pk with
  | nil => intro k o h; cases h
  | cons e pk ih =>
    intro k o h
    rw [List.lookup_cons] at h
    by_cases c : k = e.1
    · rw [show (k == e.1) = true from beq_iff_eq.mpr c] at h
      cases h
      subst c
      exact .head _
    · rw [show (k == e.1) = false from beq_eq_false_iff_ne.mpr c] at h
      exact .tail _ (ih h)
theorem mem_lookup {pk : Pap} : (pk.map (·.1)).Nodup → ∀ {e : List Nat × Option Int}, e ∈ pk → pk.lookup e.1 = some e.2 := by
  induction pk with
  | nil => intro _ e h; nomatch h
  | cons a pk ih =>
    intro nd e h
    rw [List.map_cons, List.nodup_cons] at nd
    rw [List.lookup_cons]
    rcases List.mem_cons.mp h with rfl | h
    · simp
    · have : e.1 ≠ a.1 := fun c => nd.1 (c ▸ List.mem_map.mpr ⟨e, h, rfl⟩)
      rw [show (e.1 == a.1) = false from beq_eq_false_iff_ne.mpr this]
      exact ih nd.2 h
/-- the keys are all kinds -/
theorem hasAll_perm {pk : Pap} (w : WfP pk) : hasAll pk = true ↔ (pk.map (·.1)).Perm kinds := by
  unfold hasAll
  rw [Bool.and_eq_true, decide_eq_true_eq, List.all_eq_true]
  constructor
  · rintro ⟨_, h⟩
    refine (List.perm_ext_iff_of_nodup w.1 kinds_nodup).mpr fun k => ⟨fun hk => ?_, fun hk => lookup_some.mp (h k hk)⟩
    obtain ⟨e, he, rfl⟩ := List.mem_map.mp hk
    exact w.2 e he
  · intro h
    refine ⟨?_, fun k hk => lookup_some.mpr (h.mem_iff.mpr hk)⟩
    have := h.length_eq
    rw [List.length_map] at this
    rw [this]
    rfl
theorem isPap_kinds {ps : List Pr} {pk : Pap} (w : WfP pk) (h : hasAll pk = true) : isPap ps pk = kinds.all fun k => okI ps k ((pk.lookup k).getD none) := by
  unfold isPap
  rw [h, Bool.true_and, Bool.eq_iff_iff, List.all_eq_true, List.all_eq_true]
  have hp := (hasAll_perm w).mp h
  constructor
  · intro q k hk
    have : k ∈ pk.map (·.1) := hp.mem_iff.mpr hk
    obtain ⟨e, he, rfl⟩ := List.mem_map.mp this
    rw [mem_lookup w.1 he]
    exact q e he
  · intro q e he
    have := q e.1 (w.2 e he)
    rw [mem_lookup w.1 he] at this
    exact this
theorem allW_kept {ks : List (List Nat)} {p : Pr} : decide (keptK ks p = ks) = allW ks p := by
  rw [Bool.eq_iff_iff, decide_eq_true_eq]
  exact keptK_all.symm
end KW

set_option Elab.async false
set_option linter.all false
set_option maxRecDepth 100000
set_option maxHeartbeats 4000000
/-! # facts.py: reasons -/
namespace KX
open PySem PySem.Spec PyProof.Rows L2 VX KW
open KV (top FnP defs iIsInt iHasAll iFits iWord iWithin iSumM iComM iLetM iMark iWon iFirstB iIsBr iWonAll iOpenK iFacts iTree iLWord iWords)
section
variable {P : Program} {w : World} {K : PySem.W.Frag} {mg : Str → Option Value} {base : Heap} {f : Addr} {fd : FuncData}
/-! ### papers as dicts -/
def optI : Option Int → V
  | none => .non
  | some n => .int n
def pKV (pk : Pap) : List (Key × V) := pk.map fun e => (Sum.inr (kS e.1), optI e.2)
theorem pKV_len {pk : Pap} : (pKV pk).length = pk.length := by simp [pKV]
theorem pKV_pap {ps : List Pr} : pKV (papP ps) = dictK (papK ps) := by
  unfold pKV papP dictK
  rw [List.map_map]
  refine List.map_congr_left fun k _ => ?_
  show (Sum.inr (kS k), optI ((brK ps k).map Int.ofNat)) = (Sum.inr (kS k), papK ps k)
  unfold papK
  cases brK ps k <;> rfl
theorem pKV_get {k : List Nat} : ∀ {pk : Pap}, valV (pKV pk) (.inr (kS k)) = (pk.lookup k).map optI
  | [] => rfl
  | e :: pk => by
    have ih := pKV_get (k := k) (pk := pk)
    unfold valV at ih ⊢
    rw [show pKV (e :: pk) = (Sum.inr (kS e.1), optI e.2) :: pKV pk from rfl, List.find?_cons, List.lookup_cons]
    by_cases c : k = e.1
    · subst c
      rw [show decide ((Sum.inr (kS e.1) : Key) = Sum.inr (kS e.1)) = true from decide_eq_true rfl]
      rw [show (e.1 == e.1) = true from beq_self_eq_true _]
      rfl
    · rw [show decide ((Sum.inr (kS e.1) : Key) = Sum.inr (kS k)) = false from decide_eq_false fun h => c (kS_inj.mp (Sum.inr.inj h)).symm]
      rw [show (k == e.1) = false from beq_eq_false_iff_ne.mpr c]
      exact ih
/-! ### is_integer, has_all_kinds -/
def spIn : Sp := fun vs H Q _ => ∃ n : Int, vs = [.int n] ∧ Q (.bl true) H
abbrev nIn : List Str := ["value"]
theorem sc_in : FnScope nIn ["value"] (defScope (top iIsInt)) := ⟨rfl, rfl, rfl, by decide +kernel, rfl, by decide +kernel, by decide +kernel⟩

theorem g_in (T : Txt K mg) (A : Al K) : ∃ fd, FnP K "is_integer" iIsInt (He.ga K "is_integer") fd ∧ FnOk P w K mg base CX0 1 (He.ga K "is_integer") fd ["value"] spIn ∧ Binds K fd ["value"] [] := by
  obtain ⟨fd, F⟩ := A.def "is_integer" iIsInt
  refine ⟨fd, F, ?_, F.bindsN fun _ _ _ _ _ _ us hl => match us, hl with | [_], _ => rfl⟩
  refine F.ok sc_in (fun vs H Q E h => ?_) (fun cdv A outer s H vs Q E hr h => ?_)
  · obtain ⟨n, rfl, _⟩ := h
    rfl
  · obtain ⟨n, rfl, q⟩ := h
    refine ⟨_, PSs.nox (pss_one (ps_ret (pe_and (pe_callB call_isi (by rfl) (T.fr "isinstance") (by decide +kernel) (pa_cons (pv 0) (pa_cons (pe_bltn (v := .ty "int") (by rfl) (T.fr "int") boot_int rfl) pa_nil))) (pe_one (pe_not (pe_callB call_isi (by rfl) (T.fr "isinstance") (by decide +kernel) (pa_cons (pv 0) (pa_cons (pe_bltn (v := .ty "bool") (by rfl) (T.fr "bool") (by decide +kernel) rfl) pa_nil)))))))), ?_⟩
    refine ⟨_, rfl, .int n, .ty "int", .type "int", _, true, rfl, .ty _, .base (.int _), kit_ty (by decide +kernel), true, rfl, iteT ?_⟩
    exact ⟨_, rfl, .int n, .ty "bool", .type "int", _, false, rfl, .ty _, .base (.int _), kit_ty (by decide +kernel), false, rfl, q⟩
def spHa : Sp := fun vs H Q _ => ∃ (d : Addr) (pk : Pap), vs = [.ref d] ∧ H d = some (.dK (pKV pk)) ∧ ∀ H', Same H H' → Q (.bl (hasAll pk)) H'
abbrev nHa : List Str := ["table", "kind"]
theorem sc_ha : FnScope nHa ["table"] (defScope (top iHasAll)) := ⟨rfl, rfl, rfl, by decide +kernel, rfl, by decide +kernel, by decide +kernel⟩

theorem g_ha (T : Txt K mg) (A : Al K) : ∃ fd, FnP K "has_all_kinds" iHasAll (He.ga K "has_all_kinds") fd ∧ FnOk P w K mg base CX0 1 (He.ga K "has_all_kinds") fd ["table"] spHa ∧ Binds K fd ["table"] [] := by
  obtain ⟨fd, F⟩ := A.def "has_all_kinds" iHasAll
  refine ⟨fd, F, ?_, F.bindsN fun _ _ _ _ _ _ us hl => match us, hl with | [_], _ => rfl⟩
  refine F.ok sc_ha (fun vs H Q E h => ?_) (fun cdv A outer s H vs Q E hr h => ?_)
  · obtain ⟨d, pk, rfl, _⟩ := h
    rfl
  · obtain ⟨d, pk, rfl, hd, q⟩ := h
    have nd := sc_ha.nd
    have hu := hu_of hr
    refine ⟨_, PSs.nox (pss_one (ps_ret (pe_and (pe_cmpR op_eq (pe_callB call_lenD (by rfl) (T.fr "len") boot_len (pa_cons (pv 0) pa_nil)) (pe_callB call_len_seq (by rfl) (T.fr "len") boot_len (pa_cons (pe_glob (v := .ref (He.ga K "KINDS")) (by rfl) T.kinds rfl) pa_nil)) (nomark _)) (pe_one (pe_callB (cr_all rfl) (by rfl) (T.fr "all") (by decide +kernel) (pa_cons (pe_lc (own := [("kind", 1)]) (g := gName 1) (by rfl) nd (pi_tup (pe_glob (v := .ref (He.ga K "KINDS")) (by rfl) T.kinds rfl)) (blkOk_by (own := [("kind", 1)]) (N := nHa) (sc := defScope (top iHasAll)) (by decide +kernel)) (fun _ _ _ _ _ => pg_name (i := 1) nd rfl (Or.inl rfl)) (fun _ _ _ _ _ => pts_nil) (fun _ _ _ _ _ => pe_cmp (pc_din hu (pv 1) (pv 0)) rfl)) pa_nil)))))), ?_⟩
    refine ⟨_, rfl, d, _, rfl, hd, He.ga K "KINDS", kindV, rfl, .inr (T.ktup _), rfl, _, rfl, ?_⟩
    have e9 : decide (V.int ((pKV pk).length : Nat) = V.int ((kindV.length : Nat) : Int)) = decide (pk.length = 9) := by
      rw [pKV_len]
      refine decide_eq_decide.mpr ⟨fun h => ?_, fun h => ?_⟩
      · injection h with h
        have : (pk.length : Int) = 9 := h
        omega
      · rw [h]
        rfl
    rw [e9]
    unfold hasAll at q
    by_cases h9 : pk.length = 9
    · rw [decide_eq_true h9] at q ⊢
      refine iteT ⟨_, rfl, ⟨_, T.ktup _⟩, fun D hD => lc_it (walk_tup (K := K) (a := He.ga K "KINDS") (xs := kindV)) (fun i H' => Same H H' ∧ H' D = some (.lst (((kinds.take i).map fun k => (pk.lookup k).isSome).map V.bl))) ⟨same_new hD, upd_same⟩ (fun i H' _ _ => T.ktup H') ?_ ?_⟩
      · rintro i v H1 H2 hi ⟨sm, hDl⟩ ⟨rfl, hv⟩
        obtain ⟨k, hk, rfl⟩ := kind_at hv
        refine ⟨rfl, yes_if ?_⟩
        refine ⟨_, rfl, _, rfl, d, _, rfl, DGet.k (k := Sum.inr (kS k)) (sm _ _ hd), _, hDl, lt_line (by simp only [List.length_map]; exact Nat.le_trans (List.length_take_le' _ _) (by decide)), Same.grow sm hD, ?_⟩
        rw [upd_same, take_more (g := fun k => (pk.lookup k).isSome) hk, List.map_append, pKV_get, Option.isSome_map]
        rfl
      · rintro H1 ⟨sm, hDl⟩
        refine ⟨D, _, rfl, SqL.of hDl, ?_⟩
        have := q _ sm
        rw [Bool.true_and] at this
        rw [show kindV.length = kinds.length from rfl, List.take_length, List.all_map]
        exact this
    · rw [decide_eq_false h9] at q ⊢
      exact iteF (q _ (Same.refl _))
/-! ### is_breach -/
def spIb (K : PySem.W.Frag) : Sp := fun vs H Q _ => ∃ (a : Addr) (xs : List V) (ps : List Pr) (n : Int) (k : List Nat), vs = [.ref a, .int n, .str (kS k)] ∧ SqT K H a xs ∧ IsPrs K H xs ps ∧ ps.length ≤ 1000 ∧ ∀ H', Same H H' → Q (.bl (okI ps k (some n))) H'
abbrev nIb : List Str := ["pairs", "index", "kind", "one", "other"]
theorem sc_ib : FnScope nIb ["pairs", "index", "kind"] (defScope (top iIsBr)) := ⟨rfl, rfl, rfl, by decide +kernel, rfl, by decide +kernel, by decide +kernel⟩

theorem g_ib (T : Txt K mg) (A : Al K) : ∃ fd, FnP K "is_breach" iIsBr (He.ga K "is_breach") fd ∧ FnOk P w K mg base CX0 26 (He.ga K "is_breach") fd ["pairs", "index", "kind"] (spIb K) ∧ Binds K fd ["pairs", "index", "kind"] [] := by
  obtain ⟨fdN, FN, GN, BN⟩ := g_won (P := P) (w := w) (base := base) T A
  obtain ⟨fdI, FI, GI, BI⟩ := g_in (P := P) (w := w) (base := base) T A
  obtain ⟨fd, F⟩ := A.def "is_breach" iIsBr
  refine ⟨fd, F, ?_, F.bindsN fun _ _ _ _ _ _ us hl => match us, hl with | [_, _, _], _ => rfl⟩
  refine F.ok sc_ib (fun vs H Q E h => ?_) (fun cdv A outer s H vs Q E hr h => ?_)
  · obtain ⟨a, xs, ps, n, k, rfl, _⟩ := h
    rfl
  · obtain ⟨a, xs, ps, n, k, rfl, ha, hps, hle, q⟩ := h
    have nd := sc_ib.nd
    have hri : Room 1 _ := hr.mono (by decide)
    have hrn : Room 25 _ := hr
    have hln := hps.1
    refine ⟨_, PSs.nox (pss_cons (ps_if (PW.pt (pw_or (pt_not (pt_val (pe_call GI hri (by rfl) (T.df "is_integer" iIsInt) FI.kp BI .nil pass0 (pa_cons (pv 1) pa_nil)))) (pw_or (pt_cmpR op_lt (pv 1) pe_int (nomark _)) (pw_or1 (pt_cmpR op_ge (pv 1) (pe_callB call_len_seq (by rfl) (T.fr "len") boot_len (pa_cons (pv 0) pa_nil)) (nomark _)))))) (pss_one (ps_ret pe_bl)) pss_nil) (pss_cons (ps_asg (pe_ix ix_tup (pv 0) (pv 1) (fun _ _ => rfl)) (pg_tup (by rfl) (pgs_cons (pg_name (i := 3) nd rfl (.inl rfl)) (pgs_cons (pg_name (i := 4) nd rfl (.inl rfl)) pgs_nil)))) (pss_one (ps_ret (pe_not (pe_call GN hrn (by rfl) (T.df "within_on" iWon) FN.kp BN .nil pass0 (pa_cons (pv 3) (pa_cons (pv 4) (pa_cons (pv 2) pa_nil))))))))), ?_⟩
    refine ⟨_, rfl, n, rfl, _, rfl, iteF ⟨_, rfl, _, _, rfl, rfl, _, rfl, ?_⟩⟩
    rw [show okI ps k (some n) = (decide (0 ≤ n) && (match ps[n.toNat]? with | some p => !won k p | none => false)) from rfl] at q
    by_cases h0 : n < 0
    · rw [decide_eq_true h0]
      rw [decide_eq_false (show ¬ (0 ≤ n) by omega), Bool.false_and] at q
      exact iteT (q _ (Same.refl _))
    · rw [decide_eq_false h0]
      rw [decide_eq_true (show 0 ≤ n by omega), Bool.true_and] at q
      refine iteF ⟨_, rfl, _, rfl, a, xs, rfl, .inr ha, _, _, rfl, rfl, _, rfl, ?_⟩
      by_cases h1 : (xs.length : Int) ≤ n
      · rw [show decide (n ≥ (xs.length : Int)) = true from decide_eq_true h1]
        rw [List.getElem?_eq_none (by omega)] at q
        exact iteT (q _ (Same.refl _))
      · rw [show decide (n ≥ (xs.length : Int)) = false from decide_eq_false h1]
        have hi : n.toNat < xs.length := by omega
        have hv : xs[n.toNat]? = some xs[n.toNat] := List.getElem?_eq_getElem hi
        obtain ⟨p, hpi, u, x, y, e, hu, hx, hy, dx, dy⟩ := hps.at hv
        rw [e] at hv
        rw [hpi] at q
        have hat : atI xs n = some (.ref u) := by
          have := atI_nat hv
          rwa [Int.toNat_of_nonneg (by omega)] at this
        refine iteF ⟨_, rfl, _, rfl, a, xs, n, .ref u, rfl, rfl, ha, hat, u, _, rfl, hu, rfl, _, _, rfl, _, _, rfl, rfl, ?_⟩
        exact ⟨_, rfl, _, rfl, _, rfl, x, y, p.1, p.2, k, rfl, hx, hy, dx, dy, fun H3 s3 => ⟨_, rfl, q _ s3⟩⟩
end
end KX

set_option Elab.async false
set_option linter.all false
set_option maxRecDepth 100000
set_option maxHeartbeats 4000000
/-! # facts.py: shows -/
namespace KX
open PySem PySem.Spec PyProof.Rows L2 VX KW
open KV (top FnP defs iIsInt iHasAll iFits iWord iWithin iSumM iComM iLetM iMark iWon iFirstB iIsBr iWonAll iOpenK iFacts iTree iLWord iWords)
section
variable {P : Program} {w : World} {K : PySem.W.Frag} {mg : Str → Option Value} {base : Heap} {f : Addr} {fd : FuncData}
/-! ### _is_paper -/
def spIp (K : PySem.W.Frag) : Sp := fun vs H Q _ => ∃ (x d : Addr) (ps qs : List Pr) (pk : Pap), vs = [.ref x, .ref d] ∧ IsFa K H x ps qs ∧ H d = some (.dK (pKV pk)) ∧ pk.length ≤ 1000 ∧ ∀ H', Same H H' → Q (.bl (isPap ps pk)) H'
abbrev nIp : List Str := ["self", "paper", "kind", "index"]
theorem sc_ip : FnScope nIp ["self", "paper"] (defScope (sF 14)) := ⟨rfl, rfl, rfl, by decide +kernel, rfl, by decide +kernel, by decide +kernel⟩

theorem g_ip (T : Txt K mg) (A : Al K) : Meth K (fC K) "_is_paper" (He.ma K (fC K) "_is_paper") ∧ ∃ fd, FnOk P w K mg base CX0 27 (He.ma K (fC K) "_is_paper") fd ["self", "paper"] (spIp K) ∧ Binds K fd ["self", "paper"] [] := by
  obtain ⟨fdH, FH, GH, BH⟩ := g_ha (P := P) (w := w) (base := base) T A
  obtain ⟨fdB, FB, GB, BB⟩ := g_ib (P := P) (w := w) (base := base) T A
  obtain ⟨M, fd, F⟩ := A.met "_is_paper" 14
  refine ⟨M, fd, ?_, F.bindsN fun _ _ _ _ _ _ us hl => match us, hl with | [_, _], _ => rfl⟩
  refine F.ok sc_ip (fun vs H Q E h => ?_) (fun cdv A outer s H vs Q E hr h => ?_)
  · obtain ⟨x, d, ps, qs, pk, rfl, _⟩ := h
    rfl
  · obtain ⟨x, d, ps, qs, pk, rfl, hx, hd, hle, q⟩ := h
    have nd := sc_ip.nd
    have hri : Room 1 _ := hr.mono (by decide)
    have hrb : Room 26 _ := hr
    refine ⟨_, PSs.nox (pss_cons (ps_if (pt_not (pt_val (pe_call GH hri (by rfl) (T.df "has_all_kinds" iHasAll) FH.kp BH .nil pass0 (pa_cons (pv 1) pa_nil)))) (pss_one (ps_ret pe_bl)) pss_nil) (pss_one (ps_ret (pe_callB (cr_all rfl) (by rfl) (T.fr "all") (by decide +kernel) (pa_cons (pe_lock (pe_lc (own := [("kind", 2), ("index", 3)]) (g := gTup K 2 (gCons (gName 2) (gCons (gName 3) gNil))) (by rfl) nd (pi_items (pv 1)) (blkOk_by (own := [("kind", 2), ("index", 3)]) (N := nIp) (sc := defScope (sF 14)) (by decide +kernel)) (fun _ _ _ _ _ => pg_tup (by rfl) (pgs_cons (pg_name (i := 2) nd rfl (Or.inl rfl)) (pgs_cons (pg_name (i := 3) nd rfl (Or.inl rfl)) pgs_nil))) (fun _ _ _ _ _ => pts_nil) (fun _ _ _ _ _ => (pe_or (pe_cmpR op_isN (pv 3) pe_non (nomark _)) (pe_one (pe_call GB hrb (by rfl) (T.df "is_breach" iIsBr) FB.kp BB .nil pass0 (pa_cons (pe_fldK K (pv 0) rfl) (pa_cons (pv 3) (pa_cons (pv 2) pa_nil))))))))) pa_nil))))), ?_⟩
    refine ⟨_, rfl, d, pk, rfl, hd, fun H1 s1 => ⟨_, rfl, ?_⟩⟩
    unfold isPap at q
    cases hh : hasAll pk with
    | false =>
      rw [hh, Bool.false_and] at q
      exact iteT (q _ s1)
    | true =>
      rw [hh, Bool.true_and] at q
      have hd1 := s1 _ _ hd
      refine iteF ⟨d, _, hd1, trivial, fun od => ?_⟩
      have kd : Kept d H1 (upd H1 d (.frz od (.dK (pKV pk)))) := fun c o z ne => by rw [upd_ne ne]; exact z
      have hx2 := (hx.same s1).keep hd1 (.dic _) kd
      have hd2 : upd H1 d (.frz od (.dK (pKV pk))) d = some (.frz od (.dK (pKV pk))) := upd_same
      generalize hH2 : upd H1 d (.frz od (.dK (pKV pk))) = H2 at hx2 hd2
      obtain ⟨dx, a, b, xs, us, h1, h2, h3, h4, h5, l1, _⟩ := id hx2
      refine ⟨_, rfl, d, od, _, rfl, hd2, fun D hD => lc_it walk_items (fun i H' => Same H2 H' ∧ H' D = some (.lst (((pk.take i).map fun e => okI ps e.1 e.2).map V.bl))) ⟨same_new hD, upd_same⟩ (fun i H' _ z => z.1 _ _ hd2) ?_ ?_⟩
      · rintro i v Ha Hb hi ⟨sm, hDl⟩ ⟨T', y1, y2, rfl, hT, rfl, e1, e2⟩
        have hi' : i < pk.length := by rw [← pKV_len]; exact hi
        have hpk : pk[i]? = some pk[i] := List.getElem?_eq_getElem hi'
        have hkv : (pKV pk)[i]? = some (Sum.inr (kS pk[i].1), optI pk[i].2) := by
          unfold pKV
          rw [List.getElem?_map, hpk]
          rfl
        have e1 : (pKV pk)[i]?.map (fun kv => kV kv.1) = some y1 := e1
        have e2 : (pKV pk)[i]?.map Prod.snd = some y2 := e2
        rw [hkv] at e1 e2
        obtain rfl : V.str (kS pk[i].1) = y1 := Option.some.inj e1
        obtain rfl : optI pk[i].2 = y2 := Option.some.inj e2
        have s3 : Same H2 (upd Ha T' (.tup [.str (kS pk[i].1), optI pk[i].2])) := sm.trans (same_new hT)
        have hD3 := same_new (o := .tup [.str (kS pk[i].1), optI pk[i].2]) hT _ _ hDl
        generalize hHb : upd Ha T' (.tup [.str (kS pk[i].1), optI pk[i].2]) = Hb at s3 hD3
        have hTb : Hb T' = some (.tup [.str (kS pk[i].1), optI pk[i].2]) := by rw [← hHb]; exact upd_same
        generalize pk[i] = e at *
        refine ⟨T', _, rfl, SqT.of hTb, rfl, _, _, rfl, _, _, rfl, rfl, rfl, yes_if ?_⟩
        refine ⟨_, rfl, rfl, _, rfl, ?_⟩
        have fin : ∀ Hc bb, Same H2 Hc → Hc D = some (.lst (((pk.take i).map fun e => okI ps e.1 e.2).map V.bl)) → bb = okI ps e.1 e.2 → ∃ acc, Hc D = some (.lst acc) ∧ acc.length < sizeLine ∧ Same H2 (upd Hc D (.lst (acc ++ [V.bl bb]))) ∧ (upd Hc D (.lst (acc ++ [V.bl bb]))) D = some (.lst (((pk.take (i + 1)).map fun e => okI ps e.1 e.2).map V.bl)) := fun Hc bb sc hc eb => by
          subst eb
          refine ⟨_, hc, lt_line (by simp only [List.length_map]; have := List.length_take_le' i pk; omega), Same.grow sc hD, ?_⟩
          rw [upd_same, take_more (g := fun e : List Nat × Option Int => okI ps e.1 e.2) hpk, List.map_append]
          rfl
        obtain ⟨k, o⟩ := e
        cases o with
        | none => exact iteT (fin _ _ s3 hD3 rfl)
        | some n =>
          refine iteF ⟨_, rfl, x, _, dx, _, .ref a, rfl, s3 _ _ h1, T.fcls, T.ffw, rfl, _, rfl, _, rfl, a, xs, ps, n, k, rfl, SqT.same s3 h2, h3.same s3, by omega, fun Hc sc => ?_⟩
          exact fin _ _ (s3.trans sc) (sc _ _ hD3) rfl
      · rintro Ha ⟨sm, hDl⟩
        rw [pKV_len, List.take_length] at hDl
        refine ⟨sm _ _ hd2, ?_⟩
        have hDn : D ≠ d := fun e => by rw [e, hd2] at hD; cases hD
        have s4 : Same H1 (upd Ha d (.dK (pKV pk))) := fun c o z => by
          by_cases e : c = d
          · subst e
            rw [hd1] at z
            cases z
            exact upd_same
          · rw [upd_ne e]
            refine sm _ _ ?_
            rw [← hH2]
            exact kd c o z e
        refine ⟨D, _, rfl, SqL.of (by rw [upd_ne hDn]; exact hDl), ?_⟩
        have := q _ (s1.trans s4)
        rw [List.all_map]
        exact this
/-! ### _is_never -/
def spNv (K : PySem.W.Frag) : Sp := fun vs H Q _ => ∃ (x l : Addr) (n : Int) (ps qs : List Pr) (ks : List (List Nat)), vs = [.ref x, .int n, .ref l] ∧ IsFa K H x ps qs ∧ SqL K H l (kvL ks) ∧ ks.length ≤ 1000 ∧ ∀ H', Same H H' → Q (.bl (never qs n ks)) H'
abbrev nNv : List Str := ["self", "index", "kinds"]
theorem sc_nv : FnScope nNv ["self", "index", "kinds"] (defScope (sF 15)) := ⟨rfl, rfl, rfl, by decide +kernel, rfl, by decide +kernel, by decide +kernel⟩

theorem g_nv (T : Txt K mg) (A : Al K) : Meth K (fC K) "_is_never" (He.ma K (fC K) "_is_never") ∧ ∃ fd, FnOk P w K mg base CX0 27 (He.ma K (fC K) "_is_never") fd ["self", "index", "kinds"] (spNv K) ∧ Binds K fd ["self", "index", "kinds"] [] := by
  obtain ⟨fdI, FI, GI, BI⟩ := g_in (P := P) (w := w) (base := base) T A
  obtain ⟨fdA, FA, GA, BA⟩ := g_wa (P := P) (w := w) (base := base) T A
  obtain ⟨M, fd, F⟩ := A.met "_is_never" 15
  refine ⟨M, fd, ?_, F.bindsN fun _ _ _ _ _ _ us hl => match us, hl with | [_, _, _], _ => rfl⟩
  refine F.ok sc_nv (fun vs H Q E h => ?_) (fun cdv A outer s H vs Q E hr h => ?_)
  · obtain ⟨x, l, n, ps, qs, ks, rfl, _⟩ := h
    rfl
  · obtain ⟨x, l, n, ps, qs, ks, rfl, hx, hl, hle, q⟩ := h
    obtain ⟨dx, a, b, xs, us, h1, h2, h3, h4, h5, l1, l2⟩ := id hx
    have hri : Room 1 _ := hr.mono (by decide)
    have hra : Room 26 _ := hr
    have hln := h5.1
    refine ⟨_, PSs.nox (pss_cons (ps_if (PW.pt (pw_or (pt_not (pt_val (pe_call GI hri (by rfl) (T.df "is_integer" iIsInt) FI.kp BI .nil pass0 (pa_cons (pv 1) pa_nil)))) (pw_or (pt_cmpR op_lt (pv 1) pe_int (nomark _)) (pw_or1 (pt_cmpR op_ge (pv 1) (pe_callB call_len_seq (by rfl) (T.fr "len") boot_len (pa_cons (pe_fld (pv 0) rfl) pa_nil)) (nomark _)))))) (pss_one (ps_ret pe_bl)) pss_nil) (pss_one (ps_ret (pe_call GA hra (by rfl) (T.df "within_on_all" iWonAll) FA.kp BA .nil pass0 (pa_cons (pe_ix ix_tup (pe_fld (pv 0) rfl) (pv 1) (fun _ _ => rfl)) (pa_cons (pv 2) pa_nil)))))), ?_⟩
    refine ⟨_, rfl, n, rfl, _, rfl, iteF ⟨_, rfl, _, _, rfl, rfl, _, rfl, ?_⟩⟩
    unfold never at q
    by_cases h0 : n < 0
    · rw [decide_eq_true h0]
      rw [decide_eq_false (show ¬ (0 ≤ n) by omega), Bool.false_and] at q
      exact iteT (q _ (Same.refl _))
    · rw [decide_eq_false h0]
      rw [decide_eq_true (show 0 ≤ n by omega), Bool.true_and] at q
      refine iteF ⟨_, rfl, _, rfl, x, _, dx, _, .ref b, rfl, h1, T.fcls, T.ffn, rfl, b, us, rfl, .inr h4, _, _, rfl, rfl, _, rfl, ?_⟩
      by_cases c1 : (us.length : Int) ≤ n
      · rw [show decide (n ≥ (us.length : Int)) = true from decide_eq_true c1]
        rw [List.getElem?_eq_none (by omega)] at q
        exact iteT (q _ (Same.refl _))
      · rw [show decide (n ≥ (us.length : Int)) = false from decide_eq_false c1]
        have hi : n.toNat < us.length := by omega
        have hv : us[n.toNat]? = some us[n.toNat] := List.getElem?_eq_getElem hi
        obtain ⟨p, hpi, hpr⟩ := h5.at hv
        rw [hpi] at q
        have hat : atI us n = some us[n.toNat] := by
          have := atI_nat hv
          rwa [Int.toNat_of_nonneg (by omega)] at this
        refine iteF ⟨_, rfl, x, _, dx, _, .ref b, rfl, h1, T.fcls, T.ffn, rfl, _, rfl, b, us, n, _, rfl, rfl, h4, hat, _, rfl, ?_⟩
        exact ⟨_, p, l, ks, rfl, hpr, hl, hle, q⟩
/-! ### reasons -/
/-- the reason at t -/
def IsRs (H : Hp) (t : Addr) (r : Rs) (d : Addr) : Prop := match r with
  | .sure => H t = some (.tup [.str "sure", .ref d])
  | .barred n => H t = some (.tup [.str "barred", .int n, .ref d])
theorem IsRs.same {H H' : Hp} {t d : Addr} {r : Rs} (s : Same H H') (h : IsRs H t r d) : IsRs H' t r d := by
  cases r with
  | sure => exact s _ _ h
  | barred n => exact s _ _ h
/-- the reason is right -/
def rsOk (ps qs : List Pr) (p : Pr) : Rs → Prop
  | .sure => allW (opK ps) p = true
  | .barred n => allW (opK ps) p = false ∧ ∃ i : Nat, n = i ∧ clK (ps ++ [p]) qs = some i
def IsRe (H H' : Hp) (ps qs : List Pr) (p : Pr) (v : V) : Prop :=
  (∃ r t d, rsOk ps qs p r ∧ v = .ref t ∧ H t = none ∧ IsRs H' t r d ∧ H d = none ∧ H' d = some (.dK (pKV (papP ps))) ∧ t ≠ d) ∨ (allW (opK ps) p = false ∧ clK (ps ++ [p]) qs = none ∧ v = .non)
def spRe (K : PySem.W.Frag) : Sp := fun vs H Q E => ∃ (x y z : Addr) (ps qs : List Pr) (p : Pr), vs = [.ref x, .ref y, .ref z] ∧ IsFa K H x ps qs ∧ IsTr K H y p.1 ∧ IsTr K H z p.2 ∧ dep p.1 ≤ 20 ∧ dep p.2 ≤ 20 ∧ ps.length ≤ 50 ∧ qs.length ≤ 50 ∧
  (clB ps qs = true → ∀ H', Same H H' → E (.ref (cC K)) none H') ∧ (clB ps qs = false → ∀ H' v, Same H H' → IsRe H H' ps qs p v → Q v H')
abbrev nRe : List Str := ["self", "one", "other", "paper", "told"]
theorem sc_re : FnScope nRe ["self", "one", "other"] (defScope (sF 7)) := ⟨rfl, rfl, rfl, by decide +kernel, rfl, by decide +kernel, by decide +kernel⟩

theorem g_re (T : Txt K mg) (A : Al K) : Meth K (fC K) "reason" (He.ma K (fC K) "reason") ∧ ∃ fd, FnOk P w K mg base (L2.CX P w) 31 (He.ma K (fC K) "reason") fd ["self", "one", "other"] (spRe K) ∧ Binds K fd ["self", "one", "other"] [] := by
  obtain ⟨MK, fdK, GK, BK⟩ := g_ck (P := P) (w := w) (base := base) T A
  obtain ⟨MP, fdP, GP, BP⟩ := g_pap (P := P) (w := w) (base := base) T A
  obtain ⟨MS, fdS, GS, BS⟩ := g_sup (P := P) (w := w) (base := base) T A
  obtain ⟨MC, fdC, GC, BC⟩ := g_cr (P := P) (w := w) (base := base) T A
  obtain ⟨fdO, FO, GO, BO⟩ := g_ok (P := P) (w := w) (base := base) T A
  obtain ⟨fdA, FA, GA, BA⟩ := g_wa (P := P) (w := w) (base := base) T A
  obtain ⟨M, fd, F⟩ := A.met "reason" 7
  obtain ⟨tsu, hsu⟩ := T.sure
  obtain ⟨tba, hba⟩ := T.barred
  refine ⟨M, fd, ?_, F.bindsN fun _ _ _ _ _ _ us hl => match us, hl with | [_, _, _], _ => rfl⟩
  refine F.ok sc_re (fun vs H Q E h => ?_) (fun cdv A outer s H vs Q E hr h => ?_)
  · obtain ⟨x, y, z, ps, qs, p, rfl, _⟩ := h
    rfl
  · obtain ⟨x, y, z, ps, qs, p, rfl, hx, hy, hz, d1, d2, l1, l2, kE, k⟩ := h
    obtain ⟨dx, a, b, xs, us, h1, _⟩ := id hx
    have nd := sc_re.nd
    have hrp : Room 27 _ := hr.mono (by decide)
    have hrs : Room 3 _ := hr.mono (by decide)
    have hrc : Room 28 _ := hr.mono (by decide)
    have hro : Room 1 _ := hr.mono (by decide)
    have hra : Room 26 _ := hr.mono (by decide)
    have l9 : (opK ps).length ≤ 1000 := Nat.le_trans (List.length_filter_le _ _) (by decide)
    refine ⟨_, (pss_cons (ps_expr (pe_meth0 (pv 0) T.fcls MK GK hr BK .nil (passes_call (takes_of rfl rfl rfl rfl) (fun _ _ _ _ h => h)))) (pss_cons (ps_set (i := 3) nd rfl (.inl rfl) (pe_meth0 (pv 0) T.fcls MP GP hrp BP .nil pass0)) (pss_cons (ps_if (pt_val (pe_call GA hra (by rfl) (T.df "within_on_all" iWonAll) FA.kp BA .nil pass0 (pa_cons (pe_tup (pa_cons (pv 1) (pa_cons (pv 2) pa_nil))) (pa_cons (pe_call GO hro (by rfl) (T.df "open_kinds" iOpenK) FO.kp BO .nil pass0 (pa_cons (pv 3) pa_nil)) pa_nil)))) (pss_one (ps_ret (pe_tup (pa_cons (pe_glob (v := .str "sure") (by rfl) hsu ⟨tsu, rfl⟩) (pa_cons (pv 3) pa_nil))))) pss_nil) (pss_cons (ps_set (i := 4) nd rfl (.inl rfl) (pe_meth0 (pe_meth (pv 0) T.fcls MS GS hrs BS .nil pass0 (pa_cons (pv 1) (pa_cons (pv 2) (pa_cons pe_bl pa_nil)))) T.fcls MC GC hrc BC .nil pass0)) (pss_one (ps_ret (pe_ifExp (pt_cmpR op_isN (pv 4) pe_non (nomark _)) pe_non (pe_tup (pa_cons (pe_glob (v := .str "barred") (by rfl) hba ⟨tba, rfl⟩) (pa_cons (pe_ix ix_tup (pv 4) pe_int (fun _ _ => rfl)) (pa_cons (pv 3) pa_nil))))))))))), ?_⟩
    refine ⟨_, rfl, x, dx, _, rfl, h1, rfl, x, ps, qs, rfl, hx, kE, fun hc H1 s1 => ?_⟩
    have k := k hc
    refine ⟨_, rfl, x, dx, _, rfl, s1 _ _ h1, rfl, x, ps, qs, rfl, hx.same s1, fun H2 d s2 hd hdd => ?_⟩
    have s12 := s1.trans s2
    refine ⟨_, rfl, _, rfl, (by show 2 ≤ sizeLine; decide), fun q hq => ?_⟩
    have s3 := same_new (o := .tup [.ref y, .ref z]) hq
    have s13 := s12.trans s3
    have hd3 := s3 _ _ hdd
    have hq3 : upd H2 q (.tup [.ref y, .ref z]) q = some (.tup [.ref y, .ref z]) := upd_same
    have hHd : H d = none := s1.free hd
    generalize upd H2 q (.tup [.ref y, .ref z]) = H3 at s13 hd3 hq3
    refine ⟨_, rfl, d, _, papK ps, rfl, hd3, pap_get, fun H4 l s4 hl hll => ?_⟩
    rw [pap_op] at hll
    have s14 := s13.trans s4
    refine ⟨.ref q, p, l, opK ps, rfl, ⟨q, y, z, rfl, SqT.of (s4 _ _ hq3), hy.same s14, hz.same s14, d1, d2⟩, SqL.of hll, l9, fun H5 s5 => ⟨_, rfl, ?_⟩⟩
    have s15 := s14.trans s5
    have hd5 := s5 _ _ (s4 _ _ hd3)
    cases ha : allW (opK ps) p with
    | true =>
      refine iteT ⟨_, rfl, (by show 2 ≤ sizeLine; decide), fun t ht => ?_⟩
      exact k _ _ (s15.trans (same_new ht)) (.inl ⟨.sure, t, d, ha, rfl, s15.free ht, upd_same, hHd, (by rw [upd_ne (ne_of_none hd5 ht), pKV_pap]; exact hd5), Ne.symm (ne_of_none hd5 ht)⟩)
    | false =>
      refine iteF ⟨_, rfl, x, dx, _, rfl, s15 _ _ h1, rfl, _, rfl, _, rfl, x, y, z, true, ps, qs, p, rfl, hx.same s15, hy.same s15, hz.same s15, d1, d2, l1, l2, fun H6 u s6 hu => ?_⟩
      obtain ⟨du, _, _, _, _, hu1, _⟩ := id hu
      refine ⟨u, du, _, rfl, hu1, rfl, u, _, _, rfl, hu, fun H7 v s7 hv => ?_⟩
      have s17 := s15.trans (s6.trans s7)
      have hd7 := s7 _ _ (s6 _ _ hd5)
      have hv : IsCR H6 H7 v (ps ++ [p]) (clK (ps ++ [p]) qs) := hv
      refine ⟨_, rfl, rfl, _, rfl, ?_⟩
      rw [cr_non hv]
      cases hk : clK (ps ++ [p]) qs with
      | none =>
        exact iteT (k _ _ s17 (.inr ⟨ha, hk, rfl⟩))
      | some i =>
        rw [hk] at hv
        obtain ⟨t0, d0, rfl, _, ht0, _⟩ := hv
        refine iteF ⟨_, rfl, t0, _, 0, _, rfl, rfl, SqT.of ht0, rfl, _, rfl, (by show 3 ≤ sizeLine; decide), fun t ht => ?_⟩
        exact k _ _ (s17.trans (same_new ht)) (.inl ⟨.barred i, t, d, ⟨ha, i, rfl, hk⟩, rfl, s17.free ht, upd_same, hHd, (by rw [upd_ne (ne_of_none hd7 ht), pKV_pap]; exact hd7), Ne.symm (ne_of_none hd7 ht)⟩)
/-! ### shows, shows_clash -/
theorem opP_len {pk : Pap} : (opP pk).length ≤ 9 := Nat.le_trans (List.length_filter_le _ _) (by decide)
/-- what a whole paper tells of each kind -/
def gP (pk : Pap) (k : List Nat) : V := optI ((pk.lookup k).getD none)
theorem gP_get {pk : Pap} (h : hasAll pk = true) : ∀ k ∈ kinds, valV (pKV pk) (.inr (kS k)) = some (gP pk k) := fun k hk => by
  rw [pKV_get]
  unfold hasAll at h
  rw [Bool.and_eq_true, List.all_eq_true] at h
  have := h.2 k hk
  unfold gP
  cases e : pk.lookup k with
  | none => rw [e] at this; cases this
  | some o => rfl
theorem gP_op {pk : Pap} (h : hasAll pk = true) : (kinds.filter fun k => decide (gP pk k = .non)) = opP pk := by
  unfold opP
  refine List.filter_congr fun k hk => ?_
  unfold hasAll at h
  rw [Bool.and_eq_true, List.all_eq_true] at h
  have := h.2 k hk
  unfold gP
  cases e : pk.lookup k with
  | none => rw [e] at this; cases this
  | some o =>
    show decide (optI o = .non) = decide (some o = some none)
    cases o <;> rfl
theorem isPap_all {ps : List Pr} {pk : Pap} (h : isPap ps pk = true) : hasAll pk = true := by
  unfold isPap at h
  rw [Bool.and_eq_true] at h
  exact h.1
def spSh (K : PySem.W.Frag) : Sp := fun vs H Q _ => ∃ (x y z t d : Addr) (ps qs : List Pr) (p : Pr) (r : Rs) (pk : Pap), vs = [.ref x, .ref y, .ref z, .ref t] ∧ IsFa K H x ps qs ∧ IsTr K H y p.1 ∧ IsTr K H z p.2 ∧ dep p.1 ≤ 20 ∧ dep p.2 ≤ 20 ∧ IsRs H t r d ∧ H d = some (.dK (pKV pk)) ∧ pk.length ≤ 1000 ∧
  ∀ H', Same H H' → Q (.bl (shB ps qs p r pk)) H'
abbrev nSh : List Str := ["self", "one", "other", "reason", "paper", "_", "index", "kind"]
theorem sc_sh : FnScope nSh ["self", "one", "other", "reason"] (defScope (sF 9)) := ⟨rfl, rfl, rfl, by decide +kernel, rfl, by decide +kernel, by decide +kernel⟩

theorem g_sh (T : Txt K mg) (A : Al K) : Meth K (fC K) "shows" (He.ma K (fC K) "shows") ∧ ∃ fd, MtP K "shows" 9 (He.ma K (fC K) "shows") fd ∧ FnOk P w K mg base CX0 28 (He.ma K (fC K) "shows") fd ["self", "one", "other", "reason"] (spSh K) ∧ Binds K fd ["self", "one", "other", "reason"] [] := by
  obtain ⟨MIp, fdIp, GIp, BIp⟩ := g_ip (P := P) (w := w) (base := base) T A
  obtain ⟨MNv, fdNv, GNv, BNv⟩ := g_nv (P := P) (w := w) (base := base) T A
  obtain ⟨fdO, FO, GO, BO⟩ := g_ok (P := P) (w := w) (base := base) T A
  obtain ⟨fdA, FA, GA, BA⟩ := g_wa (P := P) (w := w) (base := base) T A
  obtain ⟨fdN, FN, GN, BN⟩ := g_won (P := P) (w := w) (base := base) T A
  obtain ⟨M, fd, F⟩ := A.met "shows" 9
  obtain ⟨tsu, hsu⟩ := T.sure
  obtain ⟨tba, hba⟩ := T.barred
  refine ⟨M, fd, F, ?_, F.bindsN fun _ _ _ _ _ _ us hl => match us, hl with | [_, _, _, _], _ => rfl⟩
  refine F.ok sc_sh (fun vs H Q E h => ?_) (fun cdv A outer s H vs Q E hr h => ?_)
  · obtain ⟨x, y, z, t, d, ps, qs, p, r, pk, rfl, _⟩ := h
    rfl
  · obtain ⟨x, y, z, t, d, ps, qs, p, r, pk, rfl, hx, hy, hz, d1, d2, hr0, hd, hle, q⟩ := h
    obtain ⟨dx, a, b, xs, us, h1, _⟩ := id hx
    have nd := sc_sh.nd
    have hro : Room 1 _ := hr.mono (by decide)
    have hra : Room 26 _ := hr.mono (by decide)
    have hrn : Room 25 _ := hr.mono (by decide)
    refine ⟨_, PSs.nox (pss_cons (ps_if (PW.pt (pw_and (pt_cmpR op_eq (pe_callB call_len_seq (by rfl) (T.fr "len") boot_len (pa_cons (pv 3) pa_nil)) pe_int (nomark _)) (pw_and1 (pt_cmpR op_eq (pe_ix ix_tup (pv 3) pe_int (fun _ _ => rfl)) (pe_glob (v := .str "sure") (by rfl) hsu ⟨tsu, rfl⟩) (nomark _))))) (pss_cons (ps_set (i := 4) nd rfl (.inl rfl) (pe_ix ix_tup (pv 3) pe_int (fun _ _ => rfl))) (pss_one (ps_ret (pe_and (pe_meth (pv 0) T.fcls MIp GIp hr BIp .nil pass0 (pa_cons (pv 4) pa_nil)) (pe_one (pe_call GA hra (by rfl) (T.df "within_on_all" iWonAll) FA.kp BA .nil pass0 (pa_cons (pe_tup (pa_cons (pv 1) (pa_cons (pv 2) pa_nil))) (pa_cons (pe_call GO hro (by rfl) (T.df "open_kinds" iOpenK) FO.kp BO .nil pass0 (pa_cons (pv 4) pa_nil)) pa_nil)))))))) pss_nil) (pss_cons (ps_if (PW.pt (pw_or (pt_cmpR op_ne (pe_callB call_len_seq (by rfl) (T.fr "len") boot_len (pa_cons (pv 3) pa_nil)) pe_int (nomark _)) (pw_or1 (pt_cmpR op_ne (pe_ix ix_tup (pv 3) pe_int (fun _ _ => rfl)) (pe_glob (v := .str "barred") (by rfl) hba ⟨tba, rfl⟩) (nomark _))))) (pss_one (ps_ret pe_bl)) pss_nil) (pss_cons (ps_asg (pv 3) (pg_tup (by rfl) (pgs_cons (pg_name (i := 5) nd rfl (.inl rfl)) (pgs_cons (pg_name (i := 6) nd rfl (.inl rfl)) (pgs_cons (pg_name (i := 4) nd rfl (.inl rfl)) pgs_nil))))) (pss_cons (ps_if (pt_not (pt_val (pe_meth (pv 0) T.fcls MIp GIp hr BIp .nil pass0 (pa_cons (pv 4) pa_nil)))) (pss_one (ps_ret pe_bl)) pss_nil) (pss_one (ps_ret (pe_meth (pv 0) T.fcls MNv GNv hr BNv .nil pass0 (pa_cons (pv 6) (pa_cons (pe_lc (own := [("kind", 7)]) (g := gName 7) (by rfl) nd (pi_list (pe_call GO hro (by rfl) (T.df "open_kinds" iOpenK) FO.kp BO .nil pass0 (pa_cons (pv 4) pa_nil))) (blkOk_by (own := [("kind", 7)]) (N := nSh) (sc := defScope (sF 9)) (by decide +kernel)) (fun _ _ _ _ _ => pg_name (i := 7) nd rfl (Or.inl rfl)) (fun _ _ _ _ _ => pts_one (pt_val (pe_call GN hrn (by rfl) (T.df "within_on" iWon) FN.kp BN .nil pass0 (pa_cons (pv 1) (pa_cons (pv 2) (pa_cons (pv 7) pa_nil)))))) (fun _ _ _ _ _ => pv 7)) pa_nil))))))))), ?_⟩
    unfold shB at q
    cases r with
    | sure =>
      have ht : H t = some (.tup [.str "sure", .ref d]) := hr0
      refine ⟨_, rfl, t, _, rfl, .inr (SqT.of ht), rfl, _, rfl, iteT ?_⟩
      refine ⟨_, rfl, t, _, 0, _, rfl, rfl, SqT.of ht, rfl, rfl, _, rfl, iteT ?_⟩
      refine ⟨_, rfl, t, _, 1, _, rfl, rfl, SqT.of ht, rfl, ?_⟩
      refine ⟨_, rfl, x, dx, _, rfl, h1, rfl, _, rfl, x, d, ps, qs, pk, rfl, hx, hd, hle, fun H1 s1 => ⟨_, rfl, ?_⟩⟩
      cases hp : isPap ps pk with
      | false =>
        rw [hp] at q
        exact iteF (q _ s1)
      | true =>
        rw [hp, Bool.true_and] at q
        refine iteT ⟨_, rfl, _, rfl, (by show 2 ≤ sizeLine; decide), fun u hu => ?_⟩
        have s2 := s1.trans (same_new (o := .tup [.ref y, .ref z]) hu)
        have hu2 : upd H1 u (.tup [.ref y, .ref z]) u = some (.tup [.ref y, .ref z]) := upd_same
        generalize upd H1 u (.tup [.ref y, .ref z]) = H2 at s2 hu2
        refine ⟨_, rfl, d, _, gP pk, rfl, s2 _ _ hd, gP_get (isPap_all hp), fun H3 l s3 hl hll => ?_⟩
        rw [gP_op (isPap_all hp)] at hll
        have s13 := s2.trans s3
        exact ⟨.ref u, p, l, opP pk, rfl, ⟨u, y, z, rfl, SqT.of (s3 _ _ hu2), hy.same s13, hz.same s13, d1, d2⟩, SqL.of hll, Nat.le_trans opP_len (by decide), fun H4 s4 => q _ (s13.trans s4)⟩
    | barred n =>
      have ht : H t = some (.tup [.str "barred", .int n, .ref d]) := hr0
      refine ⟨_, rfl, t, _, rfl, .inr (SqT.of ht), rfl, _, rfl, iteF ?_⟩
      refine ⟨_, rfl, t, _, rfl, .inr (SqT.of ht), rfl, _, rfl, iteF ?_⟩
      refine ⟨_, rfl, t, _, 0, _, rfl, rfl, SqT.of ht, rfl, rfl, _, rfl, iteF ?_⟩
      refine ⟨_, rfl, t, _, rfl, SqT.of ht, rfl, _, _, rfl, _, _, rfl, _, _, rfl, rfl, ?_⟩
      refine ⟨_, rfl, x, dx, _, rfl, h1, rfl, _, rfl, x, d, ps, qs, pk, rfl, hx, hd, hle, fun H1 s1 => ⟨_, rfl, ?_⟩⟩
      cases hp : isPap ps pk with
      | false =>
        rw [hp] at q
        exact iteT (q _ s1)
      | true =>
        rw [hp, Bool.true_and] at q
        refine iteF ⟨_, rfl, x, dx, _, rfl, s1 _ _ h1, rfl, _, rfl, ?_⟩
        refine ⟨_, rfl, d, _, gP pk, rfl, s1 _ _ hd, gP_get (isPap_all hp), fun H3 l s3 hl hll => ?_⟩
        rw [gP_op (isPap_all hp)] at hll
        have s13 := s1.trans s3
        refine ⟨l, rfl, ⟨_, SqL.of hll⟩, fun D hD => lc_it (walk_list (K := K) (a := l) (xs := kvL (opP pk))) (fun j H' => Same H3 H' ∧ H' D = some (.lst (kvL (((opP pk).take j).filter fun k => won k p)))) ⟨same_new hD, upd_same⟩ (fun j H' _ z => SqL.of (z.1 _ _ hll)) ?_ ?_⟩
        · rintro j v1 Ha Hb hj ⟨sj, hDl⟩ ⟨rfl, hv2⟩
          obtain ⟨k, hkk, rfl⟩ := kvL_at hv2
          have s4 := s13.trans sj
          refine ⟨rfl, _, rfl, _, rfl, _, rfl, y, z, p.1, p.2, k, rfl, hy.same s4, hz.same s4, d1, d2, fun H5 s5 => ⟨_, rfl, ?_⟩⟩
          refine ite2 (fun h => ?_) (fun h => ?_)
          · refine ⟨_, rfl, _, s5 _ _ hDl, lt_line (by rw [kvL_len]; exact Nat.le_trans filt_le2 (Nat.le_trans opP_len (by decide))), Same.grow (sj.trans s5) hD, ?_⟩
            rw [upd_same, filt_yes (c := fun k => won k p) hkk h]
            simp only [kvL, List.map_append]
            rfl
          · refine ⟨sj.trans s5, ?_⟩
            rw [filt_no (c := fun k => won k p) hkk (Bool.eq_false_iff.mpr h)]
            exact s5 _ _ hDl
        · rintro Ha ⟨sj, hDl⟩
          rw [kvL_len, List.take_length] at hDl
          have hDl : Ha D = some (.lst (kvL (keptK (opP pk) p))) := hDl
          have s4 := s13.trans sj
          exact ⟨x, D, n, ps, qs, keptK (opP pk) p, rfl, hx.same s4, SqL.of hDl, Nat.le_trans (List.length_filter_le _ _) (Nat.le_trans opP_len (by decide)), fun H6 s6 => q _ (s4.trans s6)⟩
end
end KX

set_option Elab.async false
set_option linter.all false
set_option maxRecDepth 100000
set_option maxHeartbeats 4000000
/-! # k39: told, right -/
namespace KX
open PySem PySem.Spec PyProof.Rows L2 VX KW
open KV (top FnP defs iIsInt iHasAll iFits iWord iWithin iSumM iComM iLetM iMark iWon iFirstB iIsBr iWonAll iOpenK iFacts iTree iLWord iWords)
section
variable {P : Program} {w : World} {K : PySem.W.Frag} {mg : Str → Option Value} {base : Heap} {f : Addr} {fd : FuncData}
def rsS : Rs → Str
  | .sure => "sure"
  | .barred _ => "barred"
theorem rs_vd {ps qs : List Pr} {p : Pr} {r : Rs} (h : clB ps qs = false) (o : rsOk ps qs p r) : vdS (vd ps qs p) = rsS r ∧ shB ps qs p r (papP ps) = true := by
  unfold shB
  rw [papP_ok, papP_op, Bool.true_and]
  cases r with
  | sure =>
    have o : allW (opK ps) p = true := o
    refine ⟨?_, o⟩
    unfold vd
    rw [if_neg (by rw [h]; exact Bool.false_ne_true), if_pos o]
    rfl
  | barred n =>
    obtain ⟨ha, i, rfl, hk⟩ : allW (opK ps) p = false ∧ ∃ i : Nat, n = i ∧ clK (ps ++ [p]) qs = some i := o
    have hb : clB (ps ++ [p]) qs = true := by rw [← clK_none, hk]; rfl
    rw [vd_in h, decide_eq_true_eq] at hb
    refine ⟨by rw [hb]; rfl, ?_⟩
    obtain ⟨q, hq, hw⟩ := clK_at hk
    rw [opK_add] at hw
    exact never_at hq hw
theorem no_vd {ps qs : List Pr} {p : Pr} (h : clB ps qs = false) (ha : allW (opK ps) p = false) (hk : clK (ps ++ [p]) qs = none) : vdS (vd ps qs p) = "open" := by
  have hb : clB (ps ++ [p]) qs = false := by rw [← clK_none, hk]; rfl
  rw [vd_in h, decide_eq_false_iff_not] at hb
  unfold vd at hb ⊢
  rw [if_neg (by rw [h]; exact Bool.false_ne_true), if_neg (by rw [ha]; exact Bool.false_ne_true)] at hb ⊢
  split
  · rfl
  · rename_i z
    rw [if_neg z] at hb
    exact absurd rfl hb
/-! ### _law_told -/
theorem IsRe.same {H H' H2 : Hp} {ps qs : List Pr} {p : Pr} {v : V} (s : Same H' H2) (h : IsRe H H' ps qs p v) : IsRe H H2 ps qs p v := by
  rcases h with ⟨r, t, d, h1, h2, h3, h4, h5, h6, h7⟩ | h
  · exact .inl ⟨r, t, d, h1, h2, h3, h4.same s, h5, s _ _ h6, h7⟩
  · exact .inr h
/-! ### _law_right -/
end
end KX

set_option Elab.async false
set_option linter.all false
set_option maxRecDepth 100000
set_option maxHeartbeats 4000000
/-! # k37: verdicts, told -/
namespace KX
open PySem PySem.Spec PyProof.Rows L2 VX KW
open KV (top FnP defs iIsInt iHasAll iFits iWord iWithin iSumM iComM iLetM iMark iWon iFirstB iIsBr iWonAll iOpenK iFacts iTree iLWord iWords)
section
variable {P : Program} {w : World} {K : PySem.W.Frag} {mg : Str → Option Value} {base : Heap} {f : Addr} {fd : FuncData}
/-! ### verdict -/
def spVd (K : PySem.W.Frag) : Sp := fun vs H Q E => ∃ (x y z : Addr) (ps qs : List Pr) (p : Pr), vs = [.ref x, .ref y, .ref z] ∧ IsFa K H x ps qs ∧ IsTr K H y p.1 ∧ IsTr K H z p.2 ∧ dep p.1 ≤ 20 ∧ dep p.2 ≤ 20 ∧ ps.length ≤ 50 ∧ qs.length ≤ 50 ∧
  (clB ps qs = true → ∀ H', Same H H' → E (.ref (cC K)) none H') ∧ (clB ps qs = false → ∀ H', Same H H' → Q (.str (vdS (vd ps qs p))) H')
theorem vd_sure {ps qs : List Pr} {p : Pr} (h : clB ps qs = false) (h2 : clB (supP ps p false) (supP qs p (!false)) = true) : vdS (vd ps qs p) = "sure" := by
  have e : decide (vd ps qs p = .sure) = true := (vd_out (p := p) h).symm.trans h2
  rw [of_decide_eq_true e]
  rfl
theorem vd_barred {ps qs : List Pr} {p : Pr} (h : clB ps qs = false) (h2 : clB (supP ps p true) (supP qs p (!true)) = true) : vdS (vd ps qs p) = "barred" := by
  have e : decide (vd ps qs p = .barred) = true := (vd_in (p := p) h).symm.trans h2
  rw [of_decide_eq_true e]
  rfl
theorem vd_open {ps qs : List Pr} {p : Pr} (h : clB ps qs = false) (h1 : clB (supP ps p false) (supP qs p (!false)) = false) (h2 : clB (supP ps p true) (supP qs p (!true)) = false) : vdS (vd ps qs p) = "open" := by
  have e1 : decide (vd ps qs p = .sure) = false := (vd_out (p := p) h).symm.trans h1
  have e2 : decide (vd ps qs p = .barred) = false := (vd_in (p := p) h).symm.trans h2
  have e3 : vd ps qs p ≠ .clash := by
    unfold vd
    rw [if_neg (by rw [h]; exact Bool.false_ne_true)]
    split
    · intro e; cases e
    · split <;> intro e <;> cases e
  have n1 := of_decide_eq_false e1
  have n2 := of_decide_eq_false e2
  cases e : vd ps qs p with
  | clash => exact absurd e e3
  | sure => exact absurd e n1
  | barred => exact absurd e n2
  | opn => rfl
abbrev nVd : List Str := ["self", "one", "other"]
theorem sc_vd : FnScope nVd ["self", "one", "other"] (defScope (sF 5)) := ⟨rfl, rfl, rfl, by decide +kernel, rfl, by decide +kernel, by decide +kernel⟩

theorem g_vd (T : Txt K mg) (A : Al K) : Meth K (fC K) "verdict" (He.ma K (fC K) "verdict") ∧ ∃ fd, FnOk P w K mg base (L2.CX P w) 32 (He.ma K (fC K) "verdict") fd ["self", "one", "other"] (spVd K) ∧ Binds K fd ["self", "one", "other"] [] := by
  obtain ⟨MM, fdM, FM, GM, BM⟩ := g_mo (P := P) (w := w) (base := base) T A
  obtain ⟨M, fd, F⟩ := A.met "verdict" 5
  refine ⟨M, fd, ?_, F.bindsN fun _ _ _ _ _ _ us hl => match us, hl with | [_, _, _], _ => rfl⟩
  refine F.ok sc_vd (fun vs H Q E h => ?_) (fun cdv A outer s H vs Q E hr h => ?_)
  · obtain ⟨x, y, z, ps, qs, p, rfl, _⟩ := h
    rfl
  · obtain ⟨x, y, z, ps, qs, p, rfl, hx, hy, hz, d1, d2, l1, l2, kE, k⟩ := h
    obtain ⟨dx, a, c, xs, us, h1, _⟩ := id hx
    obtain ⟨tsu, hsu⟩ := T.sure
    obtain ⟨tba, hba⟩ := T.barred
    obtain ⟨tq, hop⟩ := T.opn
    refine ⟨_, (pss_cons (ps_if (pt_cmpR op_isN (pe_meth (pv 0) T.fcls MM GM hr BM .nil (passes_call (takes_of rfl rfl rfl rfl) (fun _ _ _ _ h => h)) (pa_cons (pv 1) (pa_cons (pv 2) (pa_cons pe_bl pa_nil)))) pe_non (nomark _)) (pss_one (ps_ret (pe_glob (v := .str "sure") (by rfl) hsu ⟨tsu, rfl⟩))) pss_nil) (pss_one (ps_ret (pe_ifExp (pt_cmpR op_isN (pe_meth (pv 0) T.fcls MM GM hr BM .nil (passes_call (takes_of rfl rfl rfl rfl) (fun _ _ _ _ h => h)) (pa_cons (pv 1) (pa_cons (pv 2) (pa_cons pe_bl pa_nil)))) pe_non (nomark _)) (pe_glob (v := .str "barred") (by rfl) hba ⟨tba, rfl⟩) (pe_glob (v := .str "open") (by rfl) hop ⟨tq, rfl⟩))))), ?_⟩
    refine ⟨_, rfl, x, dx, _, rfl, h1, rfl, _, rfl, _, rfl, x, y, z, false, ps, qs, p, rfl, hx, hy, hz, d1, d2, l1, l2, kE, fun hc hc2 H1 s1 => ?_, fun hc hc2 H1 d s1 hd hdd => ?_⟩
    · have e := vd_sure hc hc2
      refine ⟨rfl, _, rfl, iteT ?_⟩
      rw [e] at k
      exact k hc H1 s1
    · refine ⟨rfl, _, rfl, iteF ?_⟩
      refine ⟨_, rfl, x, dx, _, rfl, s1 _ _ h1, rfl, _, rfl, _, rfl, x, y, z, true, ps, qs, p, rfl, hx.same s1, hy.same s1, hz.same s1, d1, d2, l1, l2, fun h => absurd h (by rw [hc]; exact Bool.false_ne_true), fun _ hc3 H2 s2 => ?_, fun _ hc3 H2 d2 s2 _ _ => ?_⟩
      · have e := vd_barred hc hc3
        rw [e] at k
        exact ⟨rfl, _, rfl, iteT (k hc H2 (s1.trans s2))⟩
      · have e := vd_open hc hc2 hc3
        rw [e] at k
        exact ⟨rfl, _, rfl, iteF (k hc H2 (s1.trans s2))⟩
/-! ### _law_told -/
/-! ### within, not_within -/
end
end KX

set_option Elab.async false
set_option linter.all false
set_option maxRecDepth 100000
set_option maxHeartbeats 4000000
/-! # rows.py: rows -/
namespace KV
open PySem PySem.Spec PyProof.Rows L2 VX RX
section
variable {P : Program} {w : World} {K : PySem.W.Frag} {mg : Str → Option Value} {base : Heap} {f : Addr} {fd : FuncData}
/-- a row as it stands in memory -/
def IsRow (H : Hp) (a : Addr) (r : List Int) : Prop := H a = some (.tup (r.map V.int))
/-! ### lead -/
/-! ### row_of, times, added -/
theorem lt_line {n : Nat} (h : n ≤ 100000) : n < sizeLine := Nat.lt_of_le_of_lt h (by decide)
theorem take_more {α β : Type} {g : α → β} {xs : List α} {i : Nat} {x : α} (h : xs[i]? = some x) : (xs.take (i + 1)).map g = (xs.take i).map g ++ [g x] := by
  rw [List.take_succ, h, List.map_append]
  rfl
theorem ints_at {xs : List Int} {i : Nat} {v : V} (h : (xs.map V.int)[i]? = some v) : ∃ x, xs[i]? = some x ∧ v = .int x := by
  rw [List.getElem?_map] at h
  cases e : xs[i]? with
  | none => rw [e] at h; cases h
  | some x =>
    rw [e] at h
    exact ⟨x, rfl, (Option.some.inj h).symm⟩
theorem fmod_pos {a p : Int} (h : 0 < p) : a.fmod p = a % p := by
  rw [Int.fmod_eq_emod_of_nonneg a (by omega)]
theorem same_two {H : Hp} {a b : Addr} {o u : HO} (ha : H a = none) (hb : upd H a o b = none) : Same H (upd (upd H a o) b u) := fun c z e => by
  have k : upd H a o c = some z := by rw [upd_ne (ne_of_none e ha)]; exact e
  rw [upd_ne (ne_of_none k hb)]
  exact k
theorem yes_if {σ : L2.St} {H : Hp} {A B : Hp → Prop} (h : A H) : tYes σ H fun b H3 => if b = true then A H3 else B H3 := by
  show if true = true then A H else B H
  rw [if_pos rfl]
  exact h
theorem none_of {H : Hp} {a b : Addr} {o : HO} (hb : upd H a o b = none) : H b = none := by
  by_cases e : b = a
  · rw [e, upd_same] at hb; cases hb
  · rwa [upd_ne e] at hb
end
end KV

set_option Elab.async false
set_option linter.all false
set_option maxRecDepth 100000
set_option maxHeartbeats 4000000
/-! # rows.py: times, added -/
namespace KV
open PySem PySem.Spec PyProof.Rows L2 VX RX
section
variable {P : Program} {w : World} {K : PySem.W.Frag} {mg : Str → Option Value} {base : Heap} {f : Addr} {fd : FuncData}
theorem same_new {H : Hp} {a : Addr} {o : HO} (h : H a = none) : Same H (upd H a o) := fun c u e => by
  rw [upd_ne (ne_of_none e h)]
  exact e
theorem none_back {H H' : Hp} {b : Addr} (s : Same H H') (h : H' b = none) : H b = none := by
  cases e : H b with
  | none => rfl
  | some o => rw [s b o e] at h; cases h
end
end KV

set_option Elab.async false
set_option linter.all false
set_option maxRecDepth 100000
set_option maxHeartbeats 4000000
/-! # rows.py: rest_of, joined, reduced -/
namespace KV
open PySem PySem.Spec PyProof.Rows L2 VX RX
section
variable {P : Program} {w : World} {K : PySem.W.Frag} {mg : Str → Option Value} {base : Heap} {f : Addr} {fd : FuncData}
/-- rows as they stand in memory -/
inductive AreRows (H : Hp) : List Addr → List (List Int) → Prop
  | nil : AreRows H [] []
  | cons {a : Addr} {r : List Int} {as : List Addr} {rs : List (List Int)} : IsRow H a r → AreRows H as rs → AreRows H (a :: as) (r :: rs)
theorem AreRows.same {H H' : Hp} (s : Same H H') : ∀ {as : List Addr} {rs : List (List Int)}, AreRows H as rs → AreRows H' as rs
  | _, _, .nil => .nil
  | _, _, .cons h t => .cons (s _ _ h) (t.same s)
theorem AreRows.length {H : Hp} : ∀ {as : List Addr} {rs : List (List Int)}, AreRows H as rs → as.length = rs.length
  | _, _, .nil => rfl
  | _, _, .cons _ t => congrArg (· + 1) t.length
theorem AreRows.get {H : Hp} : ∀ {as : List Addr} {rs : List (List Int)} {i : Nat} {a : Addr}, AreRows H as rs → as[i]? = some a → ∃ r, rs[i]? = some r ∧ IsRow H a r
  | _, _, 0, _, .cons h _, e => ⟨_, rfl, Option.some.inj e ▸ h⟩
  | _, _, i + 1, _, .cons _ t, e => t.get (i := i) e
theorem AreRows.append {H : Hp} : ∀ {as : List Addr} {rs : List (List Int)} {bs : List Addr} {ss : List (List Int)}, AreRows H as rs → AreRows H bs ss → AreRows H (as ++ bs) (rs ++ ss)
  | _, _, _, _, .nil, h => h
  | _, _, _, _, .cons h t, g => .cons h (t.append g)
theorem refs_at {as : List Addr} {i : Nat} {v : V} (h : (as.map V.ref)[i]? = some v) : ∃ a, as[i]? = some a ∧ v = .ref a := by
  rw [List.getElem?_map] at h
  cases e : as[i]? with
  | none => rw [e] at h; cases h
  | some x =>
    rw [e] at h
    exact ⟨x, rfl, (Option.some.inj h).symm⟩
theorem _root_.RX.Rref.take {p : Int} {n : Nat} {b : List (List Int)} (h : Rref p n b) (i : Nat) : Rref p n (b.take i) := by
  have e : b = b.take i ++ b.drop i := (List.take_append_drop i b).symm
  rw [e] at h
  exact h.init
theorem atI_row {r : List Int} {i : Nat} (h : i < r.length) : atI (r.map V.int) (i : Int) = some (.int (at0 r i)) := by
  refine atI_nat ?_
  rw [List.getElem?_map, List.getElem?_eq_getElem h, at0_of h]
  rfl
end
end KV

set_option Elab.async false
set_option linter.all false
set_option maxRecDepth 100000
set_option maxHeartbeats 4000000
/-! # rests.py -/
namespace KV
open PySem PySem.Spec PyProof.Rows L2 VX RX
section
variable {P : Program} {w : World} {K : PySem.W.Frag} {mg : Str → Option Value} {base : Heap} {f : Addr} {fd : FuncData}
/-! ### is_integer -/
/-! ### is_prime -/
def isP (n : Int) : Bool := decide (n ∈ [(2 : Int), 3, 5, 7, 11, 13])
theorem inv_nat : ∀ p ∈ [2, 3, 5, 7, 11, 13], ∀ r < p, r ≠ 0 → ∃ j < p - 1, r * (1 + j) % p = 1 := by decide
theorem isP_cases {p : Int} (h : isP p = true) : p = 2 ∨ p = 3 ∨ p = 5 ∨ p = 7 ∨ p = 11 ∨ p = 13 := by simpa [isP] using h
theorem isP_nat {p : Int} (h : isP p = true) : ∃ q : Nat, q ∈ [2, 3, 5, 7, 11, 13] ∧ p = (q : Int) := by
  rcases isP_cases h with h | h | h | h | h | h
  · exact ⟨2, by decide, h⟩
  · exact ⟨3, by decide, h⟩
  · exact ⟨5, by decide, h⟩
  · exact ⟨7, by decide, h⟩
  · exact ⟨11, by decide, h⟩
  · exact ⟨13, by decide, h⟩
theorem isP_pos {p : Int} (h : isP p = true) : 2 ≤ p ∧ p ≤ 13 := by
  rcases isP_cases h with h | h | h | h | h | h <;> omega
theorem inv_ex {n p : Int} (hp : isP p = true) (h : n % p ≠ 0) : ∃ j : Nat, (j : Int) < p - 1 ∧ n * (1 + (j : Int)) % p = 1 := by
  have hb := isP_pos hp
  obtain ⟨q, hq, rfl⟩ := isP_nat hp
  have h0 : 0 ≤ n % (q : Int) := Int.emod_nonneg n (by omega)
  have h1 : n % (q : Int) < (q : Int) := Int.emod_lt_of_pos n (by omega)
  obtain ⟨r, hr⟩ : ∃ r : Nat, n % (q : Int) = (r : Int) := ⟨(n % (q : Int)).toNat, by omega⟩
  obtain ⟨j, hj, e⟩ := inv_nat q hq r (by omega) (by omega)
  refine ⟨j, by omega, ?_⟩
  have e1 : n * (1 + (j : Int)) % (q : Int) = n % (q : Int) * (1 + (j : Int)) % (q : Int) := by
    rw [Int.mul_emod, Int.mul_emod (n % (q : Int)) (1 + (j : Int)), Int.emod_emod]
  have e2 : ((r * (1 + j) % q : Nat) : Int) = (1 : Nat) := congrArg _ e
  rw [e1, hr]
  simpa using e2
open Classical in
/-- the inverse, where there is one -/
noncomputable def invF (p n : Int) : Int := if h : ∃ i, 1 ≤ i ∧ i < p ∧ n * i % p = 1 then h.choose else 0
theorem inv_uniq {p n i j : Int} (hi : 1 ≤ i ∧ i < p ∧ n * i % p = 1) (hj : 1 ≤ j ∧ j < p ∧ n * j % p = 1) : i = j := by
  have e : i % p = j % p := by
    have e1 : i * (n * j) % p = i % p := by rw [Int.mul_emod, hj.2.2, Int.mul_one, Int.emod_emod_of_dvd _ (Int.dvd_refl p)]
    have e2 : j * (n * i) % p = j % p := by rw [Int.mul_emod, hi.2.2, Int.mul_one, Int.emod_emod_of_dvd _ (Int.dvd_refl p)]
    rw [← e1, ← e2, Int.mul_left_comm i n j, Int.mul_left_comm j n i, Int.mul_comm i j]
  rwa [Int.emod_eq_of_lt (by omega) hi.2.1, Int.emod_eq_of_lt (by omega) hj.2.1] at e
theorem invF_eq {p n i : Int} (h : 1 ≤ i ∧ i < p ∧ n * i % p = 1) : invF p n = i := by
  have hx : ∃ i, 1 ≤ i ∧ i < p ∧ n * i % p = 1 := ⟨i, h⟩
  unfold invF
  rw [dif_pos hx]
  exact inv_uniq hx.choose_spec h
theorem invF_ok {p : Int} (h : isP p = true) : RX.Inv p (invF p) := by
  have b := isP_pos h
  refine ⟨b.1, fun x x0 x1 => ?_⟩
  obtain ⟨j, hj, e⟩ := inv_ex h (n := x) (by rw [Int.emod_eq_of_lt (by omega) x1]; omega)
  rw [invF_eq (p := p) (n := x) (i := 1 + (j : Int)) ⟨by omega, by omega, e⟩, Int.mul_comm]
  exact e
end
end KV

set_option Elab.async false
set_option linter.all false
set_option maxRecDepth 100000
set_option maxHeartbeats 4000000
/-! # rows.py: joined -/
namespace KV
open PySem PySem.Spec PyProof.Rows L2 VX RX
section
variable {P : Program} {w : World} {K : PySem.W.Frag} {mg : Str → Option Value} {base : Heap} {f : Addr} {fd : FuncData}
theorem _root_.RX.Rref.card {p : Int} {n : Nat} {b : List (List Int)} (h : Rref p n b) : b.length ≤ n := by
  have h1 : (b.map lead).Nodup := List.pairwise_map.mpr (h.inc.imp fun h => Nat.ne_of_lt h)
  have := nodup_le (b.map lead) (List.range n) h1 fun x hx => by
    obtain ⟨r, hr, rfl⟩ := List.mem_map.mp hx
    exact List.mem_range.mpr (h.lt r hr)
  simpa using this
theorem AreRows.upd {H : Hp} {D : Addr} {xs : List V} {o : HO} (hD : H D = some (.lst xs)) : ∀ {as : List Addr} {rs : List (List Int)}, AreRows H as rs → AreRows (L2.upd H D o) as rs
  | _, _, .nil => .nil
  | _, _, .cons h t => .cons (by
      have ne := ne_of h hD (by intro z; cases z)
      show L2.upd H D o _ = _
      rw [upd_ne ne]
      exact h) (t.upd hD)
theorem filter_more {α : Type} {q : α → Bool} {b : List α} {i : Nat} {o : α} (h : b[i]? = some o) : (b.take (i + 1)).filter q = (b.take i).filter q ++ if q o = true then [o] else [] := by
  rw [List.take_succ, h, Option.toList_some, List.filter_append]
  by_cases e : q o = true
  · rw [if_pos e, List.filter_cons_of_pos e, List.filter_nil]
  · rw [if_neg e, List.filter_cons_of_neg e, List.filter_nil]
end
end KV

set_option Elab.async false
set_option linter.all false
set_option maxRecDepth 100000
set_option maxHeartbeats 4000000
/-! # range(n) as a value, and walked later -/
namespace VX
open PySem PySem.Spec PyProof.Rows L2
theorem cr_range1 {X : Cx} : CallR X (.type "range") (fun vs H Q => ∃ j, vs = [V.int j] ∧ ∀ p, H p = none → Q (.ref p) (upd H p (.rng 0 j))) := by
  intro pins s σ H vs us Q I r h
  obtain ⟨j, rfl, q⟩ := h
  cases r with
  | cons ru rr =>
    cases rr
    obtain ⟨t, rfl⟩ := ru
    refine call_range_1 ⟨.ref s.heap.objs.size, upd H s.heap.objs.size (.rng 0 j), I.laid (t' := _) (fun b o e => Heap.get?_push_of_some _ e) (Nat.le_refl _) ?_, rfl, q _ (I.hok.fresh (Nat.le_refl _))⟩
    exact ⟨_, _, _, Heap.get?_push_size _ rfl⟩
def iRngV (tl : TE) : TI := fun σ H R => tl σ H fun x H1 => ∃ a lo hi, x = .ref a ∧ H1 a = some (.rng lo hi) ∧ -(2 ^ 62) ≤ lo ∧ lo < 2 ^ 62 ∧ -(2 ^ 62) ≤ hi ∧ hi < 2 ^ 62 ∧ R (Itr lo (hi - lo).toNat) H1
theorem pi_rng {X : Cx} {tg l : Expr} {tl : TE} (hl : PE X l tl) : PI X tg l (iRngV tl) := by
  refine ⟨fun pins s σ H R I h => ?_⟩
  refine thn (hl.run pins s σ H _ I h) fun v s1 ⟨x, H1, I1, r1, q1⟩ => ?_
  obtain ⟨a, lo, hi, rfl, ha, h1, h2, h3, h4, q⟩ := q1
  cases r1
  obtain ⟨t, u, z, ho⟩ := I1.hok a _ ha
  refine wpAny_pyIter_range (show IsRange s1.heap a lo hi 1 t u z from ho) (small_one h1 h2 h3 h4) ?_
  refine ⟨s1.heap.objs.size, [s1.heap.objs.size], _, _, H1, rfl, I1.kept (t' := s1.toks) fun b o e => Heap.get?_push_of_some _ e, turn_range _ lo (hi - lo).toNat, ?_, fun b hb => ?_, q⟩
  · have k1 : lo + ((0 : Nat) : Int) * 1 = lo := by simp
    have k2 : (((hi - lo).toNat : Nat) : Int) - ((0 : Nat) : Int) = Builtin.Range.rangeSize lo hi 1 := by rw [rangeSize_one]; split <;> omega
    show IsRangeIter _ _ (lo + ((0 : Nat) : Int) * 1) ((((hi - lo).toNat : Nat) : Int) - ((0 : Nat) : Int)) 1
    rw [k1, k2]
    exact Heap.get?_push_size _ rfl
  · obtain rfl : b = s1.heap.objs.size := by simpa using hb
    exact I1.fpOk (Nat.le_refl _) (I1.hok.fresh (Nat.le_refl _))
end VX

set_option Elab.async false
set_option linter.all false
set_option maxRecDepth 100000
set_option maxHeartbeats 4000000
/-! # for x, y in zip(a tuple, a list) -/
namespace VX
open PySem PySem.Spec PyProof.Rows L2
/-- the tuple at a and the list at b as they stand at each turn, the items in new pairs -/
def ItzTL (K : PySem.W.Frag) (a b : Addr) : It :=
  ⟨fun i H => ∃ (xs ys : List V) (x y : V), SqT K H a xs ∧ SqL K H b ys ∧ xs[i]? = some x ∧ ys[i]? = some y,
    fun i H v H' => ∃ T x y, v = .ref T ∧ H T = none ∧ H' = upd H T (.tup [x, y]) ∧ (∀ xs, SqT K H a xs → xs[i]? = some x) ∧ ∀ ys, SqL K H b ys → ys[i]? = some y,
    fun i H => ∃ xs ys : List V, SqT K H a xs ∧ SqL K H b ys ∧ xs.length = i ∧ ys.length = i⟩
structure ZTL (h : Heap) (z TI TO j k a b : Addr) (i : Nat) : Prop where
  zp : IsZip h z TI TO .none
  ti : IsTupOf2 h TI (.ref j) (.ref k)
  to : ∃ x y, IsTupOf2 h TO x y
  h1 : h.IsTupleIter j a i
  h2 : h.IsListIter k b i
theorem turn_zipTL {P : Program} {w : World} {K : PySem.W.Frag} {elts : List Expr} {kk : Nat} {tpos : Pos} {a b z TI TO j k : Addr} (S : ZipSep2 z TI TO j k [j, a] [k, b]) (na : a ≠ j) (nb : b ≠ k) :
    Turn P w K (.Tuple elts kk tpos) (ItzTL K a b) [z, TI, TO, j, k] z (fun i h => ZTL h z TI TO j k a b i) where
  mem := by simp
  obj := fun i h st c hc => by
    obtain ⟨hz, hTI, ⟨x, y, hTO⟩, ⟨o1, e1, _, d1⟩, ⟨o2, e2, _, d2⟩⟩ := st
    rcases (by simpa using hc : c = z ∨ c = TI ∨ c = TO ∨ c = j ∨ c = k) with rfl | rfl | rfl | rfl | rfl
    · exact ⟨_, hz, fun v q => nomatch q⟩
    · exact ⟨_, hTI, fun v q => nomatch q⟩
    · exact ⟨_, hTO, fun v q => nomatch q⟩
    · exact ⟨o1, e1, fun v q => by rw [d1] at q; cases q⟩
    · exact ⟨o2, e2, fun v q => by rw [d2] at q; cases q⟩
  keep := fun i h h' st q => by
    obtain ⟨hz, hTI, ⟨x, y, hTO⟩, h1, h2⟩ := st
    exact ⟨q z (by simp) _ hz, q TI (by simp) _ hTI, ⟨x, y, q TO (by simp) _ hTO⟩, h1.at fun o e => q j (by simp) o e, h2.at fun o e => q k (by simp) o e⟩
  item := by
    intro X hP hw hK hc i pins s σ H E I hf st hg
    subst hP hw hK
    obtain ⟨hz, hTI, ⟨x0, y0, hTO⟩, h1, h2⟩ := st
    obtain ⟨xs, ys, x, y, hqx, hqy, hx, hy⟩ := hg
    obtain ⟨its, rv, p1, _⟩ := I.tuple hqx
    obtain ⟨its2, rv2, p2, _⟩ := I.list hqy
    obtain ⟨u, hu, ru⟩ := rv.get hx
    obtain ⟨u2, hu2, ru2⟩ := rv2.get hy
    have zl : z < s.heap.objs.size := Heap.lt_size hz
    have l1 : i < its.toArray.size := by simpa using (List.getElem?_eq_some_iff.mp hu).1
    have l2 : i < its2.toArray.size := by simpa using (List.getElem?_eq_some_iff.mp hu2).1
    refine wpAny_pyNext_zipD2_item S (Draws.tuple (prog := X.prog) (w := X.w) (A := X.A.in1) (I.ok.hd hc) j a na its.toArray) (Draws.list (prog := X.prog) (w := X.w) (A := X.A.in1) (I.ok.hd hc) k b nb its2.toArray) hz hTI hTO ⟨h1, p1⟩ ⟨h2, p2.isList⟩ l1 l2 fun v1 v2 h' tk q1 q2 z' TO' st1 st2 hT _ hk => ?_
    have e1 : v1 = u := by
      have k1 : its.toArray[i]? = some v1 := q1
      have k2 : its.toArray[i]? = some u := by simpa using hu
      rw [k1] at k2
      exact Option.some.inj k2
    have e2 : v2 = u2 := by
      have k1 : its2.toArray[i]? = some v2 := q2
      have k2 : its2.toArray[i]? = some u2 := by simpa using hu2
      rw [k1] at k2
      exact Option.some.inj k2
    subst e1 e2
    refine ⟨_, rfl, wpAny_letOwnedTupleGo_zip (s := { s with heap := h', toks := tk }) z' fun h3 z3 sb => ?_⟩
    have hT2 : h3.get? s.heap.objs.size = some { cls := .type "tuple", data := .seq #[v1, v2] } := (sb.2 _ (Nat.ne_of_gt zl)).trans hT
    have new : ObjOk X.prog X.w (upd H s.heap.objs.size (.tup [x, y])) h3 s.heap.objs.size (.tup [x, y]) :=
      ⟨by show 2 ≤ sizeLine; decide, [v1, v2], .cons ru (.cons ru2 .nil), ⟨_, hT2, rfl, _, rfl⟩⟩
    have I1 : Inv X pins σ (upd H s.heap.objs.size (.tup [x, y])) { s with heap := h3, toks := tk } :=
      I.turnedNew (t' := tk) (ch := [z, TI, TO, j, k]) (fun c o hb q => (sb.2 c fun r => hb (by simp [r])).trans (hk c o (fun r => hb (by simp [r])) (fun r => hb (by simp [r])) (fun r => hb (by simp [r])) (fun r => hb (by simp [r])) q)) hf (Nat.le_refl _) new
    refine ⟨.ref s.heap.objs.size, _, I1, rfl, ⟨_, x, y, rfl, I.hok.fresh (Nat.le_refl _), rfl, fun l hl => by rw [I.tuple_inj hl hqx]; exact hx, fun l hl => by rw [I.list_inj hl hqy]; exact hy⟩, ⟨z3, ?_, ⟨v1, v2, ?_⟩, ?_, ?_⟩, fun c hcm => ?_⟩
    · exact (sb.2 _ S.TIz).trans (hk _ _ S.TIz S.TITO S.TIi1 S.TIi2 hTI)
    · exact (sb.2 _ S.TOz).trans TO'
    · exact st1.1.at fun o q => (sb.2 _ (Ne.symm S.zi1)).trans q
    · exact st2.1.at fun o q => (sb.2 _ (Ne.symm S.zi2)).trans q
    · have lt : c < s.heap.objs.size := by
        rcases (by simpa using hcm : c = z ∨ c = TI ∨ c = TO ∨ c = j ∨ c = k) with rfl | rfl | rfl | rfl | rfl
        · exact zl
        · exact Heap.lt_size hTI
        · exact Heap.lt_size hTO
        · obtain ⟨_, r, _⟩ := h1; exact Heap.lt_size r
        · obtain ⟨_, r, _⟩ := h2; exact Heap.lt_size r
      rw [upd_ne (Nat.ne_of_lt lt)]
      exact (hf c hcm).1
  done := by
    intro X hP hw hK hc i pins s σ H E I hf st hg
    subst hP hw hK
    obtain ⟨hz, hTI, ⟨x0, y0, hTO⟩, h1, h2⟩ := st
    obtain ⟨xs, ys, hqx, hqy, e1, e2⟩ := hg
    obtain ⟨its, rv, p1, _⟩ := I.tuple hqx
    obtain ⟨its2, rv2, p2, _⟩ := I.list hqy
    have l1 := rv.length
    have l2 := rv2.length
    have z1 : i = its.toArray.size := by simp; omega
    have z2 : i = its2.toArray.size := by simp; omega
    exact wpAny_pyNext_zipD2_end S (Draws.tuple (prog := X.prog) (w := X.w) (A := X.A.in1) (I.ok.hd hc) j a na its.toArray) (Draws.list (prog := X.prog) (w := X.w) (A := X.A.in1) (I.ok.hd hc) k b nb its2.toArray) hz hTI hTO ⟨h1, p1⟩ ⟨h2, p2.isList⟩ (by omega) (by omega) (.inl z1) fun h' tk hk => ⟨rfl, I.turnedL (t' := tk) (ch := [z, TI, TO, j, k]) (fun c o hb q =>
      hk c o (fun r => hb (by simp [r])) (fun r => hb (by simp [r])) (fun r => hb (by simp [r])) (fun r => hb (by simp [r])) q) hf⟩
  self := fun A i s Q E st h => wpAny_pyIter_zip st.zp h
theorem out2 {m x y : Nat} (h1 : m ≠ x) (h2 : m ≠ y) : m ∉ [x, y] := by simp [h1, h2]
theorem zip_sep {m a b : Nat} (ha : a < m) (hb : b < m) : ZipSep2 (m + 4) (m + 2) (m + 3) m (m + 1) [m, a] [m + 1, b] where
  TIz := by show m + 2 ≠ m + 4; omega
  TOz := by show m + 3 ≠ m + 4; omega
  TITO := by show m + 2 ≠ m + 3; omega
  TIi1 := by show m + 2 ≠ m; omega
  mem1 := List.mem_cons_self ..
  zf1 := out2 (by omega) (by omega)
  Tf1 := out2 (by omega) (by omega)
  TIi2 := by show m + 2 ≠ m + 1; omega
  mem2 := List.mem_cons_self ..
  zf2 := out2 (by omega) (by omega)
  Tf2 := out2 (by omega) (by omega)
  sep1_2 := out2 (by omega) (by omega)
  sep2_1 := out2 (by omega) (by omega)
def iZipTL (K : PySem.W.Frag) (ta : TA) : TI := fun σ H R => ta σ H fun vs H1 => ∃ a b xs ys, vs = [.ref a, .ref b] ∧ SqT K H1 a xs ∧ SqL K H1 b ys ∧ R (ItzTL K a b) H1
theorem pi_zipTL {X : Cx} {e e2 : Expr} {ta : TA} {p pos tpos : Pos} {elts : List Expr} {kk : Nat} (hg : Gl X "zip") (hm : X.mg "zip" = none) (ha : PA X [e, e2] ta)
    (s1 : starEach [e, e2] X.env = (false, eval e X.env) :: starEach [e2] X.env := by rfl) (s2 : (backTo pos (starEach [e2] X.env)).any (·.1) = false := by rfl) :
    PI X (.Tuple elts kk tpos) (.Call (.Name "zip" p) [e, e2] [] pos) (iZipTL X.K ta) := by
  refine ⟨fun pins s σ H R I h => ?_⟩
  refine Call_ (ld_blt I hg hm PyProof.Rows.boot_zip (PyProof.Rows.callWith_type1 (thn (ha.run pos pins s σ H _ I h) fun us t ⟨vs, H1, I1, r1, q1⟩ => ?_) s1 s2))
  obtain ⟨a, b, xs, ys, ex, hqx, hqy, q⟩ := q1
  subst ex
  cases r1 with
  | cons r rr =>
    cases rr with
    | cons r' rr =>
      cases rr
      cases r
      cases r'
      obtain ⟨its, rv, p1, _⟩ := I1.tuple hqx
      obtain ⟨its2, rv2, p2, _⟩ := I1.list hqy
      have la : a < t.heap.objs.size := by obtain ⟨_, ho, _⟩ := id p1; exact Heap.lt_size ho
      have lb : b < t.heap.objs.size := p2.lt
      refine zip_begins2 (begins_tuple a its.toArray) (begins_list b its2.toArray) p1 p2.isList fun h' hz hTI hTO g1 g2 _ hk => wpAny_pyIter_zip hz ?_
      have I2 : Inv X pins σ H1 { t with heap := h' } := I1.kept (t' := t.toks) hk
      have S := zip_sep la lb
      refine ⟨t.heap.objs.size + 4, [t.heap.objs.size + 4, t.heap.objs.size + 2, t.heap.objs.size + 3, t.heap.objs.size, t.heap.objs.size + 1], _, _, H1, rfl, I2, turn_zipTL S (Nat.ne_of_lt la) (Nat.ne_of_lt (Nat.lt_succ_of_lt lb)), ⟨hz, hTI, ⟨_, _, hTO⟩, ⟨_, g1, rfl, rfl⟩, ⟨_, g2, rfl, rfl⟩⟩, fun c hcm => ?_, q⟩
      have le : t.heap.objs.size ≤ c := by
        rcases (by simpa using hcm : c = t.heap.objs.size + 4 ∨ c = t.heap.objs.size + 2 ∨ c = t.heap.objs.size + 3 ∨ c = t.heap.objs.size ∨ c = t.heap.objs.size + 1) with z | z | z | z | z
        · rw [z]; exact Nat.le_add_right _ _
        · rw [z]; exact Nat.le_add_right _ _
        · rw [z]; exact Nat.le_add_right _ _
        · rw [z]; exact Nat.le_refl _
        · rw [z]; exact Nat.le_add_right _ _
      exact I1.fpOk le (I1.hok.fresh le)
theorem walk_zipTL {K : PySem.W.Frag} {a b : Addr} {xs ys : List V} {n : Nat} (h1 : xs.length = n) (h2 : ys.length = n) : Walk (ItzTL K a b) n (fun H => SqT K H a xs ∧ SqL K H b ys) (YPair (fun i => xs[i]?) (fun i => ys[i]?)) := by
  refine ⟨fun i _ hi q => ⟨xs, ys, xs[i], ys[i], q.1, q.2, by simp [h1, hi], by simp [h2, hi]⟩, fun _ q => ⟨xs, ys, q.1, q.2, h1, h2⟩, fun i H v H' _ q y => ?_⟩
  obtain ⟨T, x, z, k1, k2, k3, k4, k5⟩ := y
  exact ⟨T, x, z, k1, k2, k3, k4 xs q.1, k5 ys q.2⟩
end VX

set_option Elab.async false
set_option linter.all false
set_option maxRecDepth 100000
set_option maxHeartbeats 4000000
/-! # rows.py: sent -/
namespace KV
open PySem PySem.Spec PyProof.Rows L2 VX RX
section
variable {P : Program} {w : World} {K : PySem.W.Frag} {mg : Str → Option Value} {base : Heap} {f : Addr} {fd : FuncData}
/-- ints in a list or a tuple -/
def IsInts (H : Hp) (a : Addr) (xs : List Int) : Prop := H a = some (.lst (xs.map V.int)) ∨ H a = some (.tup (xs.map V.int))
inductive AreInts (H : Hp) : List Addr → List (List Int) → Prop
  | nil : AreInts H [] []
  | cons {a : Addr} {r : List Int} {as : List Addr} {rs : List (List Int)} : IsInts H a r → AreInts H as rs → AreInts H (a :: as) (r :: rs)
theorem IsInts.same {H H' : Hp} (s : Same H H') {a : Addr} {r : List Int} (h : IsInts H a r) : IsInts H' a r := h.elim (fun h => .inl (s _ _ h)) fun h => .inr (s _ _ h)
theorem AreInts.length {H : Hp} : ∀ {as : List Addr} {rs : List (List Int)}, AreInts H as rs → as.length = rs.length
  | _, _, .nil => rfl
  | _, _, .cons _ t => congrArg (· + 1) t.length
theorem AreInts.get {H : Hp} : ∀ {as : List Addr} {rs : List (List Int)} {i : Nat} {a : Addr}, AreInts H as rs → as[i]? = some a → ∃ r, rs[i]? = some r ∧ IsInts H a r
  | _, _, 0, _, .cons h _, e => ⟨_, rfl, Option.some.inj e ▸ h⟩
  | _, _, i + 1, _, .cons _ t, e => t.get (i := i) e
theorem ix_ints {H : Hp} {l : Addr} {xs : List Int} {i : Nat} {z : Int} {Q : VK} (h : IsInts H l xs) (hz : z = (i : Nat)) (hi : i < xs.length) (k : Q (.int (at0 xs i)) H) : rIx K (.ref l) (.int z) H Q := by
  subst hz
  rcases h with h | h
  · exact .inl ⟨l, _, _, _, rfl, rfl, SqL.of h, atI_row hi, k⟩
  · exact .inr (.inl ⟨l, _, _, _, rfl, rfl, SqT.of h, atI_row hi, k⟩)
end
end KV

set_option Elab.async false
set_option linter.all false
set_option maxRecDepth 100000
set_option maxHeartbeats 4000000
/-! # spaces.py: image -/
namespace KV
open PySem PySem.Spec PyProof.Rows L2 VX RX
section
variable {P : Program} {w : World} {K : PySem.W.Frag} {mg : Str → Option Value} {base : Heap} {f : Addr} {fd : FuncData}
theorem AreInts.same {H H' : Hp} (s : Same H H') : ∀ {as : List Addr} {rs : List (List Int)}, AreInts H as rs → AreInts H' as rs
  | _, _, .nil => .nil
  | _, _, .cons h t => .cons (h.same s) (AreInts.same s t)
theorem AreRows.ints {H : Hp} : ∀ {as : List Addr} {rs : List (List Int)}, AreRows H as rs → AreInts H as rs
  | _, _, .nil => .nil
  | _, _, .cons h t => .cons (.inr h) t.ints
theorem map_modR {p : Int} {n : Nat} {rs : List (List Int)} (h : 0 < p) (hr : ∀ r ∈ rs, Row p n r) : rs.map (modR p) = rs := by
  refine (List.map_congr_left fun r h2 => ?_).trans (List.map_id rs)
  refine (List.map_congr_left fun x hx => ?_).trans (List.map_id r)
  have := (hr r h2).2 x hx
  exact Int.emod_eq_of_lt this.1 this.2
end
end KV

set_option Elab.async false
set_option linter.all false
set_option maxRecDepth 100000
set_option maxHeartbeats 4000000
/-! ## the law's draws -/
namespace KV
open PySem PySem.Spec PyProof.Rows L2 VX
section
variable {P : Program} {w : World} {K : PySem.W.Frag} {mg : Str → Option Value} {base : Heap} {f : Addr} {fd : FuncData}
theorem sc_cell : FnScope ["_law_script", "_law_k"] ["_law_script", "_law_k"] (defScope (top iLCell)) := ⟨rfl, rfl, rfl, by decide +kernel, rfl, by decide +kernel, by decide +kernel⟩
theorem ok_cell (F : FnP K "_law_cell" iLCell f fd) (T : TX K mg) : FnOk P w K mg base CX0 1 f fd ["_law_script", "_law_k"] (spCell K) := by
  refine F.ok sc_cell (fun vs H Q E h => ?_) (fun cdv A outer s H vs Q E hr h => ⟨tCellE K, PSs.nox ?_, cellE_run h⟩)
  · obtain ⟨l, ns, j, rfl, _⟩ := h
    rfl
  · exact pss_one (ps_ret (pe_ifExp (pt_cmp (pc_lt (pv 1) (pe_callB call_len (by rfl) (T.fr "len") boot_len (pa_cons (pv 0) pa_nil)))) (pe_ix ix_seq (pv 0) (pv 1) fun _ _ => rfl) pe_int))
/-! ### _law_box -/
def spBox (K : PySem.W.Frag) : Sp := fun vs H Q _ => ∃ (l : Addr) (ns : List Int) (j : Nat), vs = [.ref l, .int j] ∧ SqL K H l (ns.map V.int) ∧ ∀ p, H p = none → Q (.ref p) (upd H p (.lst [.int (cellOf ns j).natAbs, .int 0, .int (40503 * (j : Int) + 911)]))
theorem sc_box : FnScope ["_law_script", "_law_k"] ["_law_script", "_law_k"] (defScope (top iLBox)) := ⟨rfl, rfl, rfl, by decide +kernel, rfl, by decide +kernel, by decide +kernel⟩
theorem ok_box {fd1 : FuncData} (F : FnP K "_law_box" iLBox f fd) (T : TX K mg) (F1 : FnP K "_law_cell" iLCell (He.ga K "_law_cell") fd1) : FnOk P w K mg base CX0 2 f fd ["_law_script", "_law_k"] (spBox K) := by
  have G1 : FnOk P w K mg base CX0 1 _ fd1 ["_law_script", "_law_k"] (spCell K) := ok_cell F1 T
  have B1 : Binds K fd1 ["_law_script", "_law_k"] [] := F1.bindsN fun _ _ _ _ _ _ us hl => match us, hl with | [_, _], _ => rfl
  refine F.ok sc_box (fun vs H Q E h => ?_) (fun cdv A outer s H vs Q E hr h => ?_)
  · obtain ⟨l, ns, j, rfl, _⟩ := h
    rfl
  · obtain ⟨l, ns, j, rfl, hs, k⟩ := h
    refine ⟨_, PSs.nox (pss_one (ps_ret (pe_lst (pa_cons (pe_callB call_abs (by rfl) (T.fr "abs") (by decide +kernel) (pa_cons (pe_callTy call_int1 (by rfl) (T.fr "int") boot_int
      (pa_cons (pe_call G1 hr (by rfl) (T.df "_law_cell" iLCell) F1.kp B1 .nil pass0 (pa_cons (pv 0) (pa_cons (pv 1) pa_nil))) pa_nil)) pa_nil)) (pa_cons pe_int (pa_cons (pe_op op_add (pe_op op_mul pe_int (pv 1)) pe_int) pa_nil)))))), ?_⟩
    refine ⟨_, rfl, _, rfl, l, ns, j, rfl, hs, .inl ⟨_, rfl, _, rfl, _, rfl, _, _, rfl, rfl, .inl ⟨by decide, by decide⟩, _, _, rfl, rfl, (by show 3 ≤ sizeLine; decide), fun p hp => ?_⟩⟩
    have e : (if cellOf ns j < 0 then -cellOf ns j else cellOf ns j) = ((cellOf ns j).natAbs : Int) := by
      by_cases h : cellOf ns j < 0
      · rw [if_pos h]; omega
      · rw [if_neg h]; omega
    rw [e]
    exact k p hp
/-! ### _law_take -/
theorem pw_ok {i : Int} (h0 : 0 ≤ i) (h1 : i < 2 ^ 90) : CPw i 3 := by
  refine ⟨by decide, ?_⟩
  have h : Builtin.Int.intBits i ≤ 90 := intBits_le (by omega)
  have h2 : (Builtin.Int.intBits i : Int) ≤ 90 := by exact_mod_cast h
  omega
def spTake : Sp := fun vs H Q _ => ∃ (b : Addr) (m x y z : Int), vs = [.ref b, .int m] ∧ H b = some (.lst [.int x, .int y, .int z]) ∧ 0 ≤ x ∧ 0 ≤ y ∧ y ≤ 1000000 ∧ 0 ≤ z ∧ z ≤ 100000000 ∧ 0 < m ∧ m ≤ 1000000000 ∧
  ∀ d x' y', 0 ≤ d → d < m → 0 ≤ x' → x' ≤ x → y ≤ y' → y' ≤ y + 1 → Q (.int d) (upd H b (.lst [.int x', .int y', .int z]))
theorem sc_take : FnScope ["_law_box_here", "_law_many", "_law_digit", "_law_mixed"] ["_law_box_here", "_law_many"] (defScope (top iLTake)) := ⟨rfl, rfl, rfl, by decide +kernel, rfl, by decide +kernel, by decide +kernel⟩
theorem ok_take (F : FnP K "_law_take" iLTake f fd) (T : TX K mg) : FnOk P w K mg base CX0 1 f fd ["_law_box_here", "_law_many"] spTake := by
  refine F.ok sc_take (fun vs H Q E h => ?_) (fun cdv A outer s H vs Q E hr h => ?_)
  · obtain ⟨b, m, x, y, z, rfl, _⟩ := h
    rfl
  · obtain ⟨b, m, x, y, z, rfl, hb, x0, y0, y1, z0, z1, m0, m1, k⟩ := h
    have i0 := T.fr "int"
    refine ⟨_, PSs.nox (pss_cons (ps_if (pt_cmpR op_ge (pe_ix ix_list (pv 0) pe_int (fun _ _ => rfl)) (pe_op op_pow pe_int pe_int) (nomark _))
        (pss_cons (ps_set (i := 2) sc_take.nd rfl (Or.inl rfl) (pe_op op_mod (pe_callTy call_int1 (by rfl) i0 boot_int (pa_cons (pe_ix ix_list (pv 0) pe_int (fun _ _ => rfl)) pa_nil)) (pv 1)))
        (pss_cons (ps_asg (pe_op op_fdiv (pe_ix ix_list (pv 0) pe_int (fun _ _ => rfl)) (pv 1)) (pg_sub (pv 0) pe_int set_list))
        (pss_one (ps_ret (pv 2))))) pss_nil)
      (pss_cons (ps_asg (pe_op op_add (pe_ix ix_list (pv 0) pe_int (fun _ _ => rfl)) pe_int) (pg_sub (pv 0) pe_int set_list))
      (pss_cons (ps_set (i := 3) sc_take.nd rfl (Or.inl rfl) (pe_op op_mod (pe_op op_pw (pe_callTy call_int1 (by rfl) i0 boot_int (pa_cons (pe_op op_add (pe_op op_add (pe_op op_mul (pe_op op_add (pe_ix ix_list (pv 0) pe_int (fun _ _ => rfl)) pe_int) pe_int)
          (pe_op op_mul (pe_ix ix_list (pv 0) pe_int (fun _ _ => rfl)) pe_int)) (pe_ix ix_list (pv 0) pe_int (fun _ _ => rfl))) pa_nil)) pe_int) pe_int))
      (pss_cons (ps_set (i := 3) sc_take.nd rfl (Or.inl rfl) (pe_op op_mod (pe_op op_pw (pe_callTy call_int1 (by rfl) i0 boot_int (pa_cons (pe_op op_add (pv 3) (pe_op op_mul (pe_ix ix_list (pv 0) pe_int (fun _ _ => rfl)) pe_int)) pa_nil)) pe_int) pe_int))
      (pss_one (ps_ret (pe_op op_mod (pe_callTy call_int1 (by rfl) i0 boot_int (pa_cons (pe_op op_fdiv (pv 3) pe_int) pa_nil)) (pv 1)))))))), ?_⟩
    refine ⟨_, rfl, b, _, _, _, rfl, rfl, SqL.of hb, rfl, _, _, rfl, rfl, ⟨by decide, by decide, by decide⟩, _, _, rfl, rfl, _, rfl, ?_⟩
    refine ite2 (fun c => ?_) (fun c => ?_)
    · refine ⟨_, rfl, b, _, _, _, rfl, rfl, SqL.of hb, rfl, .inl ⟨_, rfl, _, rfl, _, _, rfl, rfl, m0, ?_⟩⟩
      refine ⟨_, rfl, b, _, _, _, rfl, rfl, SqL.of hb, rfl, _, rfl, _, _, rfl, rfl, ⟨m0, by omega⟩, ?_⟩
      refine ⟨_, rfl, b, _, _, 0, rfl, rfl, hb, rfl, _, rfl, ?_⟩
      have d0 : 0 ≤ x % m := Int.emod_nonneg x (by omega)
      have d1 : x % m < m := Int.emod_lt_of_pos x m0
      have q0 : 0 ≤ x / m := Int.ediv_nonneg x0 (by omega)
      have q1 : x / m ≤ x := Int.ediv_le_self m x0
      exact k (x % m) (x / m) y d0 d1 q0 q1 (by omega) (by omega)
    · have c' : x < 10 ^ 18 := by simpa using c
      refine ⟨_, rfl, b, _, _, _, rfl, rfl, SqL.of hb, rfl, _, _, rfl, rfl, ?_⟩
      refine ⟨_, rfl, b, _, _, 1, rfl, rfl, hb, rfl, ?_⟩
      have h1 : upd H b (.lst (([V.int x, V.int y, V.int z] : List V).set 1 (V.int (y + 1)))) b = some (.lst [.int x, .int (y + 1), .int z]) := upd_same
      refine ⟨_, rfl, b, _, _, _, rfl, rfl, SqL.of h1, rfl, _, _, rfl, rfl, _, _, rfl, rfl, .inr ⟨by decide, by decide⟩, _, rfl, b, _, _, _, rfl, rfl, SqL.of h1, rfl, _, _, rfl, rfl, .inr ⟨by decide, by decide⟩, _, _, rfl, rfl, _, rfl, b, _, _, _, rfl, rfl, SqL.of h1, rfl, _, _, rfl, rfl, .inl ⟨_, rfl, _, _, rfl, rfl, pw_ok (by omega) (by omega), _, _, rfl, rfl, (by show (0 : Int) < 2147483647; decide), ?_⟩⟩
      refine ⟨_, rfl, _, rfl, b, _, _, _, rfl, rfl, SqL.of h1, rfl, _, _, rfl, rfl, .inr ⟨by decide, by decide⟩, _, _, rfl, rfl, .inl ⟨_, rfl, _, _, rfl, rfl, ?_, _, _, rfl, rfl, (by show (0 : Int) < 2147483399; decide), ?_⟩⟩
      · have a0 := Int.emod_nonneg (((x + 7) * 69069 + (y + 1) * 40692 + z) ^ Int.toNat 3) (show (2147483647 : Int) ≠ 0 by decide)
        have a1 := Int.emod_lt_of_pos (((x + 7) * 69069 + (y + 1) * 40692 + z) ^ Int.toNat 3) (show (0 : Int) < 2147483647 by decide)
        exact pw_ok (by omega) (by omega)
      · refine ⟨_, rfl, _, _, rfl, rfl, ⟨by decide, by decide⟩, .inl ⟨_, rfl, _, rfl, _, _, rfl, rfl, m0, ?_⟩⟩
        exact k _ x (y + 1) (Int.emod_nonneg _ (by omega)) (Int.emod_lt_of_pos _ m0) x0 (Int.le_refl x) (by omega) (by omega)
end
end KV

set_option Elab.async false
set_option linter.all false
set_option maxRecDepth 100000
set_option maxHeartbeats 4000000
/-! # the law's draws: frame, vector, rows -/
namespace KV
open PySem PySem.Spec PyProof.Rows L2 VX RX
section
variable {P : Program} {w : World} {K : PySem.W.Frag} {mg : Str → Option Value} {base : Heap} {f : Addr} {fd : FuncData}
/-- the box, of which at most N numbers were mixed -/
def BoxK (H : Hp) (b : Addr) (N : Nat) : Prop := ∃ x y z : Int, H b = some (.lst [.int x, .int y, .int z]) ∧ 0 ≤ x ∧ 0 ≤ y ∧ y ≤ N ∧ 0 ≤ z ∧ z ≤ 100000000
/-- all else stands -/
def Kept (b : Addr) (H H' : Hp) : Prop := ∀ c o, H c = some o → c ≠ b → H' c = some o
theorem Kept.refl {b : Addr} {H : Hp} : Kept b H H := fun _ _ h _ => h
theorem Kept.trans {b : Addr} {H H' H'' : Hp} (k : Kept b H H') (q : Kept b H' H'') : Kept b H H'' := fun c o h n => q c o (k c o h n) n
theorem Kept.of {b : Addr} {H H' : Hp} (s : Same H H') : Kept b H H' := fun c o h _ => s c o h
theorem BoxK.same {H H' : Hp} {b : Addr} {N : Nat} (s : Same H H') (h : BoxK H b N) : BoxK H' b N := by
  obtain ⟨x, y, z, hb, r⟩ := h
  exact ⟨x, y, z, s _ _ hb, r⟩
theorem BoxK.at {H : Hp} {b : Addr} {N : Nat} (h : BoxK H b N) : ∃ xs, H b = some (.lst xs) := let ⟨_, _, _, hb, _⟩ := h; ⟨_, hb⟩
theorem take_use {H : Hp} {b : Addr} {N : Nat} {m : Int} {Q : VK} {E : XK} (h : BoxK H b N) (hN : N ≤ 900000) (m0 : 0 < m) (m1 : m ≤ 1000000000)
    (k : ∀ d H', 0 ≤ d → d < m → Kept b H H' → BoxK H' b (N + 1) → (∀ c, H c = none → H' c = none) → Q (.int d) H') : spTake [.ref b, .int m] H Q E := by
  obtain ⟨x, y, z, hb, x0, y0, yN, z0, z1⟩ := h
  refine ⟨b, m, x, y, z, rfl, hb, x0, y0, by omega, z0, z1, m0, m1, fun d x' y' d0 d1 x0' x1' y1 y2 => k d _ d0 d1 (fun c o q ne => by rw [upd_ne ne]; exact q) ⟨x', y', z, upd_same, x0', by omega, by omega, z0, z1⟩ fun c hc => ?_⟩
  rw [upd_ne (fun e => by rw [e, hb] at hc; cases hc)]
  exact hc
/-! ### _law_frame -/
end
end KV

set_option Elab.async false
set_option linter.all false
set_option maxRecDepth 100000
set_option maxHeartbeats 4000000
/-! # the law's draws: vector -/
namespace KV
open PySem PySem.Spec PyProof.Rows L2 VX RX
section
variable {P : Program} {w : World} {K : PySem.W.Frag} {mg : Str → Option Value} {base : Heap} {f : Addr} {fd : FuncData}
abbrev nV : List Str := ["_law_box_here", "_law_p", "_law_n", "_law_far", "_law_k"]
def spVec : Sp := fun vs H Q _ => ∃ (b : Addr) (N : Nat) (p : Int) (n : Nat), vs = [.ref b, .int p, .int n] ∧ BoxK H b N ∧ N ≤ 800000 ∧ isP p = true ∧ n ≤ 12 ∧
  ∀ H' l (xs : List Int), Kept b H H' → BoxK H' b (N + 1 + 2 * n) → H l = none → H' l = some (.lst (xs.map V.int)) → xs.length = n → (∀ x ∈ xs, x.natAbs < 2 ^ 80) → Q (.ref l) H'
theorem sc_vec : FnScope nV ["_law_box_here", "_law_p", "_law_n"] (defScope (top iLVec)) := ⟨rfl, rfl, rfl, by decide +kernel, rfl, by decide +kernel, by decide +kernel⟩
theorem far_at {a b c : Int} {d : Int} (h0 : 0 ≤ d) (h1 : d < 3) : ∃ q, atI [V.int a, .int b, .int c] d = some (.int q) ∧ (q = a ∨ q = b ∨ q = c) := by
  obtain ⟨k, rfl⟩ : ∃ k : Nat, d = (k : Int) := ⟨d.toNat, by omega⟩
  have hk : k < 3 := by omega
  match k, hk with
  | 0, _ => exact ⟨a, rfl, .inl rfl⟩
  | 1, _ => exact ⟨b, rfl, .inr (.inl rfl)⟩
  | 2, _ => exact ⟨c, rfl, .inr (.inr rfl)⟩
theorem Kept.none {b l : Addr} {H H' : Hp} (k : Kept b H H') (nb : l ≠ b) (h : H' l = none) : H l = none := by
  cases e : H l with
  | none => rfl
  | some o => rw [k _ _ e nb] at h; cases h
theorem BoxK.ne {H : Hp} {b l : Addr} {N : Nat} (h : BoxK H b N) (hl : H l = none) : l ≠ b := fun e => by
  obtain ⟨xs, hx⟩ := h.at
  rw [e, hx] at hl
  cases hl
theorem far_small {q : Int} (h : q = 0 ∨ q = 1 ∨ q = 10 ^ (20 : Int).toNat) : 0 ≤ q ∧ q ≤ 100000000000000000000 := by
  rcases h with rfl | rfl | rfl
  · decide
  · decide
  · decide +kernel
theorem vec_small {p d e q : Int} (h2 : 2 ≤ p) (h13 : p ≤ 13) (d0 : 0 ≤ d) (d1 : d < p) (e0 : 0 ≤ e) (e1 : e < 3) (h : 0 ≤ q ∧ q ≤ 100000000000000000000) : (d + p * (e - 1) * q).natAbs < 2 ^ 80 := by
  have a : 0 ≤ p * q := Int.mul_nonneg (by omega) h.1
  have b : p * q ≤ 13 * 100000000000000000000 := Int.mul_le_mul h13 h.2 h.1 (by omega)
  have c : e = 0 ∨ e = 1 ∨ e = 2 := by omega
  rcases c with rfl | rfl | rfl
  · have z : p * (0 - 1) * q = -(p * q) := by
      show p * (-1) * q = _
      rw [Int.mul_neg, Int.mul_one, Int.neg_mul]
    rw [z]; omega
  · have z : p * (1 - 1) * q = 0 := by simp
    rw [z]; omega
  · have z : p * (2 - 1) * q = p * q := by
      show p * 1 * q = _
      rw [Int.mul_one]
    rw [z]; omega
theorem ok_vec {fdT : FuncData} (F : FnP K "_law_vector" iLVec f fd) (T : TX K mg) (FT : FnP K "_law_take" iLTake (He.ga K "_law_take") fdT) : FnOk P w K mg base CX0 2 f fd ["_law_box_here", "_law_p", "_law_n"] spVec := by
  have GT : FnOk P w K mg base CX0 1 _ fdT ["_law_box_here", "_law_many"] spTake := ok_take FT T
  have BT : Binds K fdT ["_law_box_here", "_law_many"] [] := FT.bindsN fun _ _ _ _ _ _ us hl => match us, hl with | [_, _], _ => rfl
  refine F.ok sc_vec (fun vs H Q E h => ?_) (fun cdv A outer s H vs Q E hr h => ?_)
  · obtain ⟨b, N, p, n, rfl, _⟩ := h
    rfl
  · obtain ⟨b, N, p, n, rfl, hb, hN, hp, hn, k⟩ := h
    have nd := sc_vec.nd
    have hq := isP_pos hp
    refine ⟨_, PSs.nox (pss_cons (ps_set (i := 3) nd rfl (.inr rfl) (pe_ix ix_list (pe_lst (pa_cons pe_int (pa_cons pe_int (pa_cons (pe_op op_pow pe_int pe_int) pa_nil)))) (pe_call GT hr (by rfl) (T.df "_law_take" iLTake) FT.kp BT .nil pass0 (pa_cons (pv 0) (pa_cons pe_int pa_nil))) (fun _ _ => rfl)))
      (pss_one (ps_ret (pe_lc (own := [("_law_k", 4)]) (g := gName 4) (by rfl) nd (pi_range1 (by rfl) (T.fr "range") (pa_cons (pv 2) pa_nil)) (blkOk_by (own := [("_law_k", 4)]) (N := nV) (sc := defScope (top iLVec)) (by decide +kernel)) (fun _ _ _ _ _ => pg_name (i := 4) nd rfl (Or.inl rfl)) (fun _ _ _ _ _ => pts_nil)
        (fun _ _ _ _ _ => pe_op op_add (pe_call GT hr (by rfl) (T.df "_law_take" iLTake) FT.kp BT .nil pass0 (pa_cons (pv 0) (pa_cons (pv 1) pa_nil))) (pe_op op_mul (pe_op op_mul (pv 1) (pe_op op_sub (pe_call GT hr (by rfl) (T.df "_law_take" iLTake) FT.kp BT .nil pass0 (pa_cons (pv 0) (pa_cons pe_int pa_nil))) pe_int)) (pv 3))))))), ?_⟩
    refine ⟨_, _, rfl, rfl, ⟨by decide, by decide, by decide⟩, (by show 3 ≤ sizeLine; decide), fun l0 hl0 => ⟨_, rfl, ?_⟩⟩
    dsimp only [tCons, tC, tNil, List.append_nil]
    refine take_use (m := 3) (hb.same (same_new hl0)) (by omega) (by decide) (by decide) fun d H1 d0 d1 kp1 bx1 _ => ?_
    have ne0 := hb.ne hl0
    have ka : Kept b H H1 := (Kept.of (same_new hl0)).trans kp1
    obtain ⟨far, hfa, hfr⟩ := far_at (a := 0) (b := 1) (c := 10 ^ (20 : Int).toNat) d0 d1
    refine ⟨l0, _, _, _, rfl, rfl, SqL.of (kp1 _ _ upd_same ne0), hfa, ?_⟩
    refine ⟨_, rfl, _, rfl, by omega, by omega, fun D hD => ?_⟩
    have neD := bx1.ne hD
    refine lc_it (walk_range (lo := 0) (n := ((n : Nat) : Int).toNat)) (fun i H' => Kept b H1 H' ∧ BoxK H' b (N + 1 + 2 * i) ∧ ∃ xs : List Int, xs.length = i ∧ H' D = some (.lst (xs.map V.int)) ∧ ∀ x ∈ xs, x.natAbs < 2 ^ 80) ⟨Kept.of (same_new hD), bx1.same (same_new hD), [], rfl, upd_same, (fun x h => nomatch h)⟩ (fun i H' _ z => trivial) ?_ ?_
    · rintro i x Ha Hb hi ⟨kp, bx, xs, hl, hd, hb80⟩ ⟨rfl, rfl⟩
      have hi : i < n := by omega
      refine ⟨rfl, yes_if ?_⟩
      refine ⟨_, rfl, _, rfl, ?_⟩
      dsimp only [tCons, tC, tNil, List.append_nil]
      refine take_use (m := p) bx (by omega) (by omega) (by omega) fun d2 Hc d20 d21 kp2 bx2 _ => ?_
      refine ⟨_, rfl, _, rfl, ?_⟩
      dsimp only [tCons, tC, tNil, List.append_nil]
      refine take_use (m := 3) bx2 (by omega) (by decide) (by decide) fun e2 Hd e20 e21 kp3 bx3 _ => ?_
      have bd : -(2 ^ 64) < p * (e2 - 1) ∧ p * (e2 - 1) < 2 ^ 64 := by
        have h1 : e2 = 0 ∨ e2 = 1 ∨ e2 = 2 := by omega
        rcases h1 with rfl | rfl | rfl <;> omega
      have hd4 : Hd D = some (.lst (xs.map V.int)) := kp3 _ _ (kp2 _ _ hd neD) neD
      refine ⟨_, _, rfl, rfl, _, _, rfl, rfl, .inl ⟨by omega, by omega⟩, _, rfl, _, _, rfl, rfl, .inl bd, _, _, rfl, rfl, xs.map V.int, hd4, lt_line (by rw [List.length_map]; omega), fun c o q nb => ?_, ?_, xs ++ [d2 + p * (e2 - 1) * far], by rw [List.length_append, List.length_singleton]; omega, ?_, fun x hx => ?_⟩
      · rw [upd_ne (ne_of_none q hD)]
        exact kp3 _ _ (kp2 _ _ (kp _ _ q nb) nb) nb
      · obtain ⟨x1, y1, z1, hx, r⟩ := bx3
        exact ⟨x1, y1, z1, by rw [upd_ne (Ne.symm neD)]; exact hx, by omega, by omega, by omega, by omega, by omega⟩
      · rw [upd_same, List.map_append]; rfl
      · rcases List.mem_append.mp hx with hx | hx
        · exact hb80 x hx
        · rw [List.mem_singleton.mp hx]
          exact vec_small hq.1 hq.2 d20 d21 e20 e21 (far_small hfr)
    · rintro Ha ⟨kp, bx, xs, hl, hd, hb80⟩
      have e : ((n : Nat) : Int).toNat = n := by omega
      rw [e] at bx hl
      exact k Ha D xs (ka.trans kp) bx (ka.none neD hD) hd hl hb80
end
end KV

set_option Elab.async false
set_option linter.all false
set_option maxRecDepth 100000
set_option maxHeartbeats 4000000
/-! # the law's draws: rows; plus, power -/
namespace KV
open PySem PySem.Spec PyProof.Rows L2 VX RX
section
variable {P : Program} {w : World} {K : PySem.W.Frag} {mg : Str → Option Value} {base : Heap} {f : Addr} {fd : FuncData}
/-- lists of ints as they stand in memory, none at b -/
inductive AreLsts (H : Hp) (b : Addr) : List Addr → List (List Int) → Prop
  | nil : AreLsts H b [] []
  | cons {a : Addr} {r : List Int} {as : List Addr} {rs : List (List Int)} : H a = some (.lst (r.map V.int)) → a ≠ b → AreLsts H b as rs → AreLsts H b (a :: as) (r :: rs)
theorem AreLsts.kept {H H' : Hp} {b : Addr} (k : Kept b H H') : ∀ {as : List Addr} {rs : List (List Int)}, AreLsts H b as rs → AreLsts H' b as rs
  | _, _, .nil => .nil
  | _, _, .cons h n t => .cons (k _ _ h n) n (t.kept k)
theorem AreLsts.append {H : Hp} {b : Addr} : ∀ {as : List Addr} {rs : List (List Int)} {bs : List Addr} {ss : List (List Int)}, AreLsts H b as rs → AreLsts H b bs ss → AreLsts H b (as ++ bs) (rs ++ ss)
  | _, _, _, _, .nil, h => h
  | _, _, _, _, .cons h n t, g => .cons h n (t.append g)
theorem AreLsts.ints {H : Hp} {b : Addr} : ∀ {as : List Addr} {rs : List (List Int)}, AreLsts H b as rs → AreInts H as rs
  | _, _, .nil => .nil
  | _, _, .cons h _ t => .cons (.inl h) t.ints
theorem AreLsts.length {H : Hp} {b : Addr} : ∀ {as : List Addr} {rs : List (List Int)}, AreLsts H b as rs → as.length = rs.length
  | _, _, .nil => rfl
  | _, _, .cons _ _ t => congrArg (· + 1) t.length
/-- what stands at D is not among them, when a list is put there whose items are refs or nothing stood there before -/
theorem AreLsts.updN {H : Hp} {b D : Addr} {o : HO} : ∀ {as : List Addr} {rs : List (List Int)}, AreLsts H b as rs → (∀ a ∈ as, a ≠ D) → AreLsts (L2.upd H D o) b as rs
  | _, _, .nil, _ => .nil
  | _, _, .cons h n t, m => .cons (by show L2.upd H D o _ = _; rw [upd_ne (m _ (.head _))]; exact h) n (t.updN fun a ha => m a (.tail _ ha))
/-! ### _law_plus, _law_power -/
end
end KV

set_option Elab.async false
set_option linter.all false
set_option maxRecDepth 100000
set_option maxHeartbeats 4000000
/-! # the law's sums: plus -/
namespace KV
open PySem PySem.Spec PyProof.Rows L2 VX RX
section
variable {P : Program} {w : World} {K : PySem.W.Frag} {mg : Str → Option Value} {base : Heap} {f : Addr} {fd : FuncData}
abbrev nU : List Str := ["_law_p", "_law_one", "_law_factor", "_law_other", "_law_k"]
def spPlus : Sp := fun vs H Q _ => ∃ (p : Int) (a : Addr) (r : List Int) (g : Int) (o : Addr) (xs : List Int), vs = [.int p, .ref a, .int g, .ref o] ∧ IsInts H a r ∧ IsInts H o xs ∧ r.length = xs.length ∧ 0 < p ∧ (-(2 ^ 64) < g ∧ g < 2 ^ 64) ∧ r.length ≤ 1000 ∧ ∀ H' c, Same H H' → H c = none → IsRow H' c (addR p r g xs) → Q (.ref c) H'
theorem sc_plus : FnScope nU ["_law_p", "_law_one", "_law_factor", "_law_other"] (defScope (top iLPlus)) := ⟨rfl, rfl, rfl, by decide +kernel, rfl, by decide +kernel, by decide +kernel⟩
theorem ok_plus (F : FnP K "_law_plus" iLPlus f fd) (T : TX K mg) : FnOk P w K mg base CX0 1 f fd ["_law_p", "_law_one", "_law_factor", "_law_other"] spPlus := by
  refine F.ok sc_plus (fun vs H Q E h => ?_) (fun cdv A outer s H vs Q E hr h => ?_)
  · obtain ⟨p, a, r, g, o, xs, rfl, _⟩ := h
    rfl
  · obtain ⟨p, a, r, g, o, xs, rfl, ha, hx, hlen, hp, hg, hl, k⟩ := h
    have nd := sc_plus.nd
    refine ⟨_, PSs.nox (pss_one (ps_ret (pe_callTy call_tuple_of (by rfl) (T.fr "tuple") (by decide +kernel) (pa_cons (pe_lc (own := [("_law_k", 4)]) (g := gName 4) (by rfl) nd (pi_range1 (by rfl) (T.fr "range") (pa_cons (pe_callB call_len_seq (by rfl) (T.fr "len") boot_len (pa_cons (pv 1) pa_nil)) pa_nil)) (blkOk_by (own := [("_law_k", 4)]) (N := nU) (sc := defScope (top iLPlus)) (by decide +kernel)) (fun _ _ _ _ _ => pg_name (i := 4) nd rfl (Or.inl rfl)) (fun _ _ _ _ _ => pts_nil)
      (fun _ _ _ _ _ => pe_op op_modN (pe_op op_add (pe_ix (r := rIx K) ix_seq (pv 1) (pv 4) (fun _ _ => rfl)) (pe_op op_mul (pv 2) (pe_ix (r := rIx K) ix_seq (pv 3) (pv 4) (fun _ _ => rfl)))) (pv 0))) pa_nil)))), ?_⟩
    have hlo : (addR p r g xs).length = r.length := addR_len rfl hlen.symm
    have hnl : (r.map V.int).length = r.length := by simp
    refine ⟨_, rfl, a, _, rfl, ha.imp SqL.of SqT.of, _, rfl, by omega, by omega, fun D hD => ?_⟩
    refine lc_it (walk_range (lo := 0) (n := (((r.map V.int).length : Nat) : Int).toNat)) (fun i H' => H' = upd H D (.lst (((addR p r g xs).take i).map V.int))) rfl (fun i H' _ z => trivial) ?_ ?_
    · rintro i x Ha Hb hi rfl ⟨rfl, rfl⟩
      have hi : i < r.length := by omega
      have s1 : Same H (upd H D (.lst (((addR p r g xs).take i).map V.int))) := same_new hD
      refine ⟨rfl, yes_if ?_⟩
      refine ⟨_, rfl, _, rfl, ?_⟩
      refine ix_ints (i := i) (ha.same s1) (Int.zero_add _) hi ?_
      refine ⟨_, rfl, _, rfl, _, rfl, ?_⟩
      refine ix_ints (i := i) (hx.same s1) (Int.zero_add _) (by omega) ?_
      refine ⟨_, _, rfl, rfl, .inl hg, _, _, rfl, rfl, _, rfl, _, _, rfl, rfl, by omega, ((addR p r g xs).take i).map V.int, upd_same, lt_line (by rw [List.length_map]; have := List.length_take_le i (addR p r g xs); omega), ?_⟩
      have e : (addR p r g xs)[i]? = some ((at0 r i + g * at0 xs i) % p) := by
        have e1 := at0_addR (p := p) (f := g) hlen i
        rw [at0_of (by omega)] at e1
        rw [List.getElem?_eq_getElem (by omega), e1]
      rw [upd_upd, take_more e]
      show upd H D (.lst (_ ++ [V.int ((at0 r i + g * at0 xs i).fmod p)])) = _
      rw [fmod_pos hp]
    · rintro Ha rfl
      have e : (((r.map V.int).length : Nat) : Int).toNat = (addR p r g xs).length := by omega
      rw [e, List.take_length]
      refine ⟨D, _, rfl, .inl ⟨SqL.of upd_same, fun c hc => k _ c (same_two hD hc) (none_of hc) upd_same⟩⟩
end
end KV

set_option Elab.async false
set_option linter.all false
set_option maxRecDepth 100000
set_option maxHeartbeats 4000000
/-! # the law's dicts of vectors -/
namespace KV
open PySem PySem.Spec PyProof.Rows L2 VX RX
/-- a dict whose keys are vectors -/
def kvsOf (l : List (List Int)) : List (List L2.Key × V) := l.map fun r => (r.map Sum.inl, V.bl true)
theorem inl_inj {r s : List Int} (h : r.map (Sum.inl : Int → L2.Key) = s.map Sum.inl) : r = s := by
  refine List.map_inj_right (fun x y e => ?_) |>.mp h
  injection e
theorem any_kvs (l : List (List Int)) (k : List Int) : ((kvsOf l).any fun kv => decide (kv.1 = k.map Sum.inl)) = decide (k ∈ l) := by
  rw [Bool.eq_iff_iff]
  simp only [kvsOf, List.any_map, List.any_eq_true, Function.comp_apply, decide_eq_true_eq]
  exact ⟨fun ⟨r, hr, e⟩ => inl_inj e ▸ hr, fun h => ⟨k, h, rfl⟩⟩
theorem putK_kvs (l : List (List Int)) (k : List Int) : putK (kvsOf l) (k.map Sum.inl) (V.bl true) = kvsOf (ins l k) := by
  unfold putK ins
  rw [any_kvs]
  by_cases h : k ∈ l
  · rw [if_pos (decide_eq_true h), if_pos h]
    refine (List.map_congr_left fun kv hkv => ?_).trans (List.map_id _)
    obtain ⟨r, _, rfl⟩ := List.mem_map.mp hkv
    by_cases e : (r.map Sum.inl : List L2.Key) = k.map Sum.inl
    · rw [if_pos e]; rfl
    · rw [if_neg e]; rfl
  · rw [if_neg (by simpa using h), if_neg h]
    simp [kvsOf]
theorem kvs_len (l : List (List Int)) : (kvsOf l).length = l.length := by simp [kvsOf]
end KV

set_option Elab.async false
set_option linter.all false
set_option maxRecDepth 100000
set_option maxHeartbeats 4000000
/-! # the law's sums: grown -/
namespace KV
open PySem PySem.Spec PyProof.Rows L2 VX RX
section
variable {P : Program} {w : World} {K : PySem.W.Frag} {mg : Str → Option Value} {base : Heap} {f : Addr} {fd : FuncData}
abbrev nG : List Str := ["_law_p", "_law_found", "_law_vector_here", "_law_more", "_law_old", "_law_factor"]
def spGrown : Sp := fun vs H Q _ => ∃ (p : Int) (d : Addr) (l : List (List Int)) (a : Addr) (v : List Int) (n : Nat), vs = [.int p, .ref d, .ref a] ∧ H d = some (.dT (kvsOf l)) ∧ IsRow H a v ∧ (∀ r ∈ l, Row p n r) ∧ Row p n v ∧ 0 < p ∧ p ≤ 13 ∧ n ≤ 12 ∧ l.length ≤ 1000000 ∧
  ∀ H' e, Same H H' → H e = none → H' e = some (.dT (kvsOf (grown p l v))) → Q (.ref e) H'
theorem rows_keys {H : Hp} : ∀ {l : List (List Int)} {bs : List Addr}, IsKeys H (kvsOf l) bs → AreRows H bs l
  | [], _, .nil => .nil
  | r :: l, _, .cons h t => .cons (by
      show H _ = some (.tup (r.map V.int))
      have e : (r.map (Sum.inl : Int → L2.Key)).map kV = r.map V.int := by rw [List.map_map]; rfl
      rw [← e]
      exact h) (rows_keys t)
theorem insAll_len : ∀ (ks l : List (List Int)), (ks.foldl ins l).length ≤ l.length + ks.length
  | [], l => by simp
  | k :: ks, l => by
    have h := insAll_len ks (ins l k)
    have h2 : (ins l k).length ≤ l.length + 1 := by
      unfold ins
      by_cases c : k ∈ l
      · rw [if_pos c]; omega
      · rw [if_neg c, List.length_append, List.length_singleton]; omega
    rw [List.foldl_cons, List.length_cons]
    omega
theorem growKeys_len {p : Int} {v : List Int} : ∀ l : List (List Int), (growKeys p l v).length = l.length * p.toNat := fun l => by
  unfold growKeys
  rw [List.length_flatMap]
  simp only [List.length_map, List.length_range]
  exact sum_map_const _ _
theorem growKeys_more {p : Int} {l : List (List Int)} {v r : List Int} {i : Nat} (h : l[i]? = some r) : growKeys p (l.take (i + 1)) v = growKeys p (l.take i) v ++ (List.range p.toNat).map fun f : Nat => addR p r (f : Int) v := by
  rw [List.take_succ, h, Option.toList_some]
  unfold growKeys
  rw [List.flatMap_append]
  simp
theorem sc_grown : FnScope nG ["_law_p", "_law_found", "_law_vector_here"] (defScope (top iLGrown)) := ⟨rfl, rfl, rfl, by decide +kernel, rfl, by decide +kernel, by decide +kernel⟩
theorem ok_grown {fdU : FuncData} (F : FnP K "_law_grown" iLGrown f fd) (T : TX K mg) (FU : FnP K "_law_plus" iLPlus (He.ga K "_law_plus") fdU) : FnOk P w K mg base CX0 2 f fd ["_law_p", "_law_found", "_law_vector_here"] spGrown := by
  have GU : FnOk P w K mg base CX0 1 _ fdU ["_law_p", "_law_one", "_law_factor", "_law_other"] spPlus := ok_plus FU T
  have BU : Binds K fdU ["_law_p", "_law_one", "_law_factor", "_law_other"] [] := FU.bindsN fun _ _ _ _ _ _ us hl => match us, hl with | [_, _, _, _], _ => rfl
  refine F.ok sc_grown (fun vs H Q E h => ?_) (fun cdv A outer s H vs Q E hr h => ?_)
  · obtain ⟨p, d, l, a, v, n, rfl, _⟩ := h
    rfl
  · obtain ⟨p, d, l, a, v, n, rfl, hd, ha, hl, hv, h0, h13, hn, hsz, k⟩ := h
    have nd := sc_grown.nd
    have hu := hu_of hr
    refine ⟨_, PSs.nox (pss_cons (ps_set (i := 3) nd rfl (.inl rfl) pe_dnewT)
      (pss_cons (ps_for PassesOwn.never rfl (pi_list (pe_callTy (call_list_dT rfl) (by rfl) (T.fr "list") (by decide +kernel) (pa_cons (pv 1) pa_nil))) (pg_name (i := 4) nd rfl (.inl rfl))
          (pss_one (ps_for PassesOwn.never rfl (pi_range1 (by rfl) (T.fr "range") (pa_cons (pv 0) pa_nil)) (pg_name (i := 5) nd rfl (.inl rfl))
            (pss_one (ps_dput hu (pv 3) (pe_call GU hr (by rfl) (T.df "_law_plus" iLPlus) FU.kp BU .nil pass0 (pa_cons (pv 0) (pa_cons (pv 4) (pa_cons (pv 5) (pa_cons (pv 2) pa_nil))))) pe_bl rfl)))))
      (pss_one (ps_ret (pv 3))))), ?_⟩
    refine fun e he => ?_
    have s0 : Same H (upd H e (.dT [])) := same_new he
    refine ⟨_, rfl, d, kvsOf l, rfl, Rd.of (s0 _ _ hd), fun q bs hq hks => ?_⟩
    have hrows : AreRows (upd H e (.dT [])) bs l := rows_keys hks
    have eq' : e ≠ q := fun z => by rw [← z, upd_same] at hq; cases hq
    refine ⟨q, rfl, ⟨_, SqL.of upd_same⟩, ?_⟩
    have sQ : Same (upd H e (.dT [])) (upd (upd H e (.dT [])) q (.lst (bs.map V.ref))) := same_new hq
    have rQ := hrows.same sQ
    have eQ : upd (upd H e (.dT [])) q (.lst (bs.map V.ref)) e = some (.dT (kvsOf [])) := by rw [upd_ne eq', upd_same]; rfl
    have qQ : upd (upd H e (.dT [])) q (.lst (bs.map V.ref)) q = some (.lst (bs.map V.ref)) := upd_same
    have aQ := sQ _ _ (s0 _ _ ha)
    have allQ : Same H (upd (upd H e (.dT [])) q (.lst (bs.map V.ref))) := fun c o z => sQ _ _ (s0 _ _ z)
    generalize upd (upd H e (.dT [])) q (.lst (bs.map V.ref)) = G at sQ rQ eQ qQ aQ allQ
    have hbl := rQ.length
    refine for_list (xs := bs.map V.ref) (fun i σ H' => ∃ z1 z2, σ = [some (.int p), some (.ref d), some (.ref a), some (.ref e), z1, z2] ∧ Kept e G H' ∧ H' e = some (.dT (kvsOf ((growKeys p (l.take i) v).foldl ins [])))) ⟨none, none, rfl, Kept.refl, eQ⟩ (fun i σ H' _ z => ?_) ?_ ?_
    · obtain ⟨z1, z2, _, kp, _⟩ := z
      exact SqL.of (kp _ _ qQ (Ne.symm eq'))
    · rintro i x σ H1 hx ⟨z1, z2, rfl, kp, hE⟩
      obtain ⟨b, hb, rfl⟩ := refs_at hx
      obtain ⟨r, hr', hrb⟩ := rQ.get hb
      have hrow := hl r (List.mem_of_getElem? hr')
      have hi : i < l.length := (List.getElem?_eq_some_iff.mp hr').1
      have be : b ≠ e := fun z => by rw [z] at hrb; rw [show G e = _ from hrb] at eQ; cases eQ
      have ae : a ≠ e := fun z => by rw [z] at aQ; rw [show G e = _ from aQ] at eQ; cases eQ
      have hlen0 : ((growKeys p (l.take i) v).foldl ins []).length ≤ 13 * 1000000 := by
        have h1 := insAll_len (growKeys p (l.take i) v) []
        rw [growKeys_len, List.length_take] at h1
        have h2 : min i l.length ≤ 1000000 := by omega
        have h3 := Nat.mul_le_mul h2 (show p.toNat ≤ 13 by omega)
        simp only [List.length_nil] at h1
        omega
      generalize hbase : (growKeys p (l.take i) v).foldl ins [] = B at hE hlen0
      refine ⟨_, rfl, p, rfl, by omega, by omega, for_range (lo := 0) (n := p.toNat) (fun j σ H' => ∃ z2, σ = [some (.int p), some (.ref d), some (.ref a), some (.ref e), some (.ref b), z2] ∧ Kept e G H' ∧ H' e = some (.dT (kvsOf (((List.range j).map fun f : Nat => addR p r (f : Int) v).foldl ins B)))) ⟨z2, rfl, kp, hE⟩ ?_ ?_⟩
      · rintro j σ H2 hj ⟨z2, rfl, kp2, hE2⟩
        have zj : (0 : Int) + (j : Int) = (j : Nat) := by omega
        have hlB : (((List.range j).map fun f : Nat => addR p r (f : Int) v).foldl ins B).length < sizeLine := by
          have h1 := insAll_len ((List.range j).map fun f : Nat => addR p r (f : Int) v) B
          rw [List.length_map, List.length_range] at h1
          exact Nat.lt_of_le_of_lt (Nat.le_trans h1 (show B.length + j ≤ 13000013 by omega)) (by decide)
        refine ⟨_, rfl, _, rfl, _, rfl, _, rfl, _, rfl, p, b, r, 0 + (j : Int), a, v, rfl, .inr (kp2 _ _ hrb be), .inr (kp2 _ _ aQ ae), by rw [hrow.1, hv.1], h0, by omega, by rw [hrow.1]; omega, fun H3 c s3 hc hc2 => ?_⟩
        rw [zj] at hc2
        have ce : c ≠ e := fun z => by rw [z] at hc; rw [hE2] at hc; cases hc
        have key : H3 c = some (.tup (((addR p r (j : Int) v).map (Sum.inl : Int → L2.Key)).map kV)) := by
          have e2 : ((addR p r (j : Int) v).map (Sum.inl : Int → L2.Key)).map kV = (addR p r (j : Int) v).map V.int := by rw [List.map_map]; rfl
          rw [e2]
          exact hc2
        refine ⟨e, _, rfl, DPut.t (s3 _ _ hE2) key (by rw [kvs_len]; exact hlB), _, rfl, fun u o z nu => ?_, ?_⟩
        · rw [upd_ne nu]
          exact s3 _ _ (kp2 _ _ z nu)
        · rw [upd_same, putK_kvs, List.range_succ, List.map_append, List.foldl_append]
          rfl
      · rintro σ H2 ⟨z2, rfl, kp2, hE2⟩
        refine ⟨_, _, rfl, kp2, ?_⟩
        rw [growKeys_more hr', List.foldl_append, hbase]
        exact hE2
    · rintro σ H1 ⟨z1, z2, rfl, kp, hE⟩
      rw [List.length_map, hbl, List.take_length] at hE
      refine ⟨_, rfl, k H1 e (fun c o z => kp _ _ (allQ _ _ z) (ne_of_none z he)) he hE⟩
end
end KV

set_option Elab.async false
set_option linter.all false
set_option maxRecDepth 100000
set_option maxHeartbeats 4000000
/-! # the law's draws: rows -/
namespace KV
open PySem PySem.Spec PyProof.Rows L2 VX RX
section
variable {P : Program} {w : World} {K : PySem.W.Frag} {mg : Str → Option Value} {base : Heap} {f : Addr} {fd : FuncData}
abbrev nW : List Str := ["_law_box_here", "_law_p", "_law_n", "_law_most", "_law_k"]
theorem BoxK.mono {H : Hp} {b : Addr} {N M : Nat} (h : BoxK H b N) (le : N ≤ M) : BoxK H b M := by
  obtain ⟨x, y, z, hb, x0, y0, yN, r⟩ := h
  exact ⟨x, y, z, hb, x0, y0, by omega, r⟩
def spRows : Sp := fun vs H Q _ => ∃ (b : Addr) (N : Nat) (p : Int) (n : Nat) (most : Nat), vs = [.ref b, .int p, .int n, .int most] ∧ BoxK H b N ∧ N ≤ 700000 ∧ isP p = true ∧ n ≤ 12 ∧ most ≤ 10 ∧
  ∀ H' l ls (rs : List (List Int)), Kept b H H' → BoxK H' b (N + 300) → H l = none → l ≠ b → H' l = some (.lst (ls.map V.ref)) → AreLsts H' b ls rs → Len n rs → rs.length ≤ 10 → Q (.ref l) H'
theorem sc_rows : FnScope nW ["_law_box_here", "_law_p", "_law_n", "_law_most"] (defScope (top iLRows)) := ⟨rfl, rfl, rfl, by decide +kernel, rfl, by decide +kernel, by decide +kernel⟩
theorem ok_rows {fdT fdV : FuncData} (F : FnP K "_law_rows" iLRows f fd) (T : TX K mg) (FT : FnP K "_law_take" iLTake (He.ga K "_law_take") fdT) (FV : FnP K "_law_vector" iLVec (He.ga K "_law_vector") fdV) : FnOk P w K mg base CX0 3 f fd ["_law_box_here", "_law_p", "_law_n", "_law_most"] spRows := by
  have GT : FnOk P w K mg base CX0 1 _ fdT ["_law_box_here", "_law_many"] spTake := ok_take FT T
  have BT : Binds K fdT ["_law_box_here", "_law_many"] [] := FT.bindsN fun _ _ _ _ _ _ us hl => match us, hl with | [_, _], _ => rfl
  have GV : FnOk P w K mg base CX0 2 _ fdV ["_law_box_here", "_law_p", "_law_n"] spVec := ok_vec FV T FT
  have BV : Binds K fdV ["_law_box_here", "_law_p", "_law_n"] [] := FV.bindsN fun _ _ _ _ _ _ us hl => match us, hl with | [_, _, _], _ => rfl
  refine F.ok sc_rows (fun vs H Q E h => ?_) (fun cdv A outer s H vs Q E hr h => ?_)
  · obtain ⟨b, N, p, n, most, rfl, _⟩ := h
    rfl
  · obtain ⟨b, N, p, n, most, rfl, hb, hN, hp, hn, hm, k⟩ := h
    have nd := sc_rows.nd
    have hr1 : Room 1 _ := hr.mono (by decide)
    refine ⟨_, PSs.nox (pss_one (ps_ret (pe_lc (own := [("_law_k", 4)]) (g := gName 4) (by rfl) nd (pi_range1 (by rfl) (T.fr "range") (pa_cons (pe_call GT hr1 (by rfl) (T.df "_law_take" iLTake) FT.kp BT .nil pass0 (pa_cons (pv 0) (pa_cons (pe_op op_add (pv 3) pe_int) pa_nil))) pa_nil)) (blkOk_by (own := [("_law_k", 4)]) (N := nW) (sc := defScope (top iLRows)) (by decide +kernel)) (fun _ _ _ _ _ => pg_name (i := 4) nd rfl (Or.inl rfl)) (fun _ _ _ _ _ => pts_nil)
      (fun _ _ _ _ _ => pe_call GV hr (by rfl) (T.df "_law_vector" iLVec) FV.kp BV .nil pass0 (pa_cons (pv 0) (pa_cons (pv 1) (pa_cons (pv 2) pa_nil))))))), ?_⟩
    refine ⟨_, rfl, _, rfl, _, _, rfl, rfl, ?_⟩
    dsimp only [tCons, tC, tNil, List.append_nil]
    refine take_use (m := (most : Int) + 1) hb (by omega) (by omega) (by omega) fun d H1 d0 d1 kp1 bx1 nn => ?_
    refine ⟨d, rfl, by omega, by omega, fun D hD => ?_⟩
    have neD := bx1.ne hD
    refine lc_it (walk_range (lo := 0) (n := d.toNat)) (fun i H' => Kept b H1 H' ∧ BoxK H' b (N + 1 + 25 * i) ∧ ∃ ls rs, H' D = some (.lst (ls.map V.ref)) ∧ rs.length = i ∧ AreLsts H' b ls rs ∧ Len n rs ∧ ∀ a ∈ ls, a ≠ D) ⟨Kept.of (same_new hD), bx1.same (same_new hD), [], [], upd_same, rfl, .nil, (fun _ h => nomatch h), (fun _ h => nomatch h)⟩ (fun i H' _ z => trivial) ?_ ?_
    · rintro i x Ha Hb hi ⟨kp, bx, ls, rs, hd, hl, har, hlen, hne⟩ ⟨rfl, rfl⟩
      refine ⟨rfl, yes_if ?_⟩
      refine ⟨_, rfl, _, rfl, _, rfl, b, _, p, n, rfl, bx, by omega, hp, hn, fun H3 l xs kp3 bx3 hl0 hl3 hxs _ => ?_⟩
      have lb : l ≠ b := bx.ne hl0
      have lD : l ≠ D := fun z => by rw [z, hd] at hl0; cases hl0
      have hll := har.length
      refine ⟨ls.map V.ref, kp3 _ _ hd neD, lt_line (by rw [List.length_map]; omega), fun c o q nb => ?_, ?_, ls ++ [l], rs ++ [xs], ?_, by rw [List.length_append, List.length_singleton]; omega, ?_, ?_, ?_⟩
      · rw [upd_ne (ne_of_none q hD)]
        exact kp3 _ _ (kp _ _ q nb) nb
      · obtain ⟨x1, y1, z1, hx, r⟩ := bx3.mono (M := N + 1 + 25 * (i + 1)) (by omega)
        exact ⟨x1, y1, z1, by rw [upd_ne (Ne.symm neD)]; exact hx, r⟩
      · rw [upd_same, List.map_append]; rfl
      · refine ((har.kept kp3).append (.cons hl3 lb .nil)).updN fun a ha => ?_
        rcases List.mem_append.mp ha with ha | ha
        · exact hne a ha
        · rw [List.mem_singleton.mp ha]; exact lD
      · intro r hr'
        rcases List.mem_append.mp hr' with hr' | hr'
        · exact hlen r hr'
        · rw [List.mem_singleton.mp hr']; exact hxs
      · intro a ha
        rcases List.mem_append.mp ha with ha | ha
        · exact hne a ha
        · rw [List.mem_singleton.mp ha]; exact lD
    · rintro Ha ⟨kp, bx, ls, rs, hd, hl, har, hlen, hne⟩
      exact k Ha D ls rs (kp1.trans kp) (bx.mono (by omega)) (kp1.none neD hD) neD hd har hlen (by omega)
end
end KV

set_option Elab.async false
set_option linter.all false
set_option maxRecDepth 100000
set_option maxHeartbeats 4000000
/-! # {k: v}, k a tuple; len(o) by an own __len__ -/
namespace VX
open PySem PySem.Spec PyProof.Rows L2
def tDispT (tk tv : TE) : TE := fun σ H Q => ∀ p, H p = none → tk σ (upd H p (.dT [])) fun x H1 => tv σ H1 fun z H2 => H2 p = some (.dT []) ∧ ∃ (b : Addr) (ks : List Key), x = .ref b ∧ H2 b = some (.tup (ks.map kV)) ∧ Q (.ref p) (upd H2 p (.dT [(ks, z)]))
theorem pe_dispT {X : Cx} {pos : Pos} {k v : Expr} {tk tv : TE} (hu : X.A.units < cLine) (hk : PE X k tk) (hv : PE X v tv) : PE X (.Dict [some k] [v] pos) (tDispT tk tv) := by
  refine ⟨fun pins s σ H Q I q => ?_⟩
  have hn := I.hok.fresh (Nat.le_refl s.heap.objs.size)
  have I1 := I.laid (a := s.heap.objs.size) (o := .dT []) (h' := s.heap.push { cls := .type "dict", data := .dict #[] }) (t' := s.toks) (fun _ _ q => Heap.get?_push_of_some _ q) (Nat.le_refl _) (dt_empty s.heap I.big)
  rw [arm_eval_Dict, zip_pairTrees [some k] [v] X.env pos rfl rfl, dictDisplay_pairs (pairTrees [some k] [v] X.env pos) (by simp [pairTrees]) (by simp [pairTrees])]
  refine wpAny_bind (wpAny_standAt (wpAny_bind (wpAny_subDictH (knd := tupleKind (mixKind X.prog X.w)) (Q := fun d s' => wpAny (model X.prog X.w) X.A (pure (Value.ref d)) (EP X pins σ Q) X.xe s') ?hr (by simp [pairTrees]) ?_)))
  case hr => exact hu
  refine pairTrees_cons_walk (thn (hk.run pins _ σ _ _ I1 (q _ hn)) fun u s1 ⟨x, H1, I2, r1, q1⟩ => thn (hv.run pins s1 σ H1 _ I2 q1) fun w s2 ⟨z, H2, I3, r2, e, b, ks, ex, eb, q2⟩ => pairTrees_nil_walk ?_)
  subst ex
  cases (show u = Value.ref b from r1)
  obtain ⟨z0, hd, xs, rel, dd⟩ := dt_of I3.hok e
  cases rel
  refine ⟨[(ks, b, w)], ⟨rfl, rfl, key_of I3.hok eb, True.intro⟩, dd, fun h' tk' dd' hs => wpAny_pure ⟨.ref s.heap.objs.size, _, ?_, rfl, q2⟩⟩
  obtain ⟨qo, es, ep, hq, h2, h3, h4, _, h5⟩ := dd'
  refine d_write I3 (by rw [e]; exact True.intro) hs ⟨qo, hq⟩ ⟨by show 1 ≤ sizeLine; decide, hd, _, .cons ⟨rfl, ?_, r2⟩ .nil, qo, es, ep, hq, h2, h3, h4, h5⟩
  rw [upd_ne (ne_of eb e (fun z => nomatch z))]
  exact eb
/-- len(o) by an own __len__ -/
def rLenO (C : Addr) (sp : Sp) (E : XK) : List V → Hp → VK → Prop := fun xs H Q => ∃ a dx fs, xs = [.ref a] ∧ H a = some (.ins C dx fs) ∧ sp [.ref a] H (fun v H' => ∃ i : Int, v = .int i ∧ 0 ≤ i ∧ i < 2 ^ 62 ∧ Q v H') E
theorem call_lenO {X : Cx} {CX : CXT} {C f : Addr} {n : Nat} {sp : Sp} {E : XK} (F : FnR X.prog X.w X.K X.mg X.base CX n f sp) (hs : PySem.W.findIn X.K (.ref C) "__len__" = some (some (.ref f))) (hf : PySem.W.isFn X.K (.ref f) = true) (hx : Passes CX X E) (hr : Room (n + 1) X.A) :
    CallR X (.builtin "len") (rLenO C sp E) := by
  intro pins s σ H xs us Q I r h
  obtain ⟨a, dx, fs, rfl, ha, h⟩ := h
  obtain ⟨u, rfl, ru⟩ := vals1 r
  cases (show u = Value.ref a from ru)
  obtain ⟨mA, J, _⟩ := ins_get I.hok ha
  obtain ⟨od, J, _⟩ := J.look
  obtain ⟨m, hF⟩ := I.fr
  refine PySem.W.len_K hF I.ok.mod.kin J hs hf ?_
  have e0 : Env0 X.prog X.w X.K X.mg X.base X.A.in1 X.stack s H := by
    have e := I.env0
    exact ⟨e.frames, e.mod, e.bs, e.bsz, e.funs, e.frf, e.hok, e.bare⟩
  refine wpAny_call (codeAny_mono (F X.A.in1 X.stack s H [.ref a] [.ref a] _ E hr.in1 e0 (.cons rfl .nil) h) fun r s' hq => ?_)
  cases r with
  | error e => exact hx pins σ H s e s' I hq
  | ok fl =>
    cases fl with
    | ret w =>
      obtain ⟨z, H', I', rz, i, rfl, h0, h1, q⟩ := I.after hq
      obtain ⟨t, rfl⟩ := rz
      exact ⟨⟨h0, by omega⟩, .int i, H', I'.tok _, ⟨_, rfl⟩, q⟩
    | next => exact False.elim hq
    | brk => exact False.elim hq
    | cont => exact False.elim hq
end VX

set_option Elab.async false
set_option linter.all false
set_option maxRecDepth 100000
set_option maxHeartbeats 4000000
/-! # the law's dict of all sums: span -/
namespace KV
open PySem PySem.Spec PyProof.Rows L2 VX RX
section
variable {P : Program} {w : World} {K : PySem.W.Frag} {mg : Str → Option Value} {base : Heap} {f : Addr} {fd : FuncData}
abbrev nSp : List Str := ["_law_p", "_law_n", "_law_rows_here", "_law_found", "_law_row", "_law_vector_here", "_law_item"]
theorem spanL_more {p : Int} {n : Nat} {rs : List (List Int)} {i : Nat} {r : List Int} (h : rs[i]? = some r) : spanL p n (rs.take (i + 1)) = spanStep p (spanL p n (rs.take i)) r := by
  unfold spanL
  rw [List.take_succ, h, Option.toList_some, List.foldl_append]
  rfl
theorem spanL_len {p : Int} (hp : isP p = true) {n : Nat} {rs : List (List Int)} (hr : Len n rs) (hn : p ^ n ≤ 1000000) : (spanL p n rs).length ≤ 1000000 := by
  have I := invF_ok hp
  have h2 := I.two
  have R := reduced_ok I (modR_rows (p := p) (by omega) hr)
  rw [(span_told I hr).1]
  have hc := R.card
  have h1 := Nat.pow_le_pow_right (n := p.toNat) (by omega) hc
  have h3 : ((p.toNat ^ n : Nat) : Int) = p ^ n := by
    rw [Int.natCast_pow, Int.toNat_of_nonneg (by omega)]
  omega
theorem valK_kvs (l : List (List Int)) (k : List Int) : (valV (kvsOf l) (k.map (Sum.inl : Int → L2.Key))).isSome = decide (k ∈ l) := by
  unfold valV
  rw [Option.isSome_map, ← any_kvs, Bool.eq_iff_iff, List.find?_isSome, List.any_eq_true]
theorem AreLsts.get {H : Hp} {b : Addr} : ∀ {as : List Addr} {rs : List (List Int)} {i : Nat} {a : Addr}, AreLsts H b as rs → as[i]? = some a → ∃ r, rs[i]? = some r ∧ H a = some (.lst (r.map V.int))
  | _, _, 0, _, .cons (r := r) h _ t, e => by
    obtain rfl := Option.some.inj e
    exact ⟨r, rfl, h⟩
  | _, _, i + 1, _, .cons h _ t, e => AreLsts.get (i := i) t (by simpa using e)
def spSpan : Sp := fun vs H Q _ => ∃ (p : Int) (n : Nat) (l : Addr) (ls : List Addr) (rs : List (List Int)), vs = [.int p, .int n, .ref l] ∧ H l = some (.lst (ls.map V.ref)) ∧ AreInts H ls rs ∧ Len n rs ∧ isP p = true ∧ n ≤ 12 ∧ p ^ n ≤ 1000000 ∧
  ∀ H' e, Same H H' → H e = none → H' e = some (.dT (kvsOf (spanL p n rs))) → Q (.ref e) H'
theorem sc_span : FnScope nSp ["_law_p", "_law_n", "_law_rows_here"] (defScope (top iLSpan)) := ⟨rfl, rfl, rfl, by decide +kernel, rfl, by decide +kernel, by decide +kernel⟩
theorem ok_span {fdG fdU : FuncData} (F : FnP K "_law_span" iLSpan f fd) (T : TX K mg) (FG : FnP K "_law_grown" iLGrown (He.ga K "_law_grown") fdG) (FU : FnP K "_law_plus" iLPlus (He.ga K "_law_plus") fdU) : FnOk P w K mg base CX0 3 f fd ["_law_p", "_law_n", "_law_rows_here"] spSpan := by
  have GG : FnOk P w K mg base CX0 2 _ fdG ["_law_p", "_law_found", "_law_vector_here"] spGrown := ok_grown FG T FU
  have BG : Binds K fdG ["_law_p", "_law_found", "_law_vector_here"] [] := FG.bindsN fun _ _ _ _ _ _ us hl => match us, hl with | [_, _, _], _ => rfl
  refine F.ok sc_span (fun vs H Q E h => ?_) (fun cdv A outer s H vs Q E hr h => ?_)
  · obtain ⟨p, n, l, ls, rs, rfl, _⟩ := h
    rfl
  · obtain ⟨p, n, l, ls, rs, rfl, hl, hls, hlen, hp, hn, hpn, k⟩ := h
    have nd := sc_span.nd
    have hu := hu_of hr
    refine ⟨_, PSs.nox (pss_cons (ps_set (i := 3) nd rfl (.inl rfl) (pe_dispT hr.units0 (pe_callTy call_tuple_of (by rfl) (T.fr "tuple") (by decide +kernel) (pa_cons (pe_op op_rep (pe_lst (pa_cons pe_int pa_nil)) (pv 1)) pa_nil)) pe_bl))
      (pss_cons (ps_for PassesOwn.never rfl (pi_list (pv 2)) (pg_name (i := 4) nd rfl (.inl rfl))
          (pss_cons (ps_set (i := 5) nd rfl (.inl rfl) (pe_callTy call_tuple_of (by rfl) (T.fr "tuple") (by decide +kernel) (pa_cons (pe_lc (own := [("_law_item", 6)]) (g := gName 6) (by rfl) nd (pi_seq K (pv 4)) (blkOk_by (own := [("_law_item", 6)]) (N := nSp) (sc := defScope (top iLSpan)) (by decide +kernel)) (fun _ _ _ _ _ => pg_name (i := 6) nd rfl (Or.inl rfl)) (fun _ _ _ _ _ => pts_nil) (fun _ _ _ _ _ => pe_op op_modN (pv 6) (pv 0))) pa_nil)))
          (pss_one (ps_if (pt_cmp (pc_dnotin hu (pv 5) (pv 3)) rfl) (pss_one (ps_set (i := 3) nd rfl (.inl rfl) (pe_call GG (hr.mono (by decide)) (by rfl) (T.df "_law_grown" iLGrown) FG.kp BG .nil pass0 (pa_cons (pv 0) (pa_cons (pv 3) (pa_cons (pv 5) pa_nil)))))) pss_nil))))
      (pss_one (ps_ret (pv 3))))), ?_⟩
    have hq := isP_pos hp
    intro zz hzz
    have key0 : ((List.replicate n (0 : Int)).map (Sum.inl : Int → L2.Key)).map kV = (List.replicate n 0).map V.int := by rw [List.map_map]; rfl
    have tz : (List.replicate ((n : Nat) : Int).toNat [V.int 0]).flatten = (List.replicate n 0).map V.int := by
      rw [Int.toNat_natCast]
      clear hlen hpn k hn key0
      induction n with
      | zero => rfl
      | succ n ih => rw [List.replicate_succ, List.flatten_cons, ih, List.replicate_succ]; rfl
    refine ⟨(by show 1 ≤ sizeLine; decide), fun e he => ⟨_, rfl, e, _, _, rfl, rfl, upd_same, by omega, by omega, ?_, fun e2 he2 => ?_⟩⟩
    · rw [Int.toNat_natCast]
      show 1 * n ≤ sizeLine
      exact Nat.le_of_lt (lt_line (by omega))
    refine ⟨e2, _, rfl, .inl ⟨SqL.of upd_same, fun t ht => ?_⟩⟩
    rw [tz] at ht ⊢
    have w1 := same_new (o := .dT []) hzz
    have w2 := w1.trans (same_new (o := .lst [V.int 0]) he)
    have w3 := w2.trans (same_new (o := .lst ((List.replicate n 0).map V.int)) he2)
    have w4 := w3.trans (same_new (o := .tup ((List.replicate n 0).map V.int)) ht)
    have z1 : upd H zz (.dT []) zz = some (.dT []) := upd_same
    have z4 := (same_new (o := .lst [V.int 0]) he |>.trans (same_new (o := .lst ((List.replicate n 0).map V.int)) he2) |>.trans (same_new (o := .tup ((List.replicate n 0).map V.int)) ht)) _ _ z1
    have t4 : upd (upd (upd (upd H zz (.dT [])) e (.lst [V.int 0])) e2 (.lst ((List.replicate n 0).map V.int))) t (.tup ((List.replicate n 0).map V.int)) t = some (.tup ((List.replicate n 0).map V.int)) := upd_same
    generalize upd (upd (upd (upd H zz (.dT [])) e (.lst [V.int 0])) e2 (.lst ((List.replicate n 0).map V.int))) t (.tup ((List.replicate n 0).map V.int)) = H4 at w4 z4 t4 ⊢
    refine ⟨z4, t, (List.replicate n (0 : Int)).map Sum.inl, rfl, by rw [key0]; exact t4, ?_⟩
    have w5 : Same H (upd H4 zz (.dT [((List.replicate n (0 : Int)).map Sum.inl, V.bl true)])) := Same.grow w4 hzz
    have z5 : upd H4 zz (.dT [((List.replicate n (0 : Int)).map Sum.inl, V.bl true)]) zz = some (.dT (kvsOf (spanL p n (rs.take 0)))) := upd_same
    generalize upd H4 zz (.dT [((List.replicate n (0 : Int)).map Sum.inl, V.bl true)]) = H5 at w5 z5 ⊢
    have hll := hls.length
    refine ⟨_, rfl, l, rfl, ⟨_, SqL.of (w5 _ _ hl)⟩, for_list (xs := ls.map V.ref) (fun i σ H' => ∃ d z4 z5, σ = [some (.int p), some (.int n), some (.ref l), some (.ref d), z4, z5, none] ∧ Same H H' ∧ H d = none ∧ H' d = some (.dT (kvsOf (spanL p n (rs.take i))))) ⟨zz, none, none, rfl, w5, hzz, z5⟩ (fun i σ H' _ z => ?_) ?_ ?_⟩
    · obtain ⟨d, z4, z5, _, s, _⟩ := z
      exact SqL.of (s _ _ hl)
    · rintro i x σ H1 hx ⟨d, z4, z5, rfl, s1, hd, hd1⟩
      obtain ⟨a, ha, rfl⟩ := refs_at hx
      obtain ⟨r, hr', hra⟩ := hls.get ha
      have hrl := hlen r (List.mem_of_getElem? hr')
      have ha1 : IsInts H1 a r := hra.same s1
      refine ⟨_, rfl, a, _, rfl, ha1.imp SqL.of SqT.of, fun J hJ D hD => lc_it (walk_seq (K := K) (J := J) (a := a) (xs := r.map V.int)) (fun i H' => H' = upd H1 D (.lst ((r.take i).map fun x => V.int (x % p)))) rfl (fun i H' _ z => by rw [z]; exact hJ.upd hD) ?_ ?_⟩
      · rintro i x H1 H2 hi rfl ⟨rfl, hx⟩
        obtain ⟨y, hy, rfl⟩ := ints_at hx
        refine ⟨rfl, yes_if ?_⟩
        refine ⟨_, rfl, _, rfl, _, _, rfl, rfl, (by omega), _, upd_same, lt_line (by simp; omega), ?_⟩
        show upd (upd _ D _) D (.lst (_ ++ [V.int (y.fmod p)])) = _
        rw [upd_upd, take_more hy, fmod_pos (by omega)]
      · rintro _ rfl
        refine ⟨D, _, rfl, .inl ⟨SqL.of upd_same, fun c hc => ?_⟩⟩
        have em : (r.take (r.map V.int).length).map (fun x => V.int (x % p)) = (modR p r).map V.int := by
          rw [List.length_map, List.take_length, modR, List.map_map]
          rfl
        rw [em] at hc ⊢
        have s2 := same_two hD hc (u := .tup ((modR p r).map V.int))
        have hcr : upd (upd H1 D (.lst ((modR p r).map V.int))) c (.tup ((modR p r).map V.int)) c = some (.tup ((modR p r).map V.int)) := upd_same
        generalize upd (upd H1 D (.lst ((modR p r).map V.int))) c (.tup ((modR p r).map V.int)) = H2 at s2 hcr ⊢
        have hd2 := s2 _ _ hd1
        have key : H2 c = some (.tup (((modR p r).map (Sum.inl : Int → L2.Key)).map kV)) := by
          rw [List.map_map]
          exact hcr
        have lenT : Len n (rs.take i) := fun q hq => hlen q (List.mem_of_mem_take hq)
        refine ⟨_, rfl, _, rfl, d, _, rfl, DGet.t hd2 key, _, rfl, ?_⟩
        rw [valK_kvs]
        refine ite2 (fun c' => ?_) (fun c' => ?_)
        · have hni : modR p r ∉ spanL p n (rs.take i) := by simpa using c'
          refine ⟨_, rfl, _, rfl, _, rfl, p, d, spanL p n (rs.take i), c, modR p r, n, rfl, hd2, hcr, spanL_rows hq.1 lenT, modR_row (by omega) hrl, by omega, by omega, hn, spanL_len hp lenT hpn, fun H3 e3 s3 he3 hee => ?_⟩
          refine ⟨e3, _, _, rfl, s1.trans (s2.trans s3), none_back (s1.trans s2) he3, ?_⟩
          rw [hee, spanL_more hr', spanStep, if_neg hni]
        · have hin : modR p r ∈ spanL p n (rs.take i) := by simpa using c'
          refine ⟨d, _, _, rfl, s1.trans s2, hd, ?_⟩
          rw [hd2, spanL_more hr', spanStep, if_pos hin]
    · rintro σ H1 ⟨d, z4, z5, rfl, s1, hd, hd1⟩
      rw [List.length_map, hll, List.take_length] at hd1
      exact ⟨_, rfl, k _ _ s1 hd hd1⟩
end
end KV

set_option linter.all false
/-! # sums, intersections, extensions: rows alone -/
namespace RX
/-- a row is left with nothing just if it is in the span -/
theorem rest_zero {p : Int} {n : Nat} {b : List (List Int)} (h0 : 0 < p) (hb : Rref p n b) {r : List Int} (hr : Row p n r) : restOf p b r = List.replicate n 0 ↔ InS p n b r := by
  have k := rest_in h0 hb.len b r (fun o ho => InS.self (by
    have := (hb.one o ho); have := ((hb.rows o ho).bound h0 (lead o)); omega) (hb.rows o ho) ho) hr
  constructor
  · intro e
    rw [e] at k
    exact k.mp .zero
  · intro i
    exact zero_of h0 b hb _ (k.mpr i) (hb.rest h0 hr).2
theorem InS.congr {p : Int} {n : Nat} {B C : List (List Int)} {v : List Int} (h : 0 < p) (hB : Len n B) (hC : Len n C) (e1 : ∀ r ∈ B, InS p n C r) (e2 : ∀ r ∈ C, InS p n B r) : InS p n B v ↔ InS p n C v :=
  ⟨fun i => i.imp h hC e1, fun i => i.imp h hB e2⟩
theorem span_joined {p : Int} {inv : Int → Int} (I : Inv p inv) {n : Nat} {b rows : List (List Int)} (hb : Rref p n b) (hr : ∀ r ∈ rows, Row p n r) (v : List Int) : InS p n (rows.foldl (joined inv p) b) v ↔ InS p n (b ++ rows) v := by
  have h0 : 0 < p := by have := I.two; omega
  have hBl : Len n (b ++ rows) := fun r h => (List.mem_append.mp h).elim (fun h => hb.len r h) fun h => (hr r h).1
  have hF := fold_ok I rows b hb hr
  refine InS.congr h0 hF.len hBl (fun r h => ?_) fun r h => ?_
  · exact fold_in I hBl rows b hr (fun o ho => InS.self I.two (hb.rows o ho) (List.mem_append_left _ ho)) (fun o ho => InS.self I.two (hr o ho) (List.mem_append_right _ ho)) r h
  · obtain ⟨k1, k2⟩ := in_fold I rows b hb hr
    exact (List.mem_append.mp h).elim (k1 r) (k2 r)
/-! ### two rows side by side -/
theorem addR_app {p f : Int} {r s o u : List Int} (h : r.length = o.length) : addR p (r ++ s) f (o ++ u) = addR p r f o ++ addR p s f u := by
  unfold addR
  exact List.zipWith_append h
theorem Row.app {p : Int} {n m : Nat} {r s : List Int} (h : Row p n r) (h' : Row p m s) : Row p (n + m) (r ++ s) :=
  ⟨by rw [List.length_append, h.1, h'.1], fun x hx => (List.mem_append.mp hx).elim (h.2 x) (h'.2 x)⟩
theorem at0_app_l {r s : List Int} {i : Nat} (h : i < r.length) : at0 (r ++ s) i = at0 r i := by
  unfold at0
  rw [List.getD_eq_getElem?_getD, List.getD_eq_getElem?_getD, List.getElem?_append_left h]
theorem at0_app_r {r s : List Int} (i : Nat) : at0 (r ++ s) (r.length + i) = at0 s i := by
  unfold at0
  rw [List.getD_eq_getElem?_getD, List.getD_eq_getElem?_getD, List.getElem?_append_right (by omega)]
  congr 2
  omega
theorem lead_app_l {r s : List Int} (h : lead r < r.length) : lead (r ++ s) = lead r :=
  lead_eq (by rw [at0_app_l h]; exact lead_ne h) fun j hj => by rw [at0_app_l (by omega)]; exact lead_zero hj
/-- the left half of a row -/
theorem split_row {n : Nat} {r : List Int} (h : r.length = n + n) (hz : n ≤ lead r) : r = List.replicate n 0 ++ r.drop n := by
  have e : r.take n = List.replicate n 0 := by
    refine ext0 (by simp; omega) fun i hi => ?_
    have hi' : i < n := by simp at hi; omega
    rw [at0_rep]
    have : at0 (r.take n ++ r.drop n) i = at0 (r.take n) i := at0_app_l (by simp; omega)
    rw [List.take_append_drop] at this
    rw [← this]
    exact lead_zero (by omega)
  rw [← e, List.take_append_drop]
theorem double_rref {p : Int} {n : Nat} (b : List (List Int)) (h : Rref p n b) : Rref p (n + n) (b.map fun r => r ++ r) := by
  have hl : ∀ r ∈ b, lead (r ++ r) = lead r := fun r hr => lead_app_l (by rw [(h.rows r hr).1]; exact h.lt r hr)
  refine ⟨fun r hr => ?_, fun r hr => ?_, fun r hr => ?_, ?_, ?_⟩
  · obtain ⟨s, hs, rfl⟩ := List.mem_map.mp hr
    exact (h.rows s hs).app (h.rows s hs)
  · obtain ⟨s, hs, rfl⟩ := List.mem_map.mp hr
    rw [hl s hs]
    have := h.lt s hs
    omega
  · obtain ⟨s, hs, rfl⟩ := List.mem_map.mp hr
    rw [hl s hs, at0_app_l (by rw [(h.rows s hs).1]; exact h.lt s hs)]
    exact h.one s hs
  · rw [List.pairwise_map]
    exact h.inc.imp_of_mem fun hr hs e => by rw [hl _ hr, hl _ hs]; exact e
  · rw [List.pairwise_map]
    exact h.col.imp_of_mem fun {r s} hr hs e => by rw [hl _ hs, at0_app_l (by rw [(h.rows _ hr).1]; exact h.lt _ hs)]; exact e
theorem rep_add {n : Nat} : List.replicate n (0 : Int) ++ List.replicate n 0 = List.replicate (n + n) 0 := by simp
def zer (n : Nat) : List Int := List.replicate n 0
/-- the rows that both spans share -/
def commonL (inv : Int → Int) (p : Int) (n : Nat) (one other : List (List Int)) : List (List Int) :=
  (((other.map fun r => r ++ zer n).foldl (joined inv p) (one.map fun r => r ++ r)).filter fun r => decide (n ≤ lead r)).map (·.drop n)
theorem drop_lead {n : Nat} {r : List Int} (h : r.length = n + n) (hz : n ≤ lead r) : lead r = n + lead (r.drop n) := by
  have e := split_row h hz
  by_cases hl : lead r < r.length
  · have k := lead_ne hl
    have e2 : at0 r (lead r) = at0 (r.drop n) (lead r - n) := by
      rw [e]
      conv => lhs; arg 2; rw [show lead (List.replicate n (0 : Int) ++ List.drop n r) = (List.replicate n (0 : Int)).length + (lead r - n) by rw [← e]; simp; omega]
      rw [at0_app_r, ← e]
    have : lead (r.drop n) = lead r - n := lead_eq (by rw [← e2]; exact k) fun j hj => by
      have e3 : at0 r (n + j) = at0 (r.drop n) j := by
        have := at0_app_r (r := List.replicate n (0 : Int)) (s := r.drop n) j
        rw [← e] at this
        simpa using this
      rw [← e3]
      exact lead_zero (by omega)
    omega
  · have hle := lead_le (r := r)
    have e1 : lead r = r.length := by omega
    have hd : lead (r.drop n) = (r.drop n).length := by
      rcases Nat.lt_or_eq_of_le (lead_le (r := r.drop n)) with c | c
      · have k := lead_ne c
        have e3 : at0 r (n + lead (r.drop n)) = at0 (r.drop n) (lead (r.drop n)) := by
          have := at0_app_r (r := List.replicate n (0 : Int)) (s := r.drop n) (lead (r.drop n))
          rw [← e] at this
          simpa using this
        rw [← e3, lead_out e1] at k
        exact absurd rfl k
      · exact c
    rw [hd, e1]
    simp
    omega
theorem Rref.sub {p : Int} {n : Nat} {b c : List (List Int)} (h : Rref p n b) (s : c.Sublist b) : Rref p n c :=
  ⟨fun r hr => h.rows r (s.subset hr), fun r hr => h.lt r (s.subset hr), fun r hr => h.one r (s.subset hr), h.inc.sublist s, h.col.sublist s⟩
theorem at0_drop {n : Nat} {r : List Int} (i : Nat) : at0 (r.drop n) i = at0 r (n + i) := by
  unfold at0
  rw [List.getD_eq_getElem?_getD, List.getD_eq_getElem?_getD, List.getElem?_drop]
theorem tails_rref {p : Int} {n : Nat} {b : List (List Int)} (h : Rref p (n + n) b) (hz : ∀ r ∈ b, n ≤ lead r) : Rref p n (b.map (·.drop n)) := by
  have hl : ∀ r ∈ b, lead r = n + lead (r.drop n) := fun r hr => drop_lead (h.rows r hr).1 (hz r hr)
  refine ⟨fun r hr => ?_, fun r hr => ?_, fun r hr => ?_, ?_, ?_⟩
  · obtain ⟨s, hs, rfl⟩ := List.mem_map.mp hr
    exact ⟨by rw [List.length_drop, (h.rows s hs).1]; omega, fun x hx => (h.rows s hs).2 x (List.mem_of_mem_drop hx)⟩
  · obtain ⟨s, hs, rfl⟩ := List.mem_map.mp hr
    have := h.lt s hs
    rw [hl s hs] at this
    omega
  · obtain ⟨s, hs, rfl⟩ := List.mem_map.mp hr
    rw [at0_drop, ← hl s hs]
    exact h.one s hs
  · rw [List.pairwise_map]
    exact h.inc.imp_of_mem fun hr hs e => by rw [hl _ hr, hl _ hs] at e; omega
  · rw [List.pairwise_map]
    exact h.col.imp_of_mem fun {r s} hr hs e => by rw [at0_drop, ← hl _ hs]; exact e
theorem drop_addR {p f : Int} {n : Nat} {v r : List Int} : (addR p v f r).drop n = addR p (v.drop n) f (r.drop n) := by
  unfold addR
  exact List.drop_zipWith
theorem tails_in {p : Int} {n : Nat} {b : List (List Int)} {v : List Int} (i : InS p (n + n) b v) : InS p n (b.map (·.drop n)) (v.drop n) := by
  induction i with
  | zero => rw [List.drop_replicate, show n + n - n = n by omega]; exact .zero
  | add f _ hr ih => rw [drop_addR]; exact .add f ih (List.mem_map_of_mem hr)
theorem in_tails {p : Int} {n : Nat} {b : List (List Int)} (h : ∀ r ∈ b, r = zer n ++ r.drop n) (h0 : 0 < p) {v : List Int} (i : InS p n (b.map (·.drop n)) v) : InS p (n + n) b (zer n ++ v) := by
  induction i with
  | zero => rw [zer, rep_add]; exact .zero
  | @add v r f _ hr ih =>
    obtain ⟨s, hs, rfl⟩ := List.mem_map.mp hr
    have e : addR p (zer n ++ v) f s = zer n ++ addR p v f (s.drop n) := by
      conv => lhs; rw [h s hs]
      rw [addR_app (by simp [zer])]
      congr 1
      exact addR_rep h0 (zero_row h0)
    rw [← e]
    exact .add f ih hs
/-- the rows of b whose first half is zero span the vectors of b's span whose first half is zero -/
theorem tails_span {p : Int} {n : Nat} {b : List (List Int)} (h2 : 2 ≤ p) (h : Rref p (n + n) b) {v : List Int} : InS p n ((b.filter fun r => decide (n ≤ lead r)).map (·.drop n)) v ↔ InS p (n + n) b (zer n ++ v) ∧ v.length = n := by
  have h0 : 0 < p := by omega
  have hs : (b.filter fun r => decide (n ≤ lead r)).Sublist b := List.filter_sublist
  have hB := h.sub hs
  have hz : ∀ r ∈ b.filter (fun r => decide (n ≤ lead r)), n ≤ lead r := fun r hr => of_decide_eq_true (List.mem_filter.mp hr).2
  constructor
  · intro i
    have hl := (i.row h0 (tails_rref hB hz).len).1
    exact ⟨(in_tails (fun r hr => split_row (hB.rows r hr).1 (hz r hr)) h0 i).mono fun r hr => hs.subset hr, hl⟩
  · rintro ⟨i, hl⟩
    have hw := i.row h0 h.len
    generalize hF : b.filter (fun r => decide (n ≤ lead r)) = B at hs hB hz ⊢
    have self : ∀ o ∈ B, InS p (n + n) b o := fun o ho => InS.self h2 (hB.rows o ho) (hs.subset ho)
    have k := rest_in h0 h.len B (zer n ++ v) self hw
    have u := zero_of h0 b h _ (k.mpr i) fun r hr => by
      by_cases c : n ≤ lead r
      · exact (hB.rest h0 hw).2 r (by rw [← hF]; exact List.mem_filter.mpr ⟨hr, decide_eq_true c⟩)
      · have : ∀ (l : List (List Int)) (x : List Int), (∀ o ∈ l, o ∈ B) → Row p (n + n) x → at0 x (lead r) = 0 → at0 (restOf p l x) (lead r) = 0 := by
          intro l
          induction l with
          | nil => exact fun x _ _ h => h
          | cons o l ih =>
            intro x hm hx hx0
            have hoB := hm o (.head _)
            refine ih _ (fun q hq => hm q (.tail _ hq)) ?_ ?_
            · show Row p (n + n) (if at0 x (lead o) = 0 then x else addR p x (-at0 x (lead o)) o)
              split
              · exact hx
              · exact addR_row h0 hx.1 (hB.rows o hoB).1
            · show at0 (if at0 x (lead o) = 0 then x else addR p x (-at0 x (lead o)) o) (lead r) = 0
              split
              · exact hx0
              · rw [at0_addR (by rw [hx.1, (hB.rows o hoB).1]), hx0, lead_zero (show lead r < lead o from by have := hz o hoB; omega)]
                simp
        exact this B _ (fun _ h => h) hw (by rw [at0_app_l (by simp [zer]; omega), zer, at0_rep])
    have self' : ∀ o ∈ B, InS p (n + n) B o := fun o ho => InS.self h2 (hB.rows o ho) ho
    have k' := rest_in h0 hB.len B (zer n ++ v) self' hw
    rw [u] at k'
    have z := tails_in (k'.mp .zero)
    rw [show (zer n ++ v).drop n = v by rw [List.drop_append_of_le_length (by simp [zer])]; simp [zer]] at z
    exact z
theorem pairs_of {p : Int} {n : Nat} {one other : List (List Int)} (h0 : 0 < p) (h1 : Len n one) (h2 : Len n other) {w : List Int} (i : InS p (n + n) ((one.map fun r => r ++ r) ++ other.map fun r => r ++ zer n) w) : ∃ a b, InS p n one a ∧ InS p n other b ∧ w = addR p a 1 b ++ a := by
  induction i with
  | zero =>
    refine ⟨zer n, zer n, .zero, .zero, ?_⟩
    rw [zer, addR_rep h0 (zero_row h0), rep_add]
  | @add v r f i hr ih =>
    obtain ⟨a, b, ha, hb, rfl⟩ := ih
    have la := (ha.row h0 h1).1
    have lb := (hb.row h0 h2).1
    have lab : (addR p a 1 b).length = n := addR_len la lb
    rcases List.mem_append.mp hr with hr | hr
    · obtain ⟨s, hs, rfl⟩ := List.mem_map.mp hr
      have ls := h1 s hs
      refine ⟨addR p a f s, b, .add f ha hs, hb, ?_⟩
      rw [addR_app (by rw [lab, ls]), addR_comm la lb ls]
    · obtain ⟨s, hs, rfl⟩ := List.mem_map.mp hr
      have ls := h2 s hs
      refine ⟨a, addR p b f s, ha, .add f hb hs, ?_⟩
      rw [addR_app (by rw [lab, ls]), addR_assoc la lb ls, Int.one_mul, zer, addR_rep h0 (ha.row h0 h1)]
theorem common_ok {p : Int} {inv : Int → Int} (I : Inv p inv) {n : Nat} {one other : List (List Int)} (h1 : Rref p n one) (h2 : Rref p n other) : Rref p n (commonL inv p n one other) ∧ ∀ v, InS p n (commonL inv p n one other) v ↔ InS p n one v ∧ InS p n other v := by
  have hp := I.two
  have h0 : 0 < p := by omega
  have hR : ∀ r ∈ other.map (fun r => r ++ zer n), Row p (n + n) r := fun r hr => by
    obtain ⟨s, hs, rfl⟩ := List.mem_map.mp hr
    exact (h2.rows s hs).app (zero_row h0)
  have hD := fold_ok I (other.map fun r => r ++ zer n) _ (double_rref one h1) hR
  refine ⟨tails_rref (hD.sub List.filter_sublist) fun r hr => of_decide_eq_true (List.mem_filter.mp hr).2, fun v => ?_⟩
  refine (tails_span hp hD).trans ?_
  rw [span_joined I (double_rref one h1) hR]
  constructor
  · rintro ⟨i, hl⟩
    obtain ⟨a, b, ha, hb, e⟩ := pairs_of h0 h1.len h2.len i
    have ra := ha.row h0 h1.len
    have rb := hb.row h0 h2.len
    obtain ⟨e1, e2⟩ := List.append_inj e (by rw [addR_len ra.1 rb.1, zer, List.length_replicate])
    subst e2
    refine ⟨ha, ?_⟩
    have z : scale p (-1) b = v := ext0 (by rw [scale_len, rb.1, ra.1]) fun j hj => by
      have q : at0 (addR p v 1 b) j = 0 := by rw [← e1, zer, at0_rep]
      rw [at0_addR (by rw [ra.1, rb.1])] at q
      rw [at0_scale]
      have b1 := ra.bound h0 j
      have e3 : (at0 v j + at0 b j) % p = 0 := by simpa using q
      have e4 : (-1 * at0 b j) % p = at0 v j % p := by
        have : -1 * at0 b j = at0 v j - (at0 v j + at0 b j) := by omega
        rw [this, Int.sub_emod, e3]
        simp
      rw [e4, ra.emod h0]
    rw [← z]
    exact hb.scale h0 h2.len
  · rintro ⟨ha, hb⟩
    have ra := ha.row h0 h1.len
    have dbl : ∀ {v}, InS p n one v → InS p (n + n) (one.map fun r => r ++ r) (v ++ v) := fun i => by
      induction i with
      | zero => rw [rep_add]; exact .zero
      | add f j hr ih =>
        rw [← addR_app (by rw [(j.row h0 h1.len).1, h1.len _ hr])]
        exact .add f ih (List.mem_map_of_mem hr)
    have lft : ∀ {v}, InS p n other v → InS p (n + n) (other.map fun r => r ++ zer n) (v ++ zer n) := fun i => by
      induction i with
      | zero => rw [zer, rep_add]; exact .zero
      | @add v r f j hr ih =>
        have : addR p v f r ++ zer n = addR p (v ++ zer n) f (r ++ zer n) := by
          rw [addR_app (by rw [(j.row h0 h2.len).1, h2.len _ hr])]
          congr 1
          exact (addR_rep h0 (zero_row h0)).symm
        rw [this]
        exact .add f ih (List.mem_map_of_mem hr)
    have hL : Len (n + n) ((one.map fun r => r ++ r) ++ other.map fun r => r ++ zer n) := fun r hr => (List.mem_append.mp hr).elim (fun h => (double_rref one h1).len r h) fun h => (hR r h).1
    have c := ((dbl ha).mono fun r hr => List.mem_append_left _ hr).comb (f := -1) h0 hL ((lft hb).mono fun r hr => List.mem_append_right _ hr)
    rw [addR_app rfl] at c
    have e1 : addR p v (-1) v = zer n := ext0 (by rw [addR_len ra.1 ra.1, zer, List.length_replicate]) fun j hj => by
      rw [at0_addR rfl, zer, at0_rep]
      have : at0 v j + -1 * at0 v j = 0 := by omega
      rw [this]
      simp
    rw [e1, zer, addR_rep h0 ra] at c
    exact ⟨c, ra.1⟩
/-! ### extensions -/
def extL (one other : List (List Int)) : List (List Int) := other.filter fun r => !decide (lead r ∈ one.map lead)
theorem leads_sub {p : Int} {n : Nat} (h0 : 0 < p) {one other : List (List Int)} (h1 : Rref p n one) (h2 : Rref p n other) (hs : ∀ v, InS p n one v → InS p n other v) (h22 : 2 ≤ p) : ∀ r ∈ one, ∃ s ∈ other, lead r = lead s := fun r hr =>
  lead_in h0 other h2 r (hs r (InS.self h22 (h1.rows r hr) hr)) (h1.ne_zero hr)
theorem filter_split {α : Type} (q : α → Bool) (l : List α) : l.length = (l.filter q).length + (l.filter fun x => !q x).length := by
  induction l with
  | nil => rfl
  | cons x l ih =>
    by_cases h : q x = true
    · simp [h]; omega
    · simp [h]; omega
theorem ext_len {p : Int} {n : Nat} (h2 : 2 ≤ p) {one other : List (List Int)} (h1 : Rref p n one) (h3 : Rref p n other) (hs : ∀ v, InS p n one v → InS p n other v) : (extL one other).length + one.length = other.length := by
  have h0 : 0 < p := by omega
  have k := filter_split (fun r : List Int => decide (lead r ∈ one.map lead)) other
  have e : (other.filter fun r => decide (lead r ∈ one.map lead)).map lead = one.map lead := by
    refine sorted_eq _ _ ?_ ?_ fun x => ?_
    · rw [List.pairwise_map]
      exact h3.inc.sublist List.filter_sublist
    · rw [List.pairwise_map]
      exact h1.inc
    · constructor
      · intro hx
        obtain ⟨r, hr, rfl⟩ := List.mem_map.mp hx
        exact of_decide_eq_true (List.mem_filter.mp hr).2
      · intro hx
        obtain ⟨r, hr, rfl⟩ := List.mem_map.mp hx
        obtain ⟨s, hs', e⟩ := leads_sub h0 h1 h3 hs h2 r hr
        exact List.mem_map.mpr ⟨s, List.mem_filter.mpr ⟨hs', decide_eq_true (by rw [← e]; exact hx)⟩, e.symm⟩
  have e2 := congrArg List.length e
  rw [List.length_map, List.length_map] at e2
  unfold extL
  omega
theorem ext_span {p : Int} {inv : Int → Int} (I : Inv p inv) {n : Nat} {one other : List (List Int)} (h1 : Rref p n one) (h3 : Rref p n other) (hs : ∀ v, InS p n one v → InS p n other v) (v : List Int) : InS p n (one ++ extL one other) v ↔ InS p n other v := by
  have h2 := I.two
  have h0 : 0 < p := by omega
  have hr : ∀ r ∈ one ++ extL one other, Row p n r := fun r h => (List.mem_append.mp h).elim (h1.rows r) fun h => h3.rows r (List.mem_filter.mp h).1
  have hl : Len n (one ++ extL one other) := fun r h => (hr r h).1
  have sub : ∀ r ∈ one ++ extL one other, InS p n other r := fun r h => (List.mem_append.mp h).elim (fun g => hs r (InS.self h2 (h1.rows r g) g)) fun g => InS.self h2 (hr r h) (List.mem_filter.mp g).1
  refine ⟨fun i => i.imp h0 h3.len sub, fun i => ?_⟩
  have hC := reduced_ok I hr
  have sp := reduced_span I hr
  rw [← sp v]
  have rv := i.row h0 h3.len
  have cs : ∀ o ∈ reduced inv p (one ++ extL one other), InS p n other o := fun o ho => ((sp o).mp (InS.self h2 (hC.rows o ho) ho)).imp h0 h3.len sub
  have k := rest_in h0 h3.len (reduced inv p (one ++ extL one other)) v cs rv
  have z := zero_of h0 other h3 _ (k.mpr i) fun r hr' => by
    have : ∃ x ∈ one ++ extL one other, lead r = lead x := by
      by_cases c : lead r ∈ one.map lead
      · obtain ⟨s, hs', e⟩ := List.mem_map.mp c
        exact ⟨s, List.mem_append_left _ hs', e.symm⟩
      · exact ⟨r, List.mem_append_right _ (List.mem_filter.mpr ⟨hr', by simp only [Bool.not_eq_true', decide_eq_false_iff_not]; exact c⟩), rfl⟩
    obtain ⟨x, hx, e⟩ := this
    have xin : InS p n (reduced inv p (one ++ extL one other)) x := (sp x).mpr (InS.self h2 (hr x hx) hx)
    have xne : x ≠ List.replicate n 0 := (List.mem_append.mp hx).elim (fun g => h1.ne_zero g) fun g => h3.ne_zero (List.mem_filter.mp g).1
    obtain ⟨q, hq, e2⟩ := lead_in h0 _ hC x xin xne
    rw [e, e2]
    exact (hC.rest h0 rv).2 q hq
  exact (rest_zero h0 hC rv).mp z
end RX

set_option linter.all false
/-! # spaces told by all their vectors: sums, intersections, one within the other, extensions -/
namespace RX
/-- all vectors of a span, each once -/
structure Told (p : Int) (n : Nat) (b l : List (List Int)) : Prop where
  nd : l.Nodup
  mem : ∀ v, v ∈ l ↔ InS p n b v
def sumL (inv : Int → Int) (p : Int) (b c : List (List Int)) : List (List Int) := reduced inv p (b ++ c)
def leB (p : Int) (n : Nat) (b c : List (List Int)) : Bool := b.all fun r => decide (restOf p c r = zer n)
def bothL (h t : List (List Int)) : List (List Int) := h.filter fun v => decide (v ∈ t)
def joinedL (p : Int) (h t : List (List Int)) : List (List Int) := t.foldl (spanStep p) h
section
variable {p : Int} {inv : Int → Int} {n : Nat} {b c h t : List (List Int)}
theorem Inv.pos (I : Inv p inv) : 0 < p := by have := I.two; omega
theorem Told.count (T : Told p n b h) (I : Inv p inv) (R : Rref p n b) : h.length = p.toNat ^ b.length := span_count I.pos R T.nd T.mem
theorem Told.has (T : Told p n b h) (I : Inv p inv) (R : Rref p n b) : ∀ r ∈ b, r ∈ h := fun r m => (T.mem r).mpr (.self I.two (R.rows r m) m)
theorem Told.rows (T : Told p n b h) (I : Inv p inv) (R : Rref p n b) : ∀ v ∈ h, Row p n v := fun v m => ((T.mem v).mp m).row I.pos R.len
theorem app_rows (R1 : Rref p n b) (R2 : Rref p n c) : ∀ r ∈ b ++ c, Row p n r := fun r m => (List.mem_append.mp m).elim (R1.rows r) (R2.rows r)
theorem sum_rref (I : Inv p inv) (R1 : Rref p n b) (R2 : Rref p n c) : Rref p n (sumL inv p b c) := reduced_ok I (app_rows R1 R2)
theorem sum_span (I : Inv p inv) (R1 : Rref p n b) (R2 : Rref p n c) (v : List Int) : InS p n (sumL inv p b c) v ↔ InS p n (b ++ c) v := reduced_span I (app_rows R1 R2) v
theorem common_rref (I : Inv p inv) (R1 : Rref p n b) (R2 : Rref p n c) : Rref p n (commonL inv p n b c) := (common_ok I R1 R2).1
theorem common_span (I : Inv p inv) (R1 : Rref p n b) (R2 : Rref p n c) (v : List Int) : InS p n (commonL inv p n b c) v ↔ InS p n b v ∧ InS p n c v := (common_ok I R1 R2).2 v
theorem told_span (I : Inv p inv) {rows : List (List Int)} (hr : Len n rows) : Told p n (reduced inv p (rows.map (modR p))) (spanL p n rows) :=
  ⟨(spanL_ok I.two hr).1, (span_told I hr).2.1⟩
theorem told_both (I : Inv p inv) (R1 : Rref p n b) (R2 : Rref p n c) (T1 : Told p n b h) (T2 : Told p n c t) : Told p n (commonL inv p n b c) (bothL h t) :=
  ⟨T1.nd.filter _, fun v => by rw [common_span I R1 R2, bothL, List.mem_filter, decide_eq_true_iff, T1.mem, T2.mem]⟩
theorem modR_id {r : List Int} (h : Row p n r) (h0 : 0 < p) : modR p r = r := by
  refine List.ext_getElem (by simp [modR]) fun i h1 h2 => ?_
  have := h.2 r[i] (List.getElem_mem h2)
  rw [show (modR p r)[i] = r[i] % p by simp [modR]]
  exact Int.emod_eq_of_lt this.1 this.2
theorem told_joined (I : Inv p inv) (R1 : Rref p n b) (R2 : Rref p n c) (T1 : Told p n b h) (T2 : Told p n c t) : Told p n (sumL inv p b c) (joinedL p h t) := by
  have hl : Len n t := fun v m => (T2.rows I R2 v m).1
  obtain ⟨k1, k2⟩ := spanFold_ok (p := p) (n := n) I.two t b h R1.len hl T1.nd T1.mem
  refine ⟨k1, fun v => ?_⟩
  show v ∈ t.foldl (spanStep p) h ↔ _
  rw [k2, sum_span I R1 R2]
  have e : t.map (modR p) = t := by
    rw [List.map_congr_left fun r m => modR_id (T2.rows I R2 r m) I.pos, List.map_id']
  rw [e]
  have lA : Len n (b ++ t) := fun r m => (List.mem_append.mp m).elim (R1.len r) (hl r)
  have lB : Len n (b ++ c) := fun r m => (app_rows R1 R2 r m).1
  refine InS.congr I.pos lA lB (fun r m => ?_) fun r m => ?_
  · rcases List.mem_append.mp m with m | m
    · exact .self I.two (R1.rows r m) (List.mem_append_left _ m)
    · exact ((T2.mem r).mp m).mono fun s q => List.mem_append_right _ q
  · rcases List.mem_append.mp m with m | m
    · exact .self I.two (R1.rows r m) (List.mem_append_left _ m)
    · exact .self I.two (R2.rows r m) (List.mem_append_right _ (T2.has I R2 r m))
theorem both_comm (I : Inv p inv) (R1 : Rref p n b) (R2 : Rref p n c) : commonL inv p n b c = commonL inv p n c b :=
  (common_rref I R1 R2).uniq I.two (common_rref I R2 R1) fun v => by rw [common_span I R1 R2, common_span I R2 R1, and_comm]
theorem app_iff (I : Inv p inv) (R1 : Rref p n b) (R2 : Rref p n c) {d : List (List Int)} (hd : Len n d) : (∀ v, InS p n (b ++ c) v → InS p n d v) ↔ (∀ v, InS p n b v → InS p n d v) ∧ ∀ v, InS p n c v → InS p n d v := by
  refine ⟨fun k => ⟨fun v i => k v (i.mono fun r m => List.mem_append_left _ m), fun v i => k v (i.mono fun r m => List.mem_append_right _ m)⟩, fun ⟨k1, k2⟩ v i => i.imp I.pos hd fun r m => ?_⟩
  rcases List.mem_append.mp m with m | m
  · exact k1 r (.self I.two (R1.rows r m) m)
  · exact k2 r (.self I.two (R2.rows r m) m)
theorem sum_l (I : Inv p inv) (R1 : Rref p n b) (R2 : Rref p n c) {v : List Int} (i : InS p n b v) : InS p n (sumL inv p b c) v := (sum_span I R1 R2 v).mpr (i.mono fun r m => List.mem_append_left _ m)
theorem sum_r (I : Inv p inv) (R1 : Rref p n b) (R2 : Rref p n c) {v : List Int} (i : InS p n c v) : InS p n (sumL inv p b c) v := (sum_span I R1 R2 v).mpr (i.mono fun r m => List.mem_append_right _ m)
theorem sum_le (I : Inv p inv) (R1 : Rref p n b) (R2 : Rref p n c) {d : List (List Int)} (hd : Len n d) (k1 : ∀ v, InS p n b v → InS p n d v) (k2 : ∀ v, InS p n c v → InS p n d v) {v : List Int} (i : InS p n (sumL inv p b c) v) : InS p n d v :=
  (app_iff I R1 R2 hd).mpr ⟨k1, k2⟩ v ((sum_span I R1 R2 v).mp i)
theorem sum_comm (I : Inv p inv) (R1 : Rref p n b) (R2 : Rref p n c) : sumL inv p b c = sumL inv p c b :=
  (sum_rref I R1 R2).uniq I.two (sum_rref I R2 R1) fun v =>
    ⟨sum_le I R1 R2 (sum_rref I R2 R1).len (fun _ => sum_r I R2 R1) (fun _ => sum_l I R2 R1), sum_le I R2 R1 (sum_rref I R1 R2).len (fun _ => sum_r I R1 R2) (fun _ => sum_l I R1 R2)⟩
theorem both_self (I : Inv p inv) (R1 : Rref p n b) : commonL inv p n b b = b := (common_rref I R1 R1).uniq I.two R1 fun v => by rw [common_span I R1 R1, and_self]
theorem sum_self (I : Inv p inv) (R1 : Rref p n b) : sumL inv p b b = b := (sum_rref I R1 R1).uniq I.two R1 fun v => ⟨sum_le I R1 R1 R1.len (fun _ i => i) (fun _ i => i), sum_l I R1 R1⟩
theorem both_sum (I : Inv p inv) (R1 : Rref p n b) (R2 : Rref p n c) : commonL inv p n b (sumL inv p b c) = b :=
  (common_rref I R1 (sum_rref I R1 R2)).uniq I.two R1 fun v => by
    rw [common_span I R1 (sum_rref I R1 R2)]
    exact ⟨fun k => k.1, fun i => ⟨i, sum_l I R1 R2 i⟩⟩
theorem sum_both (I : Inv p inv) (R1 : Rref p n b) (R2 : Rref p n c) : sumL inv p b (commonL inv p n b c) = b :=
  (sum_rref I R1 (common_rref I R1 R2)).uniq I.two R1 fun v =>
    ⟨sum_le I R1 (common_rref I R1 R2) R1.len (fun _ i => i) (fun v i => ((common_span I R1 R2 v).mp i).1), sum_l I R1 (common_rref I R1 R2)⟩
theorem leB_iff (I : Inv p inv) (R1 : Rref p n b) (R2 : Rref p n c) : leB p n b c = true ↔ ∀ v, InS p n b v → InS p n c v := by
  rw [leB, List.all_eq_true]
  constructor
  · intro k v i
    exact i.imp I.pos R2.len fun r m => (rest_zero I.pos R2 (R1.rows r m)).mp (of_decide_eq_true (k r m))
  · intro k r m
    exact decide_eq_true ((rest_zero I.pos R2 (R1.rows r m)).mpr (k r (.self I.two (R1.rows r m) m)))
theorem le_len (I : Inv p inv) (R1 : Rref p n b) (R2 : Rref p n c) (T1 : Told p n b h) (T2 : Told p n c t) : leB p n b c = decide ((bothL h t).length = h.length) := by
  rw [Bool.eq_iff_iff, leB_iff I R1 R2, decide_eq_true_iff]
  rw [bothL, List.length_filter_eq_length_iff]
  exact ⟨fun k v m => decide_eq_true ((T2.mem v).mpr (k v ((T1.mem v).mp m))), fun k v i => (T2.mem v).mp (of_decide_eq_true (k v ((T1.mem v).mpr i)))⟩
theorem bothL_comm (T1 : Told p n b h) (T2 : Told p n c t) : (bothL h t).length = (bothL t h).length :=
  nodup_len (T1.nd.filter _) (T2.nd.filter _) fun v => by
    rw [bothL, bothL, List.mem_filter, List.mem_filter, decide_eq_true_iff, decide_eq_true_iff, and_comm]
theorem le_len' (I : Inv p inv) (R1 : Rref p n b) (R2 : Rref p n c) (T1 : Told p n b h) (T2 : Told p n c t) : leB p n c b = decide ((bothL h t).length = t.length) := by
  rw [bothL_comm T1 T2]
  exact le_len I R2 R1 T2 T1
theorem eq_len (I : Inv p inv) (R1 : Rref p n b) (R2 : Rref p n c) (T1 : Told p n b h) (T2 : Told p n c t) : decide (b = c) = (decide ((bothL h t).length = h.length) && decide ((bothL h t).length = t.length)) := by
  rw [← le_len I R1 R2 T1 T2, ← le_len' I R1 R2 T1 T2, Bool.eq_iff_iff, Bool.and_eq_true, leB_iff I R1 R2, leB_iff I R2 R1, decide_eq_true_iff]
  exact ⟨fun e => by subst e; exact ⟨fun _ i => i, fun _ i => i⟩, fun ⟨k1, k2⟩ => R1.uniq I.two R2 fun v => ⟨k1 v, k2 v⟩⟩
theorem both_le (I : Inv p inv) (R1 : Rref p n b) (R2 : Rref p n c) : leB p n (commonL inv p n b c) b = true :=
  (leB_iff I (common_rref I R1 R2) R1).mpr fun v i => ((common_span I R1 R2 v).mp i).1
/-- what the told vectors fill up -/
theorem ext_told (I : Inv p inv) (R1 : Rref p n b) (R2 : Rref p n c) (k : leB p n b c = true) (T2 : Told p n c t) : (extL b c).length + b.length = c.length ∧ (spanL p n (b ++ extL b c)).length = t.length ∧ ∀ v ∈ spanL p n (b ++ extL b c), v ∈ t := by
  have hs := (leB_iff I R1 R2).mp k
  have hr : ∀ r ∈ b ++ extL b c, Row p n r := fun r m => (List.mem_append.mp m).elim (R1.rows r) fun m => R2.rows r (List.mem_filter.mp m).1
  have hl : Len n (b ++ extL b c) := fun r m => (hr r m).1
  obtain ⟨k1, k2⟩ := spanL_ok (p := p) (n := n) I.two hl
  have e : (b ++ extL b c).map (modR p) = b ++ extL b c := by rw [List.map_congr_left fun r m => modR_id (hr r m) I.pos, List.map_id']
  rw [e] at k2
  have k3 : ∀ v, v ∈ spanL p n (b ++ extL b c) ↔ v ∈ t := fun v => by rw [k2, T2.mem, ext_span I R1 R2 hs v]
  exact ⟨ext_len I.two R1 R2 hs, nodup_len k1 T2.nd k3, fun v m => (k3 v).mp m⟩
end
end RX

set_option Elab.async false
set_option linter.all false
set_option maxRecDepth 100000
set_option maxHeartbeats 4000000
/-! # operators by own methods, within a try -/
namespace VX
open PySem PySem.Spec PyProof.Rows L2
/-- an operator whose promise knows the slots -/
def OpS (X : Cx) (f : Value → Value → Sem Value) (r : L2.St → R2) : Prop :=
  ∀ (pins : List (Addr × Obj)) (s : Shared) (σ : L2.St) (H : Hp) (x y : V) (v u : Value) (Q : VK), Inv X pins σ H s → RelV x v → RelV y u → r σ x y H Q →
    wpAny (model X.prog X.w) X.A (f v u) (EP X pins σ Q) X.xe s
def tOpS (r : L2.St → R2) (ta tb : TE) : TE := fun σ H Q => ta σ H fun x H1 => tb σ H1 fun y H2 => r σ x y H2 Q
section
variable {X : Cx} {a b : Expr} {pos : Pos} {ta tb : TE} {r : L2.St → R2}
theorem pe_opS {op : Operator} (ho : OpS X (binaryOp op) r) (ha : PE X a ta) (hb : PE X b tb) : PE X (.BinOp a op b pos) (tOpS r ta tb) :=
  ⟨fun pins s σ H Q I h => wpAny_BinOp (binT ha hb I h fun v u s2 x y H2 I2 rx ry q => ho pins s2 σ H2 x y v u Q I2 rx ry q)⟩
theorem pe_cmpS {op : CmpOp} (ho : OpS X (compareOp op) r) (ha : PE X a ta) (hb : PE X b tb) (hm : behindInMarks op b = false) : PE X (.Compare a [op] [b] pos) (tOpS r ta tb) :=
  ⟨fun pins s σ H Q I h => wpAny_Compare1 (binT ha hb I h fun v u s2 x y H2 I2 rx ry q => ho pins s2 σ H2 x y v u Q I2 rx ry q) hm⟩
theorem cmp_back {A : Around} {pins : List (Addr × Obj)} {σ : L2.St} {Q : VK} {f : Addr} {us : List Value} {s : Shared} {xe : Value → Shared → Prop} (h : wpAny (model X.prog X.w) A (call (.ref f) us) (EP X pins σ Q) xe s) :
    wpAny (model X.prog X.w) A (call (.ref f) us) (PySem.W.CmpBack (EP X pins σ Q)) xe s := by
  refine wpAny_mono h (fun w s' z => ?_) fun _ _ e => e
  obtain ⟨v, H1, I1, rv, q⟩ := z
  show PySem.W.CmpBack _ w s'
  cases w with
  | notImplemented => cases v <;> first | (cases rv; done) | (obtain ⟨_, z⟩ := rv; cases z)
  | _ => exact ⟨v, H1, I1, rv, q⟩
theorem op_ownBS {CX : CXT} {C f : Addr} {fd : FuncData} {ps : List Str} {n : Nat} {sp : Sp} {E : L2.St → XK} {op : Operator} (F : FnOk X.prog X.w X.K X.mg X.base CX n f fd ps sp) (hb : Binds X.K fd ps []) (hc : PySem.W.selfFirst X.K C = true)
    (hs : PySem.W.findIn X.K (.ref C) (PySem.dunder op.info.2) = some (some (.ref f))) (hf : PySem.W.isFn X.K (.ref f) = true) (hx : ∀ σ, PassesAt CX X σ (E σ)) (hr : Room n X.A) : OpS X (binaryOp op) (fun σ => rOwnB C sp (E σ)) := by
  intro pins s σ H x y v u Q I rx ry hq
  obtain ⟨a, b, dx, dy, fs, gs, rfl, rfl, ha, hb', h⟩ := hq
  cases rx
  cases ry
  obtain ⟨mA, J, _⟩ := ins_get I.hok ha
  obtain ⟨mB, J', _⟩ := ins_get I.hok hb'
  obtain ⟨od, J, _⟩ := J.look
  obtain ⟨od', J', _⟩ := J'.look
  obtain ⟨m, hF⟩ := I.fr
  refine PySem.W.binop_K (op := op) hF I.ok.mod.kin J J'.type hc hs hf ?_
  have r2 : Vals [V.ref a, V.ref b] [Value.ref a, Value.ref b] := .cons rfl (.cons rfl .nil)
  exact cmp_back (run_fnS F hr hb (hx σ) I r2 h)
theorem op_ownCS {CX : CXT} {C C' f : Addr} {fd : FuncData} {ps : List Str} {n : Nat} {sp : Sp} {E : L2.St → XK} (op : CmpOp) (F : FnOk X.prog X.w X.K X.mg X.base CX n f fd ps sp) (hb : Binds X.K fd ps []) (hn : PySem.W.notFirst X.K C (.ref C') = true)
    (hs : PySem.W.findIn X.K (.ref C) (cmpInfo op).2.1 = some (some (.ref f))) (hf : PySem.W.isFn X.K (.ref f) = true) (hx : ∀ σ, PassesAt CX X σ (E σ)) (hr : Room n X.A) (ho : compareOp op = richCompare op := by rfl) : OpS X (compareOp op) (fun σ => rOwnC C C' sp (E σ)) := by
  intro pins s σ H x y v u Q I rx ry hq
  obtain ⟨a, b, dx, dy, fs, gs, rfl, rfl, ha, hb', h⟩ := hq
  cases rx
  cases ry
  obtain ⟨mA, J, _⟩ := ins_get I.hok ha
  obtain ⟨mB, J', _⟩ := ins_get I.hok hb'
  obtain ⟨od, J, _⟩ := J.look
  obtain ⟨od', J', _⟩ := J'.look
  obtain ⟨m, hF⟩ := I.fr
  rw [ho]
  refine PySem.W.cmp_K (op := op) hr.units0 hF I.ok.mod.kin J J'.type hn hs hf ?_
  have r2 : Vals [V.ref a, V.ref b] [Value.ref a, Value.ref b] := .cons rfl (.cons rfl .nil)
  exact cmp_back (run_fnS F hr hb (hx σ) I r2 h)
/-- f(g = u, h = v) in a try -/
theorem pe_kcall2S {X : Cx} {CX : CXT} {x g h a b : Str} {f : Addr} {k : Nat} {fd : FuncData} {sp : Sp} {E : L2.St → XK} {p k1 k2 pos : Pos} {e1 e2 : Expr} {tk : TA} (o : Bool) (F : FnOk X.prog X.w X.K X.mg X.base CX k f fd [g, h] sp) (hr : Room k X.A) (hg : Gl X x) (hm : X.mg x = some (.ref f)) (hk : PySem.W.keepIn X.K (.ref f) = true)
    (hb : ∀ (s : Shared) (u v : Value), BindsTo s fd ⟨[], [(a, u), (b, v)]⟩ (if o = true then [(g, u), (h, v)] else [(g, v), (h, u)])) (hx : ∀ σ, PassesAt CX X σ (E σ)) (ha : PK X [⟨some a, e1, k1⟩, ⟨some b, e2, k2⟩] tk) (hdb : (x == ("__debug__" : Str)) = false := by decide)
    (hpl : ((backTo pos (starEach [] X.env)).any (·.1) || (backToKw pos (keywordEach [⟨some a, e1, k1⟩, ⟨some b, e2, k2⟩] X.env)).any (·.1.isNone)) = false := by rfl)
    (hall : (backToKw pos (keywordEach [⟨some a, e1, k1⟩, ⟨some b, e2, k2⟩] X.env)).all (·.1.isSome) = true := by rfl) (hks : (backToKw pos (keywordEach [⟨some a, e1, k1⟩, ⟨some b, e2, k2⟩] X.env)).filterMap (·.1) = [a, b] := by rfl) :
    PE X (.Call (.Name x p) [] [⟨some a, e1, k1⟩, ⟨some b, e2, k2⟩] pos) (fun σ H Q => tk σ H fun zs H1 => ∃ z1 z2, zs = [z1, z2] ∧ sp (if o = true then [z1, z2] else [z2, z1]) H1 Q (E σ)) := by
  refine ⟨fun pins s σ H Q I q0 => wpAny_Call_Name_kw (ld_glob I hg hm ?_ hdb)⟩
  refine PySem.W.callWith_KW0 (h₀ := X.base) I.ok.mod.kin hk hall ?_ hpl
  refine thn (ha.run pos pins s σ H _ I q0) fun ws s1 ⟨zs, H1, I1, rz, z1, z2, ez, q⟩ => ⟨I1.kIn, ?_⟩
  subst ez
  rw [hks]
  obtain ⟨u1, u2, rfl, r1, r2⟩ := vals2 rz
  show wpAny _ _ (call (.ref f) [] [(a, u1), (b, u2)]) _ _ _
  cases o with
  | true =>
    refine wpAny_call (codeAny_mono (F.run X.A X.stack s1 H1 ⟨[], [(a, u1), (b, u2)]⟩ [u1, u2] [z1, z2] Q (E σ) hr I1.env0 (hb s1 u1 u2) (.cons r1 (.cons r2 .nil)) q) fun r s' hq => ?_)
    match r, hq with
    | .ok (.ret u), hq => exact I1.after hq
    | .error er, hq => exact hx σ pins H1 s1 er s' I1 hq
  | false =>
    refine wpAny_call (codeAny_mono (F.run X.A X.stack s1 H1 ⟨[], [(a, u1), (b, u2)]⟩ [u2, u1] [z2, z1] Q (E σ) hr I1.env0 (hb s1 u1 u2) (.cons r2 (.cons r1 .nil)) q) fun r s' hq => ?_)
    match r, hq with
    | .ok (.ret u), hq => exact I1.after hq
    | .error er, hq => exact hx σ pins H1 s1 er s' I1 hq
end
end VX

set_option Elab.async false
set_option linter.all false
set_option maxRecDepth 100000
set_option maxHeartbeats 4000000
/-! several except clauses, some «as n», one name -/
namespace VX
open PySem PySem.Spec PyProof.Rows L2
/-- what the clauses wish of an exception of the body, from the first on; the name in slot i is empty behind a suite -/
def wMixed (K : PySem.W.Frag) (i : Nat) (Wout : WX) (D : Ends) : List (Bool × Value × (Addr → Value → Option Addr → TS)) → WX
  | [] => Wout
  | (m, c, ts) :: r => fun cls d σ H => ∃ b, PySem.W.exmOne K cls c = some b ∧ (b = true → ∀ a, H a = none →
      if m = true then ts a cls d { nx := fun σ' H' => D.nx (σ'.set i none) H', rt := D.rt, bk := fun σ' H' => D.bk (σ'.set i none) H', ct := fun σ' H' => D.ct (σ'.set i none) H' } (σ.set i (some (.ref a))) H else ts a cls d D σ H) ∧ (b = false → wMixed K i Wout D r cls d σ H)
inductive ClausesM (X : Cx) (n : Str) : List ExceptHandler → List (Bool × Value × (Addr → Value → Option Addr → TS)) → Prop
  | nil : ClausesM X n [] []
  | cons {x : Str} {c : Value} {ts : Addr → Value → Option Addr → TS} {b₀ : Stmt} {su : List Stmt} {p1 p2 : Pos} {hs : List ExceptHandler} {l : List (Bool × Value × (Addr → Value → Option Addr → TS))} (hc : Names X x c)
      (hsu : ∀ (a : Addr) (oe : Obj) (cls : Value) (d : Option Addr) (pn : List (Addr × Obj)), Zc cls d oe → (∃ vs, oe.data = .fields vs) → PSs (X.suite a ((a, oe) :: pn)) (b₀ :: su) (ts a cls d)) (r : ClausesM X n hs l) :
      ClausesM X n (.ExceptHandler (some (.Name x p1)) (some n) (b₀ :: su) p2 :: hs) ((true, c, ts) :: l)
  | bare {x : Str} {c : Value} {ts : Addr → Value → Option Addr → TS} {b₀ : Stmt} {su : List Stmt} {p1 p2 : Pos} {hs : List ExceptHandler} {l : List (Bool × Value × (Addr → Value → Option Addr → TS))} (hc : Names X x c)
      (hsu : ∀ (a : Addr) (oe : Obj) (cls : Value) (d : Option Addr) (pn : List (Addr × Obj)), Zc cls d oe → (∃ vs, oe.data = .fields vs) → PSs (X.suite a ((a, oe) :: pn)) (b₀ :: su) (ts a cls d)) (r : ClausesM X n hs l) :
      ClausesM X n (.ExceptHandler (some (.Name x p1)) none (b₀ :: su) p2 :: hs) ((false, c, ts) :: l)
theorem ps_try_mixed {X : Cx} {n : Str} {i : Nat} {body : List Stmt} {h₀ : ExceptHandler} {hds : List ExceptHandler} {l : List (Bool × Value × (Addr → Value → Option Addr → TS))} {pos : Pos} {tb : WX → TS} {Wout : WX}
    (hs : X.stack = X.env :: X.outer) (hf : X.env.frame = some X.env.locals) (hN : X.N.Nodup) (hi : X.N[i]? = some n) (hln : X.env.kindOf n = some .local) (tk : Takes X Wout)
    (hb : ∀ (W : WX) (pn : List (Addr × Obj)) (xe : Value → Shared → Prop), Takes (X.tr pn xe) W → PassesOwn (model X.prog X.w) X.A X.env xe → PSs (X.tr pn xe) body (tb W)) (hh : ClausesM X n (h₀ :: hds) l) :
    PS X (.Try body (h₀ :: hds) [] [] pos) (fun D σ H => tb (wMixed X.K i Wout D l) D σ H) := by
  refine ⟨fun pins s σ H D I h => wpAny_Try_except ?_⟩
  have ok := I.ok
  have fr : X.A.frames = some (X.env :: X.outer) := by rw [ok.frames, hs]
  have lc : Loc X.env.scope n := .inl hln
  refine wpAny_mono ((hb (wMixed X.K i Wout D l) (X.pn ++ pins) (fun e t1 => wpAny (model X.prog X.w) X.A (noteFrame e X.env) (fun _ t2 => wpAny (model X.prog X.w) X.A (setFlight e none) (fun _ t3 =>
    wpAny (model X.prog X.w) X.A (handleBy e X.env (h₀ :: hds)) (SP X pins D) X.xe t3) X.xe t2) X.xe t1) (fun u s' xx => ?caught) PassesOwn.looking).run [] s σ H D (I.toTry _) h) (fun f s1 q => ?through) (fun _ _ z => z)
  case through =>
    cases f with
    | next => obtain ⟨σ', H', J, q⟩ := q; exact wpAny_execs_nil ⟨σ', H', J.ofTry ok, q⟩
    | brk => obtain ⟨σ', H', J, q⟩ := q; exact ⟨σ', H', J.ofTry ok, q⟩
    | cont => obtain ⟨σ', H', J, q⟩ := q; exact ⟨σ', H', J.ofTry ok, q⟩
    | ret u => obtain ⟨v, σ', H', J, r, q⟩ := q; exact ⟨v, σ', H', J.ofTry ok, r, q⟩
  case caught =>
    obtain ⟨a, B, sI, ps', σ', H', cls, d, rfl, J', nb, up, sky, na, os, ag, w⟩ := xx
    have J : L2.Inv X pins σ' H' sI := J'.ofTry ok
    have sk : Sky B (X.env :: X.outer) a (Zc cls d) X.env.locals s'.heap := by rw [← hs]; exact sky
    show wpAny (model X.prog X.w) X.A (noteFrame (.ref a) X.env) _ _ _
    refine Sky.land Zc.steady fr hf sk fun h3 fl3 up3 => ?_
    have J3 : L2.Inv X pins σ' H' { s' with heap := h3 } := J.landed nb fl3.1 (up.trans up3) os ag
    obtain ⟨oe, vs, he, hz, hd⟩ := fl3.there
    have nfr : a ∉ frs (X.env :: X.outer) := fun hm => by
      obtain ⟨_, o', e', hnf⟩ := fl3.2.2.1.mem hm
      rw [he] at e'
      cases e'
      exact hnf _ hd
    have nL : a ≠ X.env.locals := fun z => nfr (List.mem_filterMap.mpr ⟨X.env, .head _, by rw [hf, z]⟩)
    have nF : a ∉ X.fs := fun hm => by
      obtain ⟨e, m, q⟩ := List.mem_filterMap.mp hm
      exact nfr (List.mem_filterMap.mpr ⟨e, .tail _ m, q⟩)
    have S3 := J3.suite he hd na nL nF
    have go : ∀ {hs' : List ExceptHandler} {l' : List (Bool × Value × (Addr → Value → Option Addr → TS))}, ClausesM X n hs' l' → wMixed X.K i Wout D l' cls d σ' H' → wpAny (model X.prog X.w) X.A (handleBy (.ref a) X.env hs') (SP X pins D) X.xe { s' with heap := h3 } := by
      intro hs' l' hk
      induction hk with
      | nil =>
        intro w
        refine wpAny_handleBy_nil ?_
        obtain ⟨_, _, _, oe1, vs1, T, oT, ts1, he1, hz1, hd1, h1, _⟩ := id fl3
        unfold PySem.passOn
        refine wpAny_bind (wpAny_field he1 hd1 h1 ?_)
        rw [if_neg (show ¬ ((Value.ref T == Value.none) = true) by simp)]
        have fin : wpAny (model X.prog X.w) X.A (setFlight (.ref a) X.env.frame) (fun _ s4 => wpAny (model X.prog X.w) X.A (throw (.ref a) : Sem Flow) (SP X pins D) X.xe s4) X.xe { s' with heap := h3 } := by
          rw [hf]
          exact HandSPX.setFlight_upZ fl3 fun h4 hh4 up4 => wpAny_throw (tk _ _ ⟨a, B, sI, pins, σ', H', cls, d, rfl, J, nb, (up.trans up3).trans up4, .inr (.inr (by rw [hs]; exact hh4)), na, os, ag, w⟩)
        first | exact wpAny_bind (wpAny_pure (wpAny_bind fin)) | exact wpAny_bind fin
      | @cons x c ts b₀ su p1 p2 hs2 l2 hc hsu r ih =>
        rintro ⟨b, hb1, hy, hno⟩
        refine wpAny_handleBy_cons (codeAny_handlers_test ?_) (by intro q; cases q)
        have ty : PySem.W.Looks (model X.prog X.w) h3 (typeOf (.ref a)) cls := fun A Q E t k q => wpAny_typeOf_ref (k _ _ he) (by rw [hz.1]; exact q)
        have lk := PySem.W.exm_one (M := model X.prog X.w) (J3.kIn) ty hb1
        have asked : ∀ {Q E : Value → Shared → Prop}, Q c { s' with heap := h3 } → wpAny (model X.prog X.w) (X.A.mark (some (.ref a))) (eval (.Name x p1) X.env) Q E { s' with heap := h3 } := by
          intro Q E q
          obtain ⟨hg, hdb, hm | ⟨hm, hv, hn⟩⟩ := hc
          · exact ld_glob (X := X.suite a ((a, oe) :: (X.pn ++ pins))) S3 hg hm q hdb
          · exact ld_blt (X := X.suite a ((a, oe) :: (X.pn ++ pins))) S3 hg hm hv q hn hdb
        refine asked (lk.here ?_)
        cases b with
        | false => exact ih (hno rfl)
        | true =>
          refine codeAny_handlers_suite_as (HandSPX.lands_againZ fl3 fun h4 fl4 up4 => ?_)
          have J4 : L2.Inv X pins σ' H' { s' with heap := h4 } := J.landed nb fl4.1 ((up.trans up3).trans up4) os ag
          obtain ⟨oe4, vs4, he4, hz4, hd4⟩ := fl4.there
          refine store_ok (X := X.suite a ((a, oe4) :: (X.pn ++ pins))) (v := .ref a) (J4.suite he4 hd4 na nL nF) hN hi lc rfl (fun s5 S5 => ?_) (.inr hln)
          refine wpAny_mono ((hsu a oe4 cls d (X.pn ++ pins) hz4 ⟨_, hd4⟩).run [] s5 _ H' _ S5 (hy rfl a na)) (fun f s6 q => ?_) (fun _ _ z => False.elim z)
          have over : ∀ {σ6 : L2.St} {H6 : Hp} {Q : Shared → Prop}, L2.Inv (X.suite a ((a, oe4) :: (X.pn ++ pins))) [] σ6 H6 s6 → (∀ s7, L2.Inv X pins (σ6.set i none) H6 s7 → Q s7) →
              wpAny (model X.prog X.w) X.A (do bindName X.env n .none; unbindBehindTheSuite X.env n p2) (fun _ s7 => Q s7) X.xe s6 := fun S6 hq => gone_ok (S6.unsuite ok) hN hi hln hq
          cases f with
          | next => obtain ⟨σ6, H6, S6, q6⟩ := q; exact over S6 fun s7 J7 => ⟨_, _, J7, q6⟩
          | brk => obtain ⟨σ6, H6, S6, q6⟩ := q; exact over S6 fun s7 J7 => ⟨_, _, J7, q6⟩
          | cont => obtain ⟨σ6, H6, S6, q6⟩ := q; exact over S6 fun s7 J7 => ⟨_, _, J7, q6⟩
          | ret u => obtain ⟨v6, σ6, H6, S6, r6, q6⟩ := q; exact over S6 fun s7 J7 => ⟨_, _, _, J7, r6, q6⟩
      | @bare x c ts b₀ su p1 p2 hs2 l2 hc hsu r ih =>
        rintro ⟨b, hb1, hy, hno⟩
        refine wpAny_handleBy_cons (codeAny_handlers_test ?_) (by intro q; cases q)
        have ty : PySem.W.Looks (model X.prog X.w) h3 (typeOf (.ref a)) cls := fun A Q E t k q => wpAny_typeOf_ref (k _ _ he) (by rw [hz.1]; exact q)
        have lk := PySem.W.exm_one (M := model X.prog X.w) (J3.kIn) ty hb1
        have asked : ∀ {Q E : Value → Shared → Prop}, Q c { s' with heap := h3 } → wpAny (model X.prog X.w) (X.A.mark (some (.ref a))) (eval (.Name x p1) X.env) Q E { s' with heap := h3 } := by
          intro Q E q
          obtain ⟨hg, hdb, hm | ⟨hm, hv, hn⟩⟩ := hc
          · exact ld_glob (X := X.suite a ((a, oe) :: (X.pn ++ pins))) S3 hg hm q hdb
          · exact ld_blt (X := X.suite a ((a, oe) :: (X.pn ++ pins))) S3 hg hm hv q hn hdb
        refine asked (lk.here ?_)
        cases b with
        | false => exact ih (hno rfl)
        | true =>
          refine codeAny_handlers_suite (HandSPX.lands_againZ fl3 fun h4 fl4 up4 => ?_)
          have J4 : L2.Inv X pins σ' H' { s' with heap := h4 } := J.landed nb fl4.1 ((up.trans up3).trans up4) os ag
          obtain ⟨oe4, vs4, he4, hz4, hd4⟩ := fl4.there
          refine wpAny_mono ((hsu a oe4 cls d (X.pn ++ pins) hz4 ⟨_, hd4⟩).run [] _ _ H' _ (J4.suite he4 hd4 na nL nF) (hy rfl a na)) (fun f s6 q => ?_) (fun _ _ z => False.elim z)
          cases f with
          | next => obtain ⟨σ6, H6, S6, q6⟩ := q; exact ⟨_, _, S6.unsuite ok, q6⟩
          | brk => obtain ⟨σ6, H6, S6, q6⟩ := q; exact ⟨_, _, S6.unsuite ok, q6⟩
          | cont => obtain ⟨σ6, H6, S6, q6⟩ := q; exact ⟨_, _, S6.unsuite ok, q6⟩
          | ret u => obtain ⟨v6, σ6, H6, S6, r6, q6⟩ := q; exact ⟨_, _, _, S6.unsuite ok, r6, q6⟩
    exact go hh w
end VX

set_option Elab.async false
set_option linter.all false
set_option maxRecDepth 100000
set_option maxHeartbeats 4000000
/-! # == and != of lists of own objects, either way; own x[k]; C(..) in a try; C(*y); a list value in a tuple of texts -/
namespace GB
open PySem PySem.SeqAt GQ MeetsSeq MeetsSeq2 MeetsSeq3 SeqRoads2
open AutoSeq1 (wpAny_loadPart')
section
variable {prog : Program} {w : World} {A : Around} {R : Result → Shared → Prop}
/-- at each turn the two lists are read anew: N items each, the i-th two as e says -/
def ListB (prog : Program) (w : World) (A : Around) (E : Value → Shared → Prop) (l b : Addr) (N : Nat) (e : Nat → Bool) (I : Shared → Prop) : Prop :=
  ∀ i s, I s → ∃ (items items2 : Array Value) (n n2 : Nat), s.heap.get? l = some { cls := .type "list", data := .seq items n } ∧ s.heap.get? b = some { cls := .type "list", data := .seq items2 n2 } ∧ items.size = N ∧ items2.size = N ∧
    ∀ (h1 : i < items.size) (h2 : i < items2.size), wpAny (model prog w) A.in1 (eqBool items[i] items2[i]) (fun r s' => r = e i ∧ I s') E s
theorem eq_loopB (l b : Addr) (N : Nat) (e : Nat → Bool) (I : Shared → Prop) (hl : ListB prog w A (fun e s' => R (.error e) s') l b N e I)
    (fin : ∀ s, I s → R (.ok (.ret (.bool (((List.range N).all e))))) s) (k : Nat) :
    ∀ i : Nat, N - i = k → i ≤ N → ((List.range N).drop i).all e = (List.range N).all e → ∀ s, I s →
      wpAny (model prog w) A.in1 (Builtin.«list.__eq__.loop» ⟨[.ref l, .ref b, rawInt i, rawInt 2], []⟩) (FinOf prog w A R) (fun e s' => R (.error e) s') s := by
  induction k with
  | zero =>
    intro i hk hi ha s h
    obtain ⟨items, items2, n, n2, hl1, hb1, hs1, hs2, _⟩ := hl i s h
    have hi' : i = N := by omega
    have hR := fin s h
    rw [← ha, hi', List.drop_of_length_le (by simp), List.all_nil] at hR
    obtain ⟨hp, g, d, tk, os⟩ := s
    wp_walk using wpAny_loadPart' hl1, wpAny_loadPart' hb1
    have hi1 : items[((i : Nat) : Int).toNat]? = none := by simp; omega
    have hi2 : items2[((i : Nat) : Int).toNat]? = none := by simp; omega
    rw [hi1, hi2]
    wp_walk using wpAny_loadPart' hl1, wpAny_loadPart' hb1
    show R (.ok (.ret (.bool (items.size == items2.size)))) _
    rw [hs1, hs2]
    simpa using hR
  | succ k ih =>
    intro i hk hi ha s h
    obtain ⟨items, items2, n, n2, hl1, hb1, hs1, hs2, turn⟩ := hl i s h
    have hlt : i < items.size := by omega
    have hlt2 : i < items2.size := by omega
    have ht := turn hlt hlt2
    obtain ⟨hp, g, d, tk, os⟩ := s
    wp_walk using wpAny_loadPart' hl1, wpAny_loadPart' hb1
    have hi1 : items[((i : Nat) : Int).toNat]? = some items[i] := by simp [hlt]
    have hi2 : items2[((i : Nat) : Int).toNat]? = some items2[i] := by simp [hlt2]
    have hc : ((i : Int) + 1) = ((i + 1 : Nat) : Int) := by omega
    rw [hi1, hi2]
    refine wpAny_bind (wpAny_mono ht (fun r s2 h2 => ?_) fun _ _ x => x)
    obtain ⟨hr, h2⟩ := h2
    subst hr
    have hiN : i < N := by omega
    have hd : (List.range N).drop i = i :: (List.range N).drop (i + 1) := by simp [List.drop_eq_getElem_cons, hiN]
    rw [hd, List.all_cons] at ha
    cases hy : e i with
    | true =>
      rw [hy, Bool.true_and] at ha
      have hrec := ih (i + 1) (by omega) (by omega) ha s2 h2
      obtain ⟨hp2, g2, d2, tk2, os2⟩ := s2
      wp_walk
      rw [hc]
      exact ⟨plainId_quiet plain_eq_loop _, codeAny_builtin entry_eq_loop (by
        rw [Around.under_plainId plain_eq_loop _]
        exact hrec)⟩
    | false =>
      rw [hy, Bool.false_and] at ha
      have hR := fin s2 h2
      rw [← ha] at hR
      obtain ⟨items', items2', n', n2', hl2, hb2, hs1', hs2', _⟩ := hl i s2 h2
      have hi1' : items'[((i : Nat) : Int).toNat]? = some (items'[i]'(by omega)) := by
        rw [Int.toNat_natCast]
        exact Array.getElem?_eq_getElem _
      have hi2' : items2'[((i : Nat) : Int).toNat]? = some (items2'[i]'(by omega)) := by
        rw [Int.toNat_natCast]
        exact Array.getElem?_eq_getElem _
      obtain ⟨hp2, g2, d2, tk2, os2⟩ := s2
      wp_walk using wpAny_loadPart' hl2, wpAny_loadPart' hb2
      rw [hi1', hi2']
      wp_walk using wpAny_loadPart' hl2, wpAny_loadPart' hb2
      first | exact hR | exact ⟨_, rfl, hR⟩ | simpa using hR
theorem list_eqB (l b : Addr) (N : Nat) (e : Nat → Bool) (I : Shared → Prop) (hl : ListB prog w A (fun e s' => R (.error e) s') l b N e I)
    (fin : ∀ s, I s → R (.ok (.ret (.bool (((List.range N).all e))))) s) {s : Shared} (h : I s) :
    wpAny (model prog w) A.in1 (Builtin.«list.__eq__» ⟨[.ref l, .ref b], []⟩) (FinOf prog w A R) (fun e s' => R (.error e) s') s := by
  obtain ⟨items, items2, n, n2, hl1, hb1, hs1, hs2, _⟩ := hl 0 s h
  have hrec := eq_loopB (A := A) (R := R) l b N e I hl fin _ 0 rfl (Nat.zero_le _) rfl s h
  obtain ⟨hp, g, d, tk, os⟩ := s
  have f3 := AutoSeq1.sub_list_list
  have hne : ¬ (items.size != items2.size) = true := by simp [hs1, hs2]
  wp_walk using wpAny_loadPart' hl1, wpAny_loadPart' hb1
  exact ⟨plainId_quiet plain_eq_loop _, codeAny_builtin entry_eq_loop (by
    rw [Around.under_plainId plain_eq_loop _]
    exact hrec)⟩
theorem rc_listB {E : Value → Shared → Prop} {s : Shared} {l b : Addr} {N : Nat} {Q : Value → Shared → Prop} (hu : A.units < cLine) (e : Nat → Bool) (I : Shared → Prop) (hl : ListB prog w A E l b N e I)
    (fin : ∀ s, I s → Q (.bool (((List.range N).all e))) s) (h : I s) : wpAny (model prog w) A (richCompare .Eq (.ref l) (.ref b)) Q E s := by
  obtain ⟨items, items2, n, n2, hl1, hb1, _, _, _⟩ := hl 0 s h
  refine wpAny_richCompare_same_room (op := .Eq) ⟨_, hl1, rfl⟩ ⟨_, hb1, rfl⟩ F.slot_list_eq (call_here F.slot_list_eq ⟨_, hl1, rfl⟩ F.entry_list_eq (F.args_list_eq_2 _ _) ?_) hu
  exact list_eqB (R := wants (fun v s' => v ≠ .notImplemented ∧ Q v s') E) l b N e I hl (fun s' q => ⟨(fun x => nomatch x), fin s' q⟩) h
theorem ne_loopB (l b : Addr) (N : Nat) (e : Nat → Bool) (I : Shared → Prop) (hl : ListB prog w A (fun e s' => R (.error e) s') l b N e I)
    (fin : ∀ s, I s → R (.ok (.ret (.bool (!((List.range N).all e))))) s) (k : Nat) :
    ∀ i : Nat, N - i = k → i ≤ N → ((List.range N).drop i).all e = (List.range N).all e → ∀ s, I s →
      wpAny (model prog w) A.in1 (Builtin.«list.__eq__.loop» ⟨[.ref l, .ref b, rawInt i, rawInt 3], []⟩) (FinOf prog w A R) (fun e s' => R (.error e) s') s := by
  induction k with
  | zero =>
    intro i hk hi ha s h
    obtain ⟨items, items2, n, n2, hl1, hb1, hs1, hs2, _⟩ := hl i s h
    have hi' : i = N := by omega
    have hR := fin s h
    rw [← ha, hi', List.drop_of_length_le (by simp), List.all_nil] at hR
    obtain ⟨hp, g, d, tk, os⟩ := s
    wp_walk using wpAny_loadPart' hl1, wpAny_loadPart' hb1
    have hi1 : items[((i : Nat) : Int).toNat]? = none := by simp; omega
    have hi2 : items2[((i : Nat) : Int).toNat]? = none := by simp; omega
    rw [hi1, hi2]
    wp_walk using wpAny_loadPart' hl1, wpAny_loadPart' hb1
    show R (.ok (.ret (.bool (items.size != items2.size)))) _
    rw [hs1, hs2]
    simpa using hR
  | succ k ih =>
    intro i hk hi ha s h
    obtain ⟨items, items2, n, n2, hl1, hb1, hs1, hs2, turn⟩ := hl i s h
    have hlt : i < items.size := by omega
    have hlt2 : i < items2.size := by omega
    have ht := turn hlt hlt2
    obtain ⟨hp, g, d, tk, os⟩ := s
    wp_walk using wpAny_loadPart' hl1, wpAny_loadPart' hb1
    have hi1 : items[((i : Nat) : Int).toNat]? = some items[i] := by simp [hlt]
    have hi2 : items2[((i : Nat) : Int).toNat]? = some items2[i] := by simp [hlt2]
    have hc : ((i : Int) + 1) = ((i + 1 : Nat) : Int) := by omega
    rw [hi1, hi2]
    refine wpAny_bind (wpAny_mono ht (fun r s2 h2 => ?_) fun _ _ x => x)
    obtain ⟨hr, h2⟩ := h2
    subst hr
    have hiN : i < N := by omega
    have hd : (List.range N).drop i = i :: (List.range N).drop (i + 1) := by simp [List.drop_eq_getElem_cons, hiN]
    rw [hd, List.all_cons] at ha
    cases hy : e i with
    | true =>
      rw [hy, Bool.true_and] at ha
      have hrec := ih (i + 1) (by omega) (by omega) ha s2 h2
      obtain ⟨hp2, g2, d2, tk2, os2⟩ := s2
      wp_walk
      rw [hc]
      exact ⟨plainId_quiet plain_eq_loop _, codeAny_builtin entry_eq_loop (by
        rw [Around.under_plainId plain_eq_loop _]
        exact hrec)⟩
    | false =>
      rw [hy, Bool.false_and] at ha
      have hR := fin s2 h2
      rw [← ha] at hR
      obtain ⟨items', items2', n', n2', hl2, hb2, hs1', hs2', _⟩ := hl i s2 h2
      have hi1' : items'[((i : Nat) : Int).toNat]? = some (items'[i]'(by omega)) := by
        rw [Int.toNat_natCast]
        exact Array.getElem?_eq_getElem _
      have hi2' : items2'[((i : Nat) : Int).toNat]? = some (items2'[i]'(by omega)) := by
        rw [Int.toNat_natCast]
        exact Array.getElem?_eq_getElem _
      obtain ⟨hp2, g2, d2, tk2, os2⟩ := s2
      wp_walk using wpAny_loadPart' hl2, wpAny_loadPart' hb2
      rw [hi1', hi2']
      wp_walk using wpAny_loadPart' hl2, wpAny_loadPart' hb2
      first | exact hR | exact ⟨_, rfl, hR⟩ | simpa using hR
theorem list_neB (l b : Addr) (N : Nat) (e : Nat → Bool) (I : Shared → Prop) (hl : ListB prog w A (fun e s' => R (.error e) s') l b N e I)
    (fin : ∀ s, I s → R (.ok (.ret (.bool (!((List.range N).all e))))) s) {s : Shared} (h : I s) :
    wpAny (model prog w) A.in1 (Builtin.«list.__ne__» ⟨[.ref l, .ref b], []⟩) (FinOf prog w A R) (fun e s' => R (.error e) s') s := by
  obtain ⟨items, items2, n, n2, hl1, hb1, hs1, hs2, _⟩ := hl 0 s h
  have hrec := ne_loopB (A := A) (R := R) l b N e I hl fin _ 0 rfl (Nat.zero_le _) rfl s h
  obtain ⟨hp, g, d, tk, os⟩ := s
  have f3 := AutoSeq1.sub_list_list
  have hne : ¬ (items.size != items2.size) = true := by simp [hs1, hs2]
  wp_walk using wpAny_loadPart' hl1, wpAny_loadPart' hb1
  exact ⟨plainId_quiet plain_eq_loop _, codeAny_builtin entry_eq_loop (by
    rw [Around.under_plainId plain_eq_loop _]
    exact hrec)⟩
theorem rc_listNB {E : Value → Shared → Prop} {s : Shared} {l b : Addr} {N : Nat} {Q : Value → Shared → Prop} (hu : A.units < cLine) (e : Nat → Bool) (I : Shared → Prop) (hl : ListB prog w A E l b N e I)
    (fin : ∀ s, I s → Q (.bool (!((List.range N).all e))) s) (h : I s) : wpAny (model prog w) A (richCompare .NotEq (.ref l) (.ref b)) Q E s := by
  obtain ⟨items, items2, n, n2, hl1, hb1, _, _, _⟩ := hl 0 s h
  refine wpAny_richCompare_same_room (op := .NotEq) ⟨_, hl1, rfl⟩ ⟨_, hb1, rfl⟩ F.slot_list_ne (call_here F.slot_list_ne ⟨_, hl1, rfl⟩ F.entry_list_ne (F.args_list_ne_2 _ _) ?_) hu
  exact list_neB (R := wants (fun v s' => v ≠ .notImplemented ∧ Q v s') E) l b N e I hl (fun s' q => ⟨(fun x => nomatch x), fin s' q⟩) h
end
end GB
namespace VX
open PySem PySem.Spec PyProof.Rows L2
section
variable {X : Cx} {n : Nat} {D : EqvB}
/-- two lists of as many items, item by item -/
def DListB (D : EqvB) : EqvB := fun x y b H => ∃ p q xs ys e, x = .ref p ∧ y = .ref q ∧ H p = some (.lst xs) ∧ H q = some (.lst ys) ∧ PrsB D xs ys e H ∧ b = (List.range xs.length).all e
theorem turnB (hD : MonB D) (h : EqB X n D) {A : Around} (sb : Sub X (n + 1) A) {pins : List (Addr × Obj)} {σ : L2.St} {H : Hp} {xs ys : List V} {e : Nat → Bool} {its its2 : List Value} (p : PrsB D xs ys e H) (r : Vals xs its) (r2 : Vals ys its2)
    (i : Nat) (h1 : i < its.toArray.size) (h2 : i < its2.toArray.size) (s' : Shared) (l : LoopI X pins σ H s') :
    wpAny (model X.prog X.w) A.in1 (eqBool its.toArray[i] its2.toArray[i]) (fun r s2 => r = e i ∧ LoopI X pins σ H s2) X.xe s' := by
  obtain ⟨H1, I1, e1⟩ := l
  have g1 : its[i]? = some its.toArray[i] := by
    have h1' : i < its.length := by simpa using h1
    rw [List.getElem?_eq_getElem h1'] <;> simp
  have g2 : its2[i]? = some its2.toArray[i] := by
    have h2' : i < its2.length := by simpa using h2
    rw [List.getElem?_eq_getElem h2'] <;> simp
  have k1 : i < xs.length := by rw [r.length]; simpa using h1
  have k2 : i < ys.length := by rw [r2.length]; simpa using h2
  obtain ⟨u, hu, ru⟩ := r.get (List.getElem?_eq_getElem k1)
  obtain ⟨v, hv, rv⟩ := r2.get (List.getElem?_eq_getElem k2)
  rw [g1] at hu
  rw [g2] at hv
  rw [Option.some.inj hu, Option.some.inj hv]
  refine wpAny_mono (h A.in1 pins s' σ H1 _ _ _ u v sb.in1 I1 ru rv (hD _ _ _ _ _ e1 (p.2 i _ _ (List.getElem?_eq_getElem k1) (List.getElem?_eq_getElem k2)))) (fun r s2 q => ?_) fun _ _ x => x
  obtain ⟨hr, H2, I2, e2⟩ := q
  exact ⟨hr, H2, I2, e1.trans e2⟩
/-- x == y, x != y, lists of own objects -/
def rLst (b : Bool) (D : EqvB) : R2 := fun x y H Q => ∃ z, DListB D x y z H ∧ ∀ H', Ext H H' → Q (.bl (if b = true then z else !z)) H'
theorem op_eqLB (hD : MonB D) (h : EqB X n D) (hr : Room (n + 1) X.A) : OpR X (compareOp .Eq) (rLst true D) := by
  intro pins s σ H x y v u Q I rx ry hq
  obtain ⟨z, ⟨a, b, xs, ys, e, rfl, rfl, ha, hb, p, rfl⟩, q⟩ := hq
  cases rx
  cases ry
  show wpAny (model X.prog X.w) X.A (richCompare .Eq (.ref a) (.ref b)) (EP X pins σ Q) X.xe s
  refine GB.rc_listB (N := xs.length) hr.units0 e (fun s' => LoopI X pins σ H s') (fun i s' l => ?_) (fun s' l => ?_) ⟨H, I, Ext.rfl'⟩
  · obtain ⟨H1, I1, e1⟩ := id l
    obtain ⟨z, its, k, r, ee⟩ := I1.hok a _ (e1 _ _ ha)
    obtain ⟨z2, its2, k2, r2, e2⟩ := I1.hok b _ (e1 _ _ hb)
    refine ⟨its.toArray, its2.toArray, k, k2, ee, e2, by rw [List.size_toArray, ← r.length], by rw [List.size_toArray, ← r2.length, ← p.1], fun h1 h2 => ?_⟩
    exact turnB hD h ⟨hr, rfl⟩ p r r2 i h1 h2 s' l
  · obtain ⟨H1, I1, e1⟩ := l
    exact ⟨.bl _, H1, I1, rfl, q H1 e1⟩
theorem op_neLB (hD : MonB D) (h : EqB X n D) (hr : Room (n + 1) X.A) : OpR X (compareOp .NotEq) (rLst false D) := by
  intro pins s σ H x y v u Q I rx ry hq
  obtain ⟨z, ⟨a, b, xs, ys, e, rfl, rfl, ha, hb, p, rfl⟩, q⟩ := hq
  cases rx
  cases ry
  show wpAny (model X.prog X.w) X.A (richCompare .NotEq (.ref a) (.ref b)) (EP X pins σ Q) X.xe s
  refine GB.rc_listNB (N := xs.length) hr.units0 e (fun s' => LoopI X pins σ H s') (fun i s' l => ?_) (fun s' l => ?_) ⟨H, I, Ext.rfl'⟩
  · obtain ⟨H1, I1, e1⟩ := id l
    obtain ⟨z, its, k, r, ee⟩ := I1.hok a _ (e1 _ _ ha)
    obtain ⟨z2, its2, k2, r2, e2⟩ := I1.hok b _ (e1 _ _ hb)
    refine ⟨its.toArray, its2.toArray, k, k2, ee, e2, by rw [List.size_toArray, ← r.length], by rw [List.size_toArray, ← r2.length, ← p.1], fun h1 h2 => ?_⟩
    exact turnB hD h ⟨hr, rfl⟩ p r r2 i h1 h2 s' l
  · obtain ⟨H1, I1, e1⟩ := l
    exact ⟨.bl _, H1, I1, rfl, q H1 e1⟩
end
/-! ### own x[k], the exception's promise at the slots -/
theorem fnIn_of {K : PySem.W.Frag} {x qual : Str} {pa : Arguments} {bd : List Stmt} {sc : Scope} {dvs : List V} {kws : List (Str × V)} {f : Addr} {fd : FuncData} (F : FunD K x qual pa bd sc dvs kws f fd) : PySem.W.fnIn K f = true := by
  obtain ⟨oc, od, dV, kV, doc, pm, an, cdv, ct, osl, rfl, lk, hcd, hD, hK⟩ := F.ex
  unfold PySem.W.fnIn
  rw [lk]
def tIxO (C : Addr) (sp : Sp) (E : L2.St → XK) (ta tb : TE) : TE := fun σ H Q => ta σ H fun x H1 => tb σ H1 fun y H2 => ∃ o dx fs, x = .ref o ∧ H2 o = some (.ins C dx fs) ∧ sp [.ref o, y] H2 Q (E σ)
theorem pe_ixO {X : Cx} {CX : CXT} {C f : Addr} {fd : FuncData} {ps : List Str} {n : Nat} {sp : Sp} {E : L2.St → XK} {a b : Expr} {pos : Pos} {ta tb : TE} (F : FnOk X.prog X.w X.K X.mg X.base CX n f fd ps sp) (hb : Binds X.K fd ps [])
    (hs : PySem.W.findIn X.K (.ref C) "__getitem__" = some (some (.ref f))) (hf : PySem.W.isFn X.K (.ref f) = true) (hfn : PySem.W.fnIn X.K f = true) (hx : ∀ σ, PassesAt CX X σ (E σ)) (hr : Room (n + 1) X.A) (ha : PE X a ta) (hb' : PE X b tb)
    (hsl : ∀ (o : Addr) (i : Value), subscripted b true (.ref o) i = runValue (.builtin "lifetime.subscript" ⟨[.ref o, i], []⟩) := by intro o i; with_unfolding_all rfl) : PE X (.Subscript a b pos) (tIxO C sp E ta tb) := by
  refine ⟨fun pins s σ H Q I h => ?_⟩
  refine Subscript_ (thn (ha.run pins s σ H _ I h) fun v s1 ⟨x, H1, I1, rx, q1⟩ => thn (hb'.run pins s1 σ H1 _ I1 q1) fun u s2 ⟨y, H2, I2, ry, o, dx, fs, ex, ho, q⟩ => ?_)
  subst ex
  obtain rfl : v = Value.ref o := rx
  obtain ⟨mA, J, _⟩ := ins_get I2.hok ho
  obtain ⟨od, J, _⟩ := J.look
  obtain ⟨m, hF⟩ := I2.fr
  refine PySem.W.sub_K hF I2.ok.mod.kin J hs hfn hf ?_ (hsl o u)
  have r2 : Vals [V.ref o, y] [Value.ref o, u] := .cons rfl (.cons ry .nil)
  have hl := F.len _ _ _ _ q
  have bb := hb s2 [.ref o, u] I2.kIn (by simpa using hl)
  have e0 : Env0 X.prog X.w X.K X.mg X.base X.A.in1 X.stack s2 H2 := by
    have e := I2.env0
    exact ⟨e.frames, e.mod, e.bs, e.bsz, e.funs, e.frf, e.hok, e.bare⟩
  refine wpAny_call (codeAny_mono (F.run X.A.in1 X.stack s2 H2 ⟨[.ref o, u], []⟩ [.ref o, u] [.ref o, y] Q (E σ) hr.in1 e0 (by simpa using bb) r2 q) fun r s' hq => ?_)
  cases r with
  | error e => exact hx σ pins H2 s2 e s' I2 hq
  | ok fl =>
    cases fl with
    | ret w => exact I2.after hq
    | next => exact False.elim hq
    | brk => exact False.elim hq
    | cont => exact False.elim hq
/-! ### C(..) in a try; C(*y) -/
def tMakeT (C : Addr) (sp : Sp) (E : L2.St → XK) (t : TA) : TE := fun σ H Q => t σ H fun vs H1 => ∀ x dx, H1 x = none → H1 dx = none → dx ≠ x →
  sp (V.ref x :: vs) (upd (upd H1 dx (.own x)) x (.ins C dx [])) (fun v H2 => v = .non ∧ Q (.ref x) H2) (E σ)
section
variable {X : Cx} {CX : CXT} {k : Nat} {f C : Addr} {fd : FuncData} {ps : List Str} {sp : Sp} {x : Str} {e : Expr} {es : List Expr} {te : TE} {t : TA} {p pos sp_ : Pos}
theorem run_makeT {E : XK} {pins : List (Addr × Obj)} {σ : L2.St} {H : Hp} {s : Shared} {Q : VK} {us : List Value} {vs : List V} (M : Mk X.K C f) (F : FnR X.prog X.w X.K X.mg X.base CX k f sp) (hr : Room (k + 1) X.A) (hx : PassesAt CX X σ E) (I : Inv X pins σ H s) (r : Vals vs us)
    (h : ∀ x dx, H x = none → H dx = none → dx ≠ x → sp (V.ref x :: vs) (upd (upd H dx (.own x)) x (.ins C dx [])) (fun v H2 => v = .non ∧ Q (.ref x) H2) E) :
    wpAny (model X.prog X.w) X.A (call (.ref C) us) (EP X pins σ Q) X.xe s := by
  have hq := h (s.heap.objs.size + 1) s.heap.objs.size (I.hok.fresh (Nat.le_succ _)) (I.hok.fresh (Nat.le_refl _)) (Nat.ne_of_lt (Nat.lt_succ_self _))
  have I2 := Inv.made (C := C) I
  have r2 : Vals (V.ref (s.heap.objs.size + 1) :: vs) (Value.ref (s.heap.objs.size + 1) :: us) := .cons rfl r
  refine wpAny_call (make_map (f := f) I.kIn M.makes M.init (beq_iff_eq.mp M.fn) (codeAny_mono (F _ X.stack _ _ (Value.ref (s.heap.objs.size + 1) :: us) _ _ E (hr.make C us []) (I2.env0.make C us []) r2 hq) fun r s' hq' => ?_))
  cases r with
  | error e => exact hx pins _ _ e s' I2 hq'
  | ok fl =>
    cases fl with
    | ret u =>
      obtain ⟨v, H', I3, rv, ev, q3⟩ := I2.after hq'
      subst ev
      exact ⟨rv, ⟨V.ref (s.heap.objs.size + 1), H', I3, rfl, q3⟩⟩
    | next => exact False.elim hq'
    | brk => exact False.elim hq'
    | cont => exact False.elim hq'
theorem pe_makeT {E : L2.St → XK} (M : Mk X.K C f) (F : FnR X.prog X.w X.K X.mg X.base CX k f sp) (hr : Room (k + 1) X.A) (hg : Gl X x) (hm : X.mg x = some (.ref C)) (hx : ∀ σ, PassesAt CX X σ (E σ)) (ha : PA X (e :: es) t) (hdb : (x == ("__debug__" : Str)) = false := by decide)
    (he : starEach (e :: es) X.env = (false, eval e X.env) :: starEach es X.env := by rfl) (hpl : (backTo pos (starEach es X.env)).any (·.1) = false := by rfl) : PE X (.Call (.Name x p) (e :: es) [] pos) (tMakeT C sp E t) := by
  refine ⟨fun pins s σ H Q I h => wpAny_Call_Name_kw (ld_glob I hg hm ?_ hdb)⟩
  refine PySem.W.callWith_K (h₀ := X.base) I.ok.mod.kin M.kp (thn (ha.run pos pins s σ H _ I h) fun us s1 ⟨vs, H1, I1, r, q⟩ => ⟨I1.kIn, ?_⟩) he hpl
  exact run_makeT M F hr (hx σ) I1 r q
theorem pe_makeS1 {E : XK} (M : Mk X.K C f) (F : FnR X.prog X.w X.K X.mg X.base CX k f sp) (hr : Room (k + 1) X.A) (hg : Gl X x) (hm : X.mg x = some (.ref C)) (hx : Passes CX X E) (he : PE X e te) (hd : (x == ("__debug__" : Str)) = false := by decide)
    (hst : starEach [.Starred e sp_] X.env = [(true, eval e X.env)] := by rfl) :
    PE X (.Call (.Name x p) [.Starred e sp_] [] pos) (fun σ H Q => te σ H fun y H1 => ∃ a xs, y = V.ref a ∧ (SqT X.K H1 a xs ∨ SqL X.K H1 a xs) ∧ ∀ x dx, H1 x = none → H1 dx = none → dx ≠ x →
      sp (V.ref x :: xs) (upd (upd H1 dx (.own x)) x (.ins C dx [])) (fun v H2 => v = .non ∧ Q (.ref x) H2) E) := by
  refine ⟨fun pins s σ H Q I h => wpAny_Call_Name_kw (ld_glob I hg hm ?_ hd)⟩
  refine PySem.W.callWith_S (h₀ := X.base) I.ok.mod.kin M.kp (thn (he.run pins s σ H _ I h) fun v s1 ⟨y, H1, I1, ry, a, xs, ey, hxs, q⟩ => ?_) hst
  subst ey
  obtain rfl : v = Value.ref a := ry
  exact StX.star_any I1 hxs fun us s2 I2 rv => ⟨I2.kIn, StX.run_makeR M F hr hx I2 rv q⟩
end
/-! ### a list asked for in a tuple of texts -/
theorem notIn_odd {X : Cx} (K : PySem.W.Frag) (hu : X.A.units + 1 < cLine) (hK : X.K = K := by rfl) : OpR X (compareOp .NotIn) (fun x y H Q => ∃ (l p : Addr) (xs : List V) (zs : List Str), x = .ref l ∧ y = .ref p ∧ SqL K H l xs ∧ SqT K H p (zs.map V.str) ∧ Q (.bl true) H) := by
  subst hK
  intro pins s σ H x y v u Q I rx ry h
  obtain ⟨l, p, xs, zs, rfl, rfl, hl, hp, q⟩ := h
  cases rx
  cases ry
  obtain ⟨its, r, pl, hz⟩ := I.list hl
  obtain ⟨us, r2, pt, _⟩ := I.tuple hp
  refine SeqAt.notIn_tupleAt (fun _ => false) pt (fun w hw => ?_) ⟨.bl _, H, I, rfl, ?_⟩
  · have hw' : w ∈ us := by simpa using hw
    obtain ⟨i, hi, e⟩ := List.mem_iff_getElem.mp hw'
    have hi2 : i < (zs.map V.str).length := by rw [r2.length]; exact hi
    have hi3 : i < zs.length := by simpa using hi2
    obtain ⟨v, hv, rv⟩ := r2.get (List.getElem?_eq_getElem hi2)
    rw [List.getElem?_eq_getElem hi, e] at hv
    obtain rfl := Option.some.inj hv
    rw [List.getElem_map] at rv
    obtain ⟨t, rfl⟩ : ∃ t, w = Value.str zs[i] t := rv
    exact SeqAt.EqAt.str_list _ t pl.isList hu
  · have e : (us.toArray.any fun _ => false) = false := by rw [Bool.eq_false_iff]; simp
    rw [e]
    exact q
end VX

set_option Elab.async false
set_option linter.all false
set_option maxRecDepth 100000
set_option maxHeartbeats 4000000
/-! # common facts -/
namespace KV
open PySem PySem.Spec PyProof.Rows L2 VX RX
section
variable {P : Program} {w : World} {K : PySem.W.Frag} {mg : Str → Option Value} {base : Heap} {f : Addr} {fd : FuncData}
theorem map_more {α β : Type} {g : α → β} {b : List α} {i : Nat} {o : α} (h : b[i]? = some o) : (b.take (i + 1)).map g = (b.take i).map g ++ [g o] := take_more h
theorem fold_more {α β : Type} {g : β → α → β} {z : β} {b : List α} {i : Nat} {o : α} (h : b[i]? = some o) : (b.take (i + 1)).foldl g z = g ((b.take i).foldl g z) o := by
  rw [List.take_succ, h, Option.toList_some, List.foldl_append]
  rfl
theorem told_fold {p : Int} {n : Nat} {inv : Int → Int} {b h rows : List (List Int)} (I : RX.Inv p inv) (R1 : Rref p n b) (T1 : Told p n b h) (hr : ∀ r ∈ rows, Row p n r) : Told p n (reduced inv p (b ++ rows)) (rows.foldl (spanStep p) h) := by
  obtain ⟨k1, k2⟩ := spanFold_ok (p := p) (n := n) I.two rows b h R1.len (fun r m => (hr r m).1) T1.nd T1.mem
  have e : rows.map (modR p) = rows := map_modR I.pos hr
  rw [e] at k2
  exact ⟨k1, fun v => by rw [k2, reduced_span I (fun r m => (List.mem_append.mp m).elim (R1.rows r) (hr r))]⟩
theorem told_len {p : Int} {n : Nat} {inv : Int → Int} {b h : List (List Int)} (I : RX.Inv p inv) (R1 : Rref p n b) (T1 : Told p n b h) (hn : p ^ n ≤ 1000000) : h.length ≤ 1000000 := by
  have h2 := I.two
  rw [T1.count I R1]
  have h1 := Nat.pow_le_pow_right (n := p.toNat) (by omega) R1.card
  have h3 : ((p.toNat ^ n : Nat) : Int) = p ^ n := by rw [Int.natCast_pow, Int.toNat_of_nonneg (by omega)]
  omega
theorem nodup_at {h : List (List Int)} (nd : h.Nodup) {i : Nat} {r : List Int} (e : h[i]? = some r) : r ∉ h.take i := fun m => by
  rw [← List.take_append_drop i h] at nd
  refine (List.nodup_append.mp nd).2.2 r m r ?_ rfl
  refine List.mem_iff_getElem?.mpr ⟨0, ?_⟩
  rw [List.getElem?_drop, Nat.add_zero]
  exact e
theorem key_eq {H : Hp} {c : Addr} {r : List Int} (h : IsRow H c r) : H c = some (.tup ((r.map (Sum.inl : Int → L2.Key)).map kV)) := by
  have e2 : (r.map (Sum.inl : Int → L2.Key)).map kV = r.map V.int := by rw [List.map_map]; rfl
  rw [e2]
  exact h
theorem AreInts.append {H : Hp} : ∀ {as cs : List Addr} {b c : List (List Int)}, AreInts H as b → AreInts H cs c → AreInts H (as ++ cs) (b ++ c)
  | _, _, _, _, .nil, h => h
  | _, _, _, _, .cons h t, g => .cons h (AreInts.append t g)
theorem g_lspan (T : TX K mg) : ∃ fd, FnP K "_law_span" iLSpan (He.ga K "_law_span") fd ∧ FnOk P w K mg base CX0 3 (He.ga K "_law_span") fd ["_law_p", "_law_n", "_law_rows_here"] spSpan ∧ Binds K fd ["_law_p", "_law_n", "_law_rows_here"] [] := by
  obtain ⟨fd, F⟩ := T.def "_law_span" iLSpan
  obtain ⟨fdG, FG⟩ := T.def "_law_grown" iLGrown
  obtain ⟨fdU, FU⟩ := T.def "_law_plus" iLPlus
  exact ⟨fd, F, ok_span F T FG FU, F.bindsN fun _ _ _ _ _ _ us hl => match us, hl with | [_, _, _], _ => rfl⟩
theorem AreLsts.nb {H : Hp} {b : Addr} : ∀ {as : List Addr} {rs : List (List Int)} {i : Nat} {a : Addr}, AreLsts H b as rs → as[i]? = some a → a ≠ b
  | _, _, 0, _, .cons _ h _, e => by
    obtain rfl := Option.some.inj e
    exact h
  | _, _, i + 1, _, .cons _ _ t, e => AreLsts.nb (i := i) t (by simpa using e)
theorem AreLsts.same {H H' : Hp} {b : Addr} (s : Same H H') {as : List Addr} {rs : List (List Int)} (h : AreLsts H b as rs) : AreLsts H' b as rs := h.kept (Kept.of s)
/-- the box's and the look's promises, closed -/
structure SpTake (vs : List V) (H : Hp) (Q : VK) (E : XK) : Prop where
  out : spTake vs H Q E
theorem take_use2 {H : Hp} {b : Addr} {N : Nat} {m : Int} {Q : VK} {E : XK} (h : BoxK H b N) (hN : N ≤ 900000) (m0 : 0 < m) (m1 : m ≤ 1000000000)
    (k : ∀ d H', 0 ≤ d → d < m → Kept b H H' → BoxK H' b (N + 1) → (∀ c, H c = none → H' c = none) → Q (.int d) H') : SpTake [.ref b, .int m] H Q E := ⟨take_use h hN m0 m1 k⟩
end
end KV

set_option Elab.async false
set_option linter.all false
set_option maxRecDepth 100000
set_option maxHeartbeats 4000000
/-! # both, sum -/
namespace KV
open PySem PySem.Spec PyProof.Rows L2 VX RX
section
variable {P : Program} {w : World} {K : PySem.W.Frag} {mg : Str → Option Value} {base : Heap} {f : Addr} {fd : FuncData}
def spBoth : Sp := fun vs H Q _ => ∃ (d1 d2 : Addr) (h t : List (List Int)), vs = [.ref d1, .ref d2] ∧ H d1 = some (.dT (kvsOf h)) ∧ H d2 = some (.dT (kvsOf t)) ∧ h.Nodup ∧ h.length ≤ 1000000 ∧
  ∀ H' e, Same H H' → H e = none → H' e = some (.dT (kvsOf (bothL h t))) → Q (.ref e) H'
abbrev nBo : List Str := ["_law_one", "_law_other", "_law_found", "_law_vector_here"]
theorem sc_bo : FnScope nBo ["_law_one", "_law_other"] (defScope (top iLBoth)) := ⟨rfl, rfl, rfl, by decide +kernel, rfl, by decide +kernel, by decide +kernel⟩
theorem g_both (T : TX K mg) : ∃ fd, FnP K "_law_both" iLBoth (He.ga K "_law_both") fd ∧ FnOk P w K mg base CX0 1 (He.ga K "_law_both") fd ["_law_one", "_law_other"] spBoth ∧ Binds K fd ["_law_one", "_law_other"] [] := by
  obtain ⟨fd, F⟩ := T.def "_law_both" iLBoth
  refine ⟨fd, F, F.ok sc_bo (fun vs H Q E h => ?_) (fun cdv A outer s H vs Q E hr h => ?_), F.bindsN fun _ _ _ _ _ _ us hl => match us, hl with | [_, _], _ => rfl⟩
  · obtain ⟨d1, d2, h, t, rfl, _⟩ := h
    rfl
  · obtain ⟨d1, d2, hh, t, rfl, hd1, hd2, hnd, hsz, k⟩ := h
    have nd := sc_bo.nd
    have hu := hu_of hr
    refine ⟨_, PSs.nox (pss_cons (ps_set (i := 2) nd rfl (.inl rfl) pe_dnewT) (pss_cons (ps_for PassesOwn.never rfl (pi_list (pe_callTy (call_list_dT rfl) (by rfl) (T.fr "list") (by decide +kernel) (pa_cons (pv 0) pa_nil))) (pg_name (i := 3) nd rfl (.inl rfl)) (pss_one (ps_if (pt_cmp (pc_din hu (pv 3) (pv 1)) rfl) (pss_one (ps_dput hu (pv 2) (pv 3) pe_bl rfl)) pss_nil))) (pss_one (ps_ret (pv 2))))), ?_⟩
    refine fun e he => ?_
    have s0 : Same H (upd H e (.dT [])) := same_new he
    refine ⟨_, rfl, d1, kvsOf hh, rfl, Rd.of (s0 _ _ hd1), fun q bs hq hks => ?_⟩
    have hrows : AreRows (upd H e (.dT [])) bs hh := rows_keys hks
    have eq' : e ≠ q := fun z => by rw [← z, upd_same] at hq; cases hq
    refine ⟨q, rfl, ⟨_, SqL.of upd_same⟩, ?_⟩
    have sQ : Same (upd H e (.dT [])) (upd (upd H e (.dT [])) q (.lst (bs.map V.ref))) := same_new hq
    have rQ := hrows.same sQ
    have eQ : upd (upd H e (.dT [])) q (.lst (bs.map V.ref)) e = some (.dT (kvsOf [])) := by rw [upd_ne eq', upd_same]; rfl
    have qQ : upd (upd H e (.dT [])) q (.lst (bs.map V.ref)) q = some (.lst (bs.map V.ref)) := upd_same
    have allQ : Same H (upd (upd H e (.dT [])) q (.lst (bs.map V.ref))) := s0.trans sQ
    generalize upd (upd H e (.dT [])) q (.lst (bs.map V.ref)) = G at sQ rQ eQ qQ allQ
    have hbl := rQ.length
    have ne2 : d2 ≠ e := fun z => by rw [z, he] at hd2; cases hd2
    refine for_list (xs := bs.map V.ref) (fun i σ H' => ∃ z1, σ = [some (.ref d1), some (.ref d2), some (.ref e), z1] ∧ Kept e G H' ∧ H' e = some (.dT (kvsOf (bothL (hh.take i) t)))) ⟨none, rfl, Kept.refl, eQ⟩ (fun i σ H' _ z => ?_) ?_ ?_
    · obtain ⟨z1, _, kp, _⟩ := z
      exact SqL.of (kp _ _ qQ (Ne.symm eq'))
    · rintro i x σ H1 hx ⟨z1, rfl, kp, hE⟩
      obtain ⟨b, hb, rfl⟩ := refs_at hx
      obtain ⟨r, hr', hrb⟩ := rQ.get hb
      have be : b ≠ e := fun z => by rw [z] at hrb; rw [show G e = _ from hrb] at eQ; cases eQ
      have hb1 := kp _ _ hrb be
      have hd21 := kp _ _ (allQ _ _ hd2) ne2
      have hi : i < hh.length := (List.getElem?_eq_some_iff.mp hr').1
      have mo : bothL (hh.take (i + 1)) t = bothL (hh.take i) t ++ if r ∈ t then [r] else [] := by
        unfold bothL
        rw [filter_more hr']
        by_cases c : r ∈ t
        · rw [if_pos (decide_eq_true c), if_pos c]
        · rw [if_neg (by simpa using c), if_neg c]
      refine ⟨_, rfl, _, rfl, d2, _, rfl, DGet.t hd21 (key_eq hb1), _, rfl, ?_⟩
      rw [valK_kvs]
      refine ite2 (fun c => ?_) (fun c => ?_)
      · have hin : r ∈ t := by simpa using c
        have hni : r ∉ bothL (hh.take i) t := fun m => nodup_at hnd hr' (List.mem_filter.mp m).1
        have hl1 : (bothL (hh.take i) t).length ≤ 1000000 := by
          have h1 := List.length_filter_le (fun v => decide (v ∈ t)) (hh.take i)
          rw [List.length_take] at h1
          unfold bothL
          omega
        refine ⟨_, rfl, _, rfl, e, _, rfl, DPut.t hE (key_eq hb1) (by rw [kvs_len]; exact Nat.lt_of_le_of_lt hl1 (by decide)), _, rfl, fun u o z nu => ?_, ?_⟩
        · rw [upd_ne nu]
          exact kp _ _ z nu
        · rw [upd_same, putK_kvs, mo, if_pos hin]
          unfold ins
          rw [if_neg hni]
      · have hin : r ∉ t := by simpa using c
        refine ⟨_, rfl, kp, ?_⟩
        rw [mo, if_neg hin, List.append_nil]
        exact hE
    · rintro σ H1 ⟨z1, rfl, kp, hE⟩
      rw [List.length_map, hbl, List.take_length] at hE
      exact ⟨_, rfl, k H1 e (fun c o z => kp _ _ (allQ _ _ z) (ne_of_none z he)) he hE⟩
def spSum : Sp := fun vs H Q _ => ∃ (p : Int) (n : Nat) (d1 d2 : Addr) (b c h t : List (List Int)), vs = [.int p, .ref d1, .ref d2] ∧ H d1 = some (.dT (kvsOf h)) ∧ H d2 = some (.dT (kvsOf t)) ∧ isP p = true ∧ n ≤ 12 ∧ p ^ n ≤ 1000000 ∧ Rref p n b ∧ Rref p n c ∧ Told p n b h ∧ Told p n c t ∧
  ∀ H' e, Same H H' → H' e = some (.dT (kvsOf (joinedL p h t))) → Q (.ref e) H'
abbrev nSu : List Str := ["_law_p", "_law_one", "_law_other", "_law_found", "_law_vector_here"]
theorem sc_su : FnScope nSu ["_law_p", "_law_one", "_law_other"] (defScope (top iLSum)) := ⟨rfl, rfl, rfl, by decide +kernel, rfl, by decide +kernel, by decide +kernel⟩
theorem g_sum (T : TX K mg) : ∃ fd, FnP K "_law_sum" iLSum (He.ga K "_law_sum") fd ∧ FnOk P w K mg base CX0 3 (He.ga K "_law_sum") fd ["_law_p", "_law_one", "_law_other"] spSum ∧ Binds K fd ["_law_p", "_law_one", "_law_other"] [] := by
  obtain ⟨fd, F⟩ := T.def "_law_sum" iLSum
  obtain ⟨fdG, FG⟩ := T.def "_law_grown" iLGrown
  obtain ⟨fdU, FU⟩ := T.def "_law_plus" iLPlus
  have GG : FnOk P w K mg base CX0 2 _ fdG ["_law_p", "_law_found", "_law_vector_here"] spGrown := ok_grown FG T FU
  have BG : Binds K fdG ["_law_p", "_law_found", "_law_vector_here"] [] := FG.bindsN fun _ _ _ _ _ _ us hl => match us, hl with | [_, _, _], _ => rfl
  refine ⟨fd, F, F.ok sc_su (fun vs H Q E h => ?_) (fun cdv A outer s H vs Q E hr h => ?_), F.bindsN fun _ _ _ _ _ _ us hl => match us, hl with | [_, _, _], _ => rfl⟩
  · obtain ⟨p, n, d1, d2, b, c, h, t, rfl, _⟩ := h
    rfl
  · obtain ⟨p, n, d1, d2, b, c, hh, t, rfl, hd1, hd2, hp, hn, hpn, hR, hS, hT, hU, k⟩ := h
    have nd := sc_su.nd
    have hu := hu_of hr
    refine ⟨_, PSs.nox (pss_cons (ps_set (i := 3) nd rfl (.inl rfl) (pv 1)) (pss_cons (ps_for PassesOwn.never rfl (pi_list (pe_callTy (call_list_dT rfl) (by rfl) (T.fr "list") (by decide +kernel) (pa_cons (pv 2) pa_nil))) (pg_name (i := 4) nd rfl (.inl rfl)) (pss_one (ps_if (pt_cmp (pc_dnotin hu (pv 4) (pv 3)) rfl) (pss_one (ps_set (i := 3) nd rfl (.inl rfl) (pe_call GG hr (by rfl) (T.df "_law_grown" iLGrown) FG.kp BG .nil pass0 (pa_cons (pv 0) (pa_cons (pv 3) (pa_cons (pv 4) pa_nil)))))) pss_nil))) (pss_one (ps_ret (pv 3))))), ?_⟩
    have II := invF_ok hp
    have hq := isP_pos hp
    have trow := hU.rows II hS
    refine ⟨_, rfl, _, rfl, d2, kvsOf t, rfl, Rd.of hd2, fun q bs hq' hks => ?_⟩
    have hrows : AreRows H bs t := rows_keys hks
    refine ⟨q, rfl, ⟨_, SqL.of upd_same⟩, ?_⟩
    have sQ : Same H (upd H q (.lst (bs.map V.ref))) := same_new hq'
    have rQ := hrows.same sQ
    have qQ : upd H q (.lst (bs.map V.ref)) q = some (.lst (bs.map V.ref)) := upd_same
    have dQ := sQ _ _ hd1
    generalize upd H q (.lst (bs.map V.ref)) = G at sQ rQ qQ dQ
    have hbl := rQ.length
    refine for_list (xs := bs.map V.ref) (fun i σ H' => ∃ d z1, σ = [some (.int p), some (.ref d1), some (.ref d2), some (.ref d), z1] ∧ Same G H' ∧ H' d = some (.dT (kvsOf (joinedL p hh (t.take i))))) ⟨d1, none, rfl, Same.refl _, dQ⟩ (fun i σ H' _ z => ?_) ?_ ?_
    · obtain ⟨_, _, _, s, _⟩ := z
      exact SqL.of (s _ _ qQ)
    · rintro i x σ H1 hx ⟨d, z1, rfl, s1, hD⟩
      obtain ⟨a, ha, rfl⟩ := refs_at hx
      obtain ⟨r, hr', hra⟩ := rQ.get ha
      have hrow := trow r (List.mem_of_getElem? hr')
      have ha1 : IsRow H1 a r := s1 _ _ hra
      have hsub : ∀ r ∈ t.take i, Row p n r := fun r m => trow r (List.mem_of_mem_take m)
      have hTi : Told p n _ (joinedL p hh (t.take i)) := told_fold II hR hT hsub
      have hRi : Rref p n (reduced (invF p) p (b ++ t.take i)) := reduced_ok II fun r m => (List.mem_append.mp m).elim (hR.rows r) (hsub r)
      have mo : joinedL p hh (t.take (i + 1)) = spanStep p (joinedL p hh (t.take i)) r := fold_more hr'
      have em := RX.modR_id hrow II.pos
      refine ⟨_, rfl, _, rfl, d, _, rfl, DGet.t hD (key_eq ha1), _, rfl, ?_⟩
      rw [valK_kvs]
      refine ite2 (fun c' => ?_) (fun c' => ?_)
      · have hni : r ∉ joinedL p hh (t.take i) := by simpa using c'
        refine ⟨_, rfl, _, rfl, _, rfl, p, d, joinedL p hh (t.take i), a, r, n, rfl, hD, ha1, hTi.rows II hRi, hrow, by omega, by omega, Nat.le_trans hn (by decide), told_len II hRi hTi hpn, fun H3 e3 s3 he3 hee => ?_⟩
        refine ⟨e3, _, rfl, s1.trans s3, ?_⟩
        rw [hee, mo, spanStep, em, if_neg hni]
      · have hin : r ∈ joinedL p hh (t.take i) := by simpa using c'
        refine ⟨d, _, rfl, s1, ?_⟩
        rw [hD, mo, spanStep, em, if_pos hin]
    · rintro σ H1 ⟨d, z1, rfl, s1, hD⟩
      rw [List.length_map, hbl, List.take_length] at hD
      exact ⟨_, rfl, k H1 d (sQ.trans s1) hD⟩
end
end KV

set_option Elab.async false
set_option linter.all false
set_option maxRecDepth 100000
set_option maxHeartbeats 4000000
/-! # counts -/
namespace KV
open PySem PySem.Spec PyProof.Rows L2 VX RX
section
variable {P : Program} {w : World} {K : PySem.W.Frag} {mg : Str → Option Value} {base : Heap} {f : Addr} {fd : FuncData}
theorem seqIx {i : Int} {n : Nat} (h0 : 0 ≤ i) (h1 : i < (n : Nat)) : ixN n i = some i.toNat := by
  unfold ixN
  rw [if_pos h0, if_pos h1]
theorem atI_int {cs : List Int} {i : Int} (h0 : 0 ≤ i) (h1 : i < cs.length) : atI (cs.map V.int) i = some (.int (at0 cs i.toNat)) := by
  have e : ((i.toNat : Nat) : Int) = i := Int.toNat_of_nonneg h0
  rw [← e]
  rw [atI_row (by omega), Int.toNat_natCast]
theorem g_take (T : TX K mg) : ∃ fd, FnP K "_law_take" iLTake (He.ga K "_law_take") fd ∧ FnOk P w K mg base CX0 1 (He.ga K "_law_take") fd ["_law_box_here", "_law_many"] SpTake ∧ Binds K fd ["_law_box_here", "_law_many"] [] := by
  obtain ⟨fd, F⟩ := T.def "_law_take" iLTake
  exact ⟨fd, F, (ok_take F T).imp fun _ _ _ _ h => h.out, F.bindsN fun _ _ _ _ _ _ us hl => match us, hl with | [_, _], _ => rfl⟩
def spCounts : Sp := fun vs H Q _ => ∃ (b : Addr) (N n : Nat), vs = [.ref b, .int (n : Nat)] ∧ BoxK H b N ∧ N ≤ 700000 ∧ n ≤ 6 ∧
  ∀ H' l (cs : List Int), Kept b H H' → BoxK H' b (N + 10) → H l = none → l ≠ b → H' l = some (.lst (cs.map V.int)) → cs.length = 9 → (∀ x ∈ cs, 0 ≤ x ∧ x ≤ 6) → Q (.ref l) H'
theorem set_count {cs : List Int} {n left step : Int} {j : Nat} (h : ∀ x ∈ cs, 0 ≤ x ∧ x + left ≤ n) (hj : j < cs.length) (hs : 1 ≤ step) : ∀ x ∈ cs.set j (at0 cs j + 1), 0 ≤ x ∧ x + (left - step) ≤ n := fun x hx => by
  rcases List.mem_or_eq_of_mem_set hx with hx | rfl
  · have := h x hx
    omega
  · have := h (at0 cs j) (by rw [at0_of hj]; exact List.getElem_mem hj)
    omega
abbrev nCt : List Str := ["_law_box_here", "_law_n", "_law_counts_here", "_law_left", "_law_kind"]
theorem sc_ct : FnScope nCt ["_law_box_here", "_law_n"] (defScope (top iLCounts)) := ⟨rfl, rfl, rfl, by decide +kernel, rfl, by decide +kernel, by decide +kernel⟩
theorem g_counts (T : TX K mg) : ∃ fd, FnP K "_law_counts" iLCounts (He.ga K "_law_counts") fd ∧ FnOk P w K mg base CX0 2 (He.ga K "_law_counts") fd ["_law_box_here", "_law_n"] spCounts ∧ Binds K fd ["_law_box_here", "_law_n"] [] := by
  obtain ⟨fd, F⟩ := T.def "_law_counts" iLCounts
  obtain ⟨_, FT, GT, BT⟩ := g_take (P := P) (w := w) (base := base) T
  refine ⟨fd, F, F.ok sc_ct (fun vs H Q E h => ?_) (fun cdv A outer s H vs Q E hr h => ?_), F.bindsN fun _ _ _ _ _ _ us hl => match us, hl with | [_, _], _ => rfl⟩
  · obtain ⟨b, N, n, rfl, _⟩ := h
    rfl
  · obtain ⟨b, N, n, rfl, hb, hN, hn, k⟩ := h
    have nd := sc_ct.nd
    refine ⟨_, PSs.nox (pss_cons (ps_set (i := 2) nd rfl (.inl rfl) (pe_op op_rep (pe_lst (pa_cons pe_int pa_nil)) pe_int)) (pss_cons (ps_set (i := 3) nd rfl (.inl rfl) (pv 1)) (pss_cons (ps_while PassesOwn.never (pt_cmpR op_gt (pv 3) pe_int (nomark _)) (pss_cons (ps_set (i := 4) nd rfl (.inl rfl) (pe_call GT hr (by rfl) (T.df "_law_take" iLTake) FT.kp BT .nil pass0 (pa_cons (pv 0) (pa_cons pe_int pa_nil)))) (pss_one (ps_if (PW.pt (pw_and (pt_cmpR op_gt (pv 4) pe_int (nomark _)) (pw_and1 (pt_cmpR op_gt (pv 3) pe_int (nomark _))))) (pss_cons (ps_asg (pe_op op_add (pe_ix ix_list (pv 2) pe_int (fun _ _ => rfl)) pe_int) (pg_sub (pv 2) pe_int set_list)) (pss_one (ps_set (i := 3) nd rfl (.inl rfl) (pe_op op_sub (pv 3) pe_int)))) (pss_cons (ps_asg (pe_op op_add (pe_ix ix_list (pv 2) (pe_op op_mod (pv 4) pe_int) (fun _ _ => rfl)) pe_int) (pg_sub (pv 2) (pe_op op_mod (pv 4) pe_int) set_list)) (pss_one (ps_set (i := 3) nd rfl (.inl rfl) (pe_op op_sub (pv 3) pe_int)))))))) (pss_one (ps_ret (pv 2)))))), ?_⟩
    refine ⟨(by show 1 ≤ sizeLine; decide), fun e he => ⟨e, _, _, rfl, rfl, upd_same, by omega, by omega, (by show 1 * 9 ≤ sizeLine; decide), fun l hl => ?_⟩⟩
    have s0 : Same H (upd (upd H e (.lst [V.int 0])) l (.lst (List.replicate (9 : Int).toNat [V.int 0]).flatten)) := same_two he hl
    have hl0 : H l = none := none_of hl
    have nlb : l ≠ b := hb.ne hl0
    have L0 : upd (upd H e (.lst [V.int 0])) l (.lst (List.replicate (9 : Int).toNat [V.int 0]).flatten) l = some (.lst ((List.replicate 9 (0 : Int)).map V.int)) := by rw [upd_same]; rfl
    generalize upd (upd H e (.lst [V.int 0])) l (.lst (List.replicate (9 : Int).toNat [V.int 0]).flatten) = H1 at s0 L0 ⊢
    refine ⟨_, rfl, fun m σ H' => ∃ (left : Int) (cs : List Int) (z4 : Option V), σ = [some (.ref b), some (.int (n : Nat)), some (.ref l), some (.int left), z4] ∧ Kept b H H' ∧ BoxK H' b (N + (n - left.toNat)) ∧ H' l = some (.lst (cs.map V.int)) ∧ cs.length = 9 ∧ (∀ x ∈ cs, 0 ≤ x ∧ x + left ≤ n) ∧ 0 ≤ left ∧ left ≤ n ∧ m = left.toNat, ⟨_, n, _, none, rfl, Kept.of s0, (hb.same s0).mono (by omega), L0, by simp, fun x hx => by rw [List.eq_of_mem_replicate hx]; omega, by omega, by omega, rfl⟩, ?_⟩
    rintro m σ H2 ⟨left, cs, z4, rfl, k2, b2, hl2, h9, hcs, l0, ln, rfl⟩
    refine ⟨_, rfl, _, _, rfl, rfl, _, rfl, ite2 (fun c => ?_) (fun c => ?_)⟩
    · have c' : 0 < left := by simpa using c
      refine ⟨fun σ H' => ∃ (left' : Int) (cs : List Int) (z4 : Option V), σ = [some (.ref b), some (.int (n : Nat)), some (.ref l), some (.int left'), z4] ∧ Kept b H H' ∧ BoxK H' b (N + (n - left'.toNat)) ∧ H' l = some (.lst (cs.map V.int)) ∧ cs.length = 9 ∧ (∀ x ∈ cs, 0 ≤ x ∧ x + left' ≤ n) ∧ 0 ≤ left' ∧ left' ≤ n ∧ left' < left, fun σ G h => ?_, ?_⟩
      · obtain ⟨left', cs, z4, h1, h2, h3, h4, h5, h6, h7, h8, h9⟩ := h
        exact ⟨left'.toNat, by omega, left', cs, z4, h1, h2, h3, h4, h5, h6, h7, h8, rfl⟩
      · refine ⟨_, rfl, take_use2 (m := 11) b2 (by omega) (by decide) (by decide) fun d H3 d0 d1 k3 b3 nn => ?_⟩
        have hl3 := k3 _ _ hl2 nlb
        have k13 := k2.trans k3
        have fin : ∀ (j : Nat) (step : Int), j < 9 → 1 ≤ step → step ≤ left → ∃ (left' : Int) (cs' : List Int) (z4 : Option V), [some (V.ref b), some (.int (n : Nat)), some (.ref l), some (.int (left - step)), some (.int d)] = [some (.ref b), some (.int (n : Nat)), some (.ref l), some (.int left'), z4] ∧ Kept b H (upd H3 l (.lst ((cs.map V.int).set j (V.int (at0 cs j + 1))))) ∧ BoxK (upd H3 l (.lst ((cs.map V.int).set j (V.int (at0 cs j + 1))))) b (N + (n - left'.toNat)) ∧ upd H3 l (.lst ((cs.map V.int).set j (V.int (at0 cs j + 1)))) l = some (.lst (cs'.map V.int)) ∧ cs'.length = 9 ∧ (∀ x ∈ cs', 0 ≤ x ∧ x + left' ≤ n) ∧ 0 ≤ left' ∧ left' ≤ n ∧ left' < left := fun j step hj hs1 hs2 => by
          refine ⟨left - step, cs.set j (at0 cs j + 1), _, rfl, fun u o q nu => ?_, ?_, by rw [upd_same, List.map_set], by rw [List.length_set]; exact h9, set_count hcs (by omega) hs1, by omega, by omega, by omega⟩
          · rw [upd_ne (ne_of_none q hl0)]
            exact k13 _ _ q nu
          · obtain ⟨x1, y1, z1, hx, r⟩ := b3.mono (M := N + (n - (left - step).toNat)) (by omega)
            exact ⟨x1, y1, z1, by rw [upd_ne (Ne.symm nlb)]; exact hx, r⟩
        have z8 : (0 : Int) < 8 := by decide
        have mo : 0 ≤ d % 8 ∧ d % 8 < 8 := ⟨Int.emod_nonneg d (by decide), Int.emod_lt_of_pos d (by decide)⟩
        refine ⟨_, rfl, _, _, rfl, rfl, _, rfl, ite2 (fun c1 => ?_) (fun c1 => ?_)⟩
        · refine ⟨_, rfl, _, _, rfl, rfl, _, rfl, ite2 (fun c2 => ?_) (fun c2 => ?_)⟩
          · have c2' : 1 < left := by simpa using c2
            exact ⟨_, rfl, l, _, 8, _, rfl, rfl, SqL.of hl3, atI_int (by decide) (by omega), _, _, rfl, rfl, _, rfl, l, _, 8, _, rfl, rfl, hl3, seqIx (by decide) (by rw [List.length_map]; omega), _, rfl, _, _, rfl, rfl, fin 8 2 (by omega) (by omega) (by omega)⟩
          · exact ⟨_, rfl, _, rfl, _, _, rfl, rfl, z8, l, _, d % 8, _, rfl, rfl, SqL.of hl3, atI_int mo.1 (by omega), _, _, rfl, rfl, _, rfl, _, rfl, _, _, rfl, rfl, z8, l, _, d % 8, _, rfl, rfl, hl3, seqIx mo.1 (by rw [List.length_map]; omega), _, rfl, _, _, rfl, rfl, fin (d % 8).toNat 1 (by omega) (by omega) (by omega)⟩
        · exact ⟨_, rfl, _, rfl, _, _, rfl, rfl, z8, l, _, d % 8, _, rfl, rfl, SqL.of hl3, atI_int mo.1 (by omega), _, _, rfl, rfl, _, rfl, _, rfl, _, _, rfl, rfl, z8, l, _, d % 8, _, rfl, rfl, hl3, seqIx mo.1 (by rw [List.length_map]; omega), _, rfl, _, _, rfl, rfl, fin (d % 8).toNat 1 (by omega) (by omega) (by omega)⟩
    · exact ⟨_, rfl, k H2 l cs k2 (b2.mono (by omega)) hl0 nlb hl2 h9 fun x hx => by have := hcs x hx; omega⟩
end
end KV

set_option Elab.async false
set_option linter.all false
set_option maxRecDepth 100000
set_option maxHeartbeats 4000000
/-! # built -/
namespace KV
open PySem PySem.Spec PyProof.Rows L2 VX RX
section
variable {P : Program} {w : World} {K : PySem.W.Frag} {mg : Str → Option Value} {base : Heap} {f : Addr} {fd : FuncData}
/-- a list of n integers -/
def IntL (H : Hp) (n : Nat) (a : Addr) : Prop := ∃ r : List Int, H a = some (.lst (r.map V.int)) ∧ r.length = n
/-- a list of lists of rows -/
structure Hs (H : Hp) (b l : Addr) (hs : List Addr) (n M : Nat) : Prop where
  ls : H l = some (.lst (hs.map V.ref))
  three : hs.length = 3
  nd : hs.Nodup
  lh : l ∉ hs
  bh : b ∉ hs
  lb : l ≠ b
  rows : ∀ h ∈ hs, ∃ as : List Addr, H h = some (.lst (as.map V.ref)) ∧ as.length ≤ M ∧ ∀ a ∈ as, IntL H n a ∧ a ≠ b ∧ a ∉ hs ∧ a ≠ l
theorem Hs.mono {H : Hp} {b l : Addr} {hs : List Addr} {n M M' : Nat} (h : Hs H b l hs n M) (le : M ≤ M') : Hs H b l hs n M' :=
  ⟨h.ls, h.three, h.nd, h.lh, h.bh, h.lb, fun x hx => let ⟨as, h1, h2, h3⟩ := h.rows x hx; ⟨as, h1, Nat.le_trans h2 le, h3⟩⟩
theorem Hs.kept {H H' : Hp} {b l : Addr} {hs : List Addr} {n M : Nat} (h : Hs H b l hs n M) (k : Kept b H H') : Hs H' b l hs n M :=
  ⟨k _ _ h.ls h.lb, h.three, h.nd, h.lh, h.bh, h.lb, fun x hx => let ⟨as, h1, h2, h3⟩ := h.rows x hx; ⟨as, k _ _ h1 (show x ≠ b from fun e => h.bh (by rw [← e]; exact hx)), h2, fun a ha => let ⟨⟨r, g1, g2⟩, g3, g4⟩ := h3 a ha; ⟨⟨r, k _ _ g1 g3, g2⟩, g3, g4⟩⟩⟩
theorem Hs.same {H H' : Hp} {b l : Addr} {hs : List Addr} {n M : Nat} (h : Hs H b l hs n M) (s : Same H H') : Hs H' b l hs n M := h.kept (Kept.of s)
/-- a row is appended to one of the three -/
theorem Hs.app {H : Hp} {b l : Addr} {hs : List Addr} {n M : Nat} (h : Hs H b l hs n M) {x y : Addr} {as : List Addr} (hx : x ∈ hs) (e : H x = some (.lst (as.map V.ref))) (la : as.length ≤ M) (has : ∀ a ∈ as, IntL H n a ∧ a ≠ b ∧ a ∉ hs ∧ a ≠ l) (hy : IntL H n y ∧ y ≠ b ∧ y ∉ hs ∧ y ≠ l) :
    Hs (upd H x (.lst (as.map V.ref ++ [V.ref y]))) b l hs n (M + 1) := by
  have keep : ∀ a, IntL H n a → a ∉ hs → IntL (upd H x (.lst (as.map V.ref ++ [V.ref y]))) n a := fun a ⟨r, g1, g2⟩ ni => ⟨r, by rw [upd_ne (show a ≠ x from fun z => ni (by rw [z]; exact hx))]; exact g1, g2⟩
  refine ⟨by rw [upd_ne (show l ≠ x from fun z => h.lh (by rw [z]; exact hx))]; exact h.ls, h.three, h.nd, h.lh, h.bh, h.lb, fun z hz => ?_⟩
  by_cases ez : z = x
  · subst ez
    refine ⟨as ++ [y], by rw [upd_same, List.map_append]; rfl, by rw [List.length_append, List.length_singleton]; omega, fun a ha => ?_⟩
    rcases List.mem_append.mp ha with ha | ha
    · obtain ⟨g1, g2⟩ := has a ha
      exact ⟨keep a g1 g2.2.1, g2⟩
    · rw [List.mem_singleton.mp ha]
      exact ⟨keep y hy.1 hy.2.2.1, hy.2⟩
  · obtain ⟨as', h1, h2, h3⟩ := h.rows z hz
    refine ⟨as', by rw [upd_ne ez]; exact h1, by omega, fun a ha => ?_⟩
    obtain ⟨g1, g2⟩ := h3 a ha
    exact ⟨keep a g1 g2.2.1, g2⟩
theorem Hs.fresh {H : Hp} {b l D : Addr} {hs : List Addr} {n M : Nat} (h : Hs H b l hs n M) (hb : ∃ o, H b = some o) (hD : H D = none) : D ≠ b ∧ D ∉ hs ∧ D ≠ l := by
  refine ⟨fun e => ?_, fun m => ?_, fun e => ?_⟩
  · obtain ⟨o, ho⟩ := hb
    rw [e, ho] at hD
    cases hD
  · obtain ⟨as, h1, _⟩ := h.rows D m
    rw [h1] at hD
    cases hD
  · rw [e, h.ls] at hD
    cases hD
theorem more_ints {H : Hp} {D : Addr} {r : List Int} {t : Nat} {v : Int} (h : r.length = t) : ∃ r' : List Int, upd (upd H D (.lst (r.map V.int))) D (.lst (r.map V.int ++ [V.int v])) = upd H D (.lst (r'.map V.int)) ∧ r'.length = t + 1 :=
  ⟨r ++ [v], by rw [upd_upd, List.map_append]; rfl, by rw [List.length_append, h]; rfl⟩
theorem IntL.upd {H : Hp} {n : Nat} {a x : Addr} {o : HO} (h : IntL H n a) (ne : a ≠ x) : IntL (upd H x o) n a := by
  obtain ⟨r, h1, h2⟩ := h
  exact ⟨r, by rw [upd_ne ne]; exact h1, h2⟩
theorem IntL.same {H H' : Hp} {n : Nat} {a : Addr} (s : Same H H') (h : IntL H n a) : IntL H' n a := by
  obtain ⟨r, h1, h2⟩ := h
  exact ⟨r, s _ _ h1, h2⟩
theorem same_upd {H H' : Hp} {x : Addr} {o : HO} (s : Same H H') (hx : H x = none) : Same H (upd H' x o) := fun u z q => by
  rw [upd_ne (ne_of_none q hx)]
  exact s _ _ q
theorem strs8 : ∀ i : Nat, i < 8 → ∃ z, atI [V.str "", .str "a", .str "b", .str "c", .str "ab", .str "ac", .str "bc", .str "abc"] (i : Int) = some (.str z) := fun i hi => by
  match i, hi with
  | 0, _ => exact ⟨_, rfl⟩
  | 1, _ => exact ⟨_, rfl⟩
  | 2, _ => exact ⟨_, rfl⟩
  | 3, _ => exact ⟨_, rfl⟩
  | 4, _ => exact ⟨_, rfl⟩
  | 5, _ => exact ⟨_, rfl⟩
  | 6, _ => exact ⟨_, rfl⟩
  | 7, _ => exact ⟨_, rfl⟩
theorem abc3 : ∀ i : Nat, i < 3 → ∃ c, atI ("abc" : Str).cps.toList (i : Int) = some c := fun i hi => by
  match i, hi with
  | 0, _ => exact ⟨_, rfl⟩
  | 1, _ => exact ⟨_, rfl⟩
  | 2, _ => exact ⟨_, rfl⟩
def spBuilt : Sp := fun vs H Q _ => ∃ (n : Nat) (c b : Addr) (cs : List Int), vs = [.int (n : Nat), .ref c] ∧ n ≤ 12 ∧ H c = some (.lst (cs.map V.int)) ∧ cs.length = 9 ∧ (∀ x ∈ cs, 0 ≤ x ∧ x ≤ 6) ∧ (∃ o, H b = some o) ∧
  ∀ H' l hs, Same H H' → H l = none → Hs H' b l hs n 400 → Q (.ref l) H'
abbrev nBu : List Str := ["_law_n", "_law_counts_here", "_law_hands_here", "_law_at", "_law_kind", "_law_turn", "_law_axis", "_law_hand", "_law_k"]
theorem sc_bu : FnScope nBu ["_law_n", "_law_counts_here"] (defScope (top iLBuilt)) := ⟨rfl, rfl, rfl, by decide +kernel, rfl, by decide +kernel, by decide +kernel⟩
theorem g_built (T : TX K mg) : ∃ fd, FnP K "_law_built" iLBuilt (He.ga K "_law_built") fd ∧ FnOk P w K mg base CX0 1 (He.ga K "_law_built") fd ["_law_n", "_law_counts_here"] spBuilt ∧ Binds K fd ["_law_n", "_law_counts_here"] [] := by
  obtain ⟨fd, F⟩ := T.def "_law_built" iLBuilt
  refine ⟨fd, F, F.ok sc_bu (fun vs H Q E h => ?_) (fun cdv A outer s H vs Q E hr h => ?_), F.bindsN fun _ _ _ _ _ _ us hl => match us, hl with | [_, _], _ => rfl⟩
  · obtain ⟨n, c, b, cs, rfl, _⟩ := h
    rfl
  · obtain ⟨n, c, b, cs, rfl, hn, hc, h9, hcs, hb, k⟩ := h
    have nd := sc_bu.nd
    refine ⟨_, PSs.nox (pss_cons (ps_set (i := 2) nd rfl (.inl rfl) (pe_lst (pa_cons (pe_lst pa_nil) (pa_cons (pe_lst pa_nil) (pa_cons (pe_lst pa_nil) pa_nil))))) (pss_cons (ps_set (i := 3) nd rfl (.inr rfl) pe_int) (pss_cons (ps_for PassesOwn.never rfl (pi_range1 (by rfl) (T.fr "range") (pa_cons pe_int pa_nil)) (pg_name (i := 4) nd rfl (.inl rfl)) (pss_one (ps_for PassesOwn.never rfl (pi_range1 (by rfl) (T.fr "range") (pa_cons (pe_ix ix_list (pv 1) (pv 4) (fun _ _ => rfl)) pa_nil)) (pg_name (i := 5) nd rfl (.inl rfl)) (pss_cons (ps_setLc (i := 6) (own := [("_law_k", 8)]) (g := gName 8) (by rfl) nd rfl rfl (sw_true rfl rfl rfl (by decide +kernel)) (pi_range1 (by rfl) (T.fr "range") (pa_cons (pv 0) pa_nil)) (blkOk_by (own := [("_law_k", 8)]) (N := nBu) (sc := defScope (top iLBuilt)) (by decide +kernel)) (fun _ _ _ _ _ => pg_name (i := 8) nd rfl (Or.inl rfl)) (fun _ _ _ _ _ => pts_nil) (fun _ _ _ _ _ => pe_callTy (r := fun xs H Q => (∃ i, xs = [.int i] ∧ Q (.int i) H) ∨ ∃ k, xs = [.bl k] ∧ Q (.int (if k then 1 else 0)) H) call_int1 (by rfl) (T.fr "int") boot_int (pa_cons (pe_cmpR op_eq (pv 8) (pv 3) (nomark _)) pa_nil))) (pss_cons (ps_cut (ps_if (pt_cmpR op_eq (pv 4) pe_int (nomark _)) (pss_cons (ps_expr (pe_bm PySem.F.plainAttrs_list PySem.F.slot_list_append PySem.F.type_list_append mt_append (pe_ix ix_list (pv 2) pe_int (fun _ _ => rfl)) (pa_cons (pv 6) pa_nil))) (pss_cons (ps_expr (pe_bm PySem.F.plainAttrs_list PySem.F.slot_list_append PySem.F.type_list_append mt_append (pe_ix ix_list (pv 2) pe_int (fun _ _ => rfl)) (pa_cons (pe_lc (own := [("_law_k", 8)]) (g := gName 8) (by rfl) nd (pi_range1 (by rfl) (T.fr "range") (pa_cons (pv 0) pa_nil)) (blkOk_by (own := [("_law_k", 8)]) (N := nBu) (sc := defScope (top iLBuilt)) (by decide +kernel)) (fun _ _ _ _ _ => pg_name (i := 8) nd rfl (Or.inl rfl)) (fun _ _ _ _ _ => pts_nil) (fun _ _ _ _ _ => pe_callTy (r := fun xs H Q => (∃ i, xs = [.int i] ∧ Q (.int i) H) ∨ ∃ k, xs = [.bl k] ∧ Q (.int (if k then 1 else 0)) H) call_int1 (by rfl) (T.fr "int") boot_int (pa_cons (pe_cmpR op_eq (pv 8) (pe_op op_add (pv 3) pe_int) (nomark _)) pa_nil))) pa_nil))) (pss_one (ps_expr (pe_bm PySem.F.plainAttrs_list PySem.F.slot_list_append PySem.F.type_list_append mt_append (pe_ix ix_list (pv 2) pe_int (fun _ _ => rfl)) (pa_cons (pe_lc (own := [("_law_k", 8)]) (g := gName 8) (by rfl) nd (pi_range1 (by rfl) (T.fr "range") (pa_cons (pv 0) pa_nil)) (blkOk_by (own := [("_law_k", 8)]) (N := nBu) (sc := defScope (top iLBuilt)) (by decide +kernel)) (fun _ _ _ _ _ => pg_name (i := 8) nd rfl (Or.inl rfl)) (fun _ _ _ _ _ => pts_nil) (fun _ _ _ _ _ => pe_callTy (r := fun xs H Q => (∃ i, xs = [.int i] ∧ Q (.int i) H) ∨ ∃ k, xs = [.bl k] ∧ Q (.int (if k then 1 else 0)) H) call_int1 (by rfl) (T.fr "int") boot_int (pa_cons ((pe_or (pe_cmpR op_eq (pv 8) (pv 3) (nomark _)) (pe_one (pe_cmpR op_eq (pv 8) (pe_op op_add (pv 3) pe_int) (nomark _))))) pa_nil))) pa_nil)))))) pss_nil)) (pss_cons (ps_for PassesOwn.never rfl (pi_range1 (by rfl) (T.fr "range") (pa_cons pe_int pa_nil)) (pg_name (i := 7) nd rfl (.inl rfl)) (pss_one (ps_cut (ps_if (PW.pt (pw_and (pt_cmpR op_lt (pv 4) pe_int (nomark _)) (pw_and1 (pt_cmpR op_gt (pe_bm PySem.F.plainAttrs_str PySem.F.slot_str_count PySem.F.type_str_count mt_count (pe_ix ix_list (pe_lst (pa_cons pe_str (pa_cons pe_str (pa_cons pe_str (pa_cons pe_str (pa_cons pe_str (pa_cons pe_str (pa_cons pe_str (pa_cons pe_str pa_nil))))))))) (pv 4) (fun _ _ => rfl)) (pa_cons (pe_ix ix_str pe_str (pv 7) (fun _ _ => rfl)) pa_nil)) pe_int (nomark _))))) (pss_one (ps_expr (pe_bm PySem.F.plainAttrs_list PySem.F.slot_list_append PySem.F.type_list_append mt_append (pe_ix ix_list (pv 2) (pv 7) (fun _ _ => rfl)) (pa_cons (pv 6) pa_nil)))) pss_nil)))) (pss_one (ps_set (i := 3) nd rfl (.inr rfl) (pe_op op_add (pe_op op_add (pv 3) pe_int) (pe_callTy (r := fun xs H Q => (∃ i, xs = [.int i] ∧ Q (.int i) H) ∨ ∃ k, xs = [.bl k] ∧ Q (.int (if k then 1 else 0)) H) call_int1 (by rfl) (T.fr "int") boot_int (pa_cons (pe_cmpR op_eq (pv 4) pe_int (nomark _)) pa_nil))))))))))) (pss_one (ps_ret (pv 2)))))), ?_⟩
    refine ⟨(by show 0 ≤ sizeLine; decide), fun h0 hh0 => ⟨(by show 0 ≤ sizeLine; decide), fun h1 hh1 => ⟨(by show 0 ≤ sizeLine; decide), fun h2 hh2 => ⟨(by show 3 ≤ sizeLine; decide), fun l hl => ?_⟩⟩⟩⟩
    have a0 : H h0 = none := hh0
    have a1 : H h1 = none := none_of hh1
    have a2 : H h2 = none := none_of (none_of hh2)
    have al : H l = none := none_of (none_of (none_of hl))
    have n01 : h0 ≠ h1 := fun e => by rw [← e, upd_same] at hh1; cases hh1
    have n12 : h1 ≠ h2 := fun e => by rw [← e, upd_same] at hh2; cases hh2
    have n02 : h0 ≠ h2 := fun e => by rw [← e, upd_ne n01, upd_same] at hh2; cases hh2
    have n2l : h2 ≠ l := fun e => by rw [← e, upd_same] at hl; cases hl
    have n1l : h1 ≠ l := fun e => by rw [← e, upd_ne n12, upd_same] at hl; cases hl
    have n0l : h0 ≠ l := fun e => by rw [← e, upd_ne n02, upd_ne n01, upd_same] at hl; cases hl
    have bn : ∀ {z}, H z = none → b ≠ z := fun hz e => by obtain ⟨o, ho⟩ := hb; rw [e, hz] at ho; cases ho
    have s0 : Same H (upd (upd (upd (upd H h0 (.lst [])) h1 (.lst [])) h2 (.lst [])) l (.lst [.ref h0, .ref h1, .ref h2])) := ((same_new (o := .lst []) hh0).trans (same_new (o := .lst []) hh1)).trans ((same_new (o := .lst []) hh2).trans (same_new hl))
    obtain ⟨hs, ehs⟩ : ∃ hs, hs = [h0, h1, h2] := ⟨_, rfl⟩
    have L0 : Hs (upd (upd (upd (upd H h0 (.lst [])) h1 (.lst [])) h2 (.lst [])) l (.lst [.ref h0, .ref h1, .ref h2])) b l hs n 0 := by
      subst ehs
      refine ⟨upd_same, rfl, by simp [n01, n02, n12], by simp [Ne.symm n0l, Ne.symm n1l, Ne.symm n2l], by simp [bn a0, bn a1, bn a2], (bn al).symm, fun x hx => ⟨[], ?_, Nat.le_refl _, fun _ h => nomatch h⟩⟩
      rcases (show x = h0 ∨ x = h1 ∨ x = h2 by simpa using hx) with rfl | rfl | rfl
      · rw [upd_ne n0l, upd_ne n02, upd_ne n01, upd_same]; rfl
      · rw [upd_ne n1l, upd_ne n12, upd_same]; rfl
      · rw [upd_ne n2l, upd_same]; rfl
    generalize upd (upd (upd (upd H h0 (.lst [])) h1 (.lst [])) h2 (.lst [])) l (.lst [.ref h0, .ref h1, .ref h2]) = H1 at s0 L0 ⊢
    have hsn : ∀ x ∈ hs, H x = none := fun x hx => by
      subst ehs
      rcases (show x = h0 ∨ x = h1 ∨ x = h2 by simpa using hx) with rfl | rfl | rfl
      · exact a0
      · exact a1
      · exact a2
    have hat : ∀ t : Nat, t < 3 → ∃ x, x ∈ hs ∧ atI (hs.map V.ref) (t : Int) = some (.ref x) := fun t ht => by
      subst ehs
      match t, ht with
      | 0, _ => exact ⟨h0, by simp, rfl⟩
      | 1, _ => exact ⟨h1, by simp, rfl⟩
      | 2, _ => exact ⟨h2, by simp, rfl⟩
    clear ehs n01 n12 n02 n2l n1l n0l
    refine ⟨9, rfl, by omega, by omega, for_range (lo := 0) (n := (9 : Int).toNat) (fun i σ H' => ∃ (at_ : Int) (z4 z5 z6 z7 : Option V), σ = [some (.int (n : Nat)), some (.ref c), some (.ref l), some (.int at_), z4, z5, z6, z7, none] ∧ Same H H' ∧ Hs H' b l hs n (36 * i)) ⟨0, none, none, none, none, rfl, s0, L0⟩ ?_ ?_⟩
    · rintro i σ H2 hi ⟨at_, z4, z5, z6, z7, rfl, s2, L2⟩
      have hi9 : i < 9 := hi
      have c2 := s2 _ _ hc
      have zi : (0 : Int) + (i : Int) = (i : Nat) := by omega
      have b6 : 0 ≤ at0 cs ((0 : Int) + (i : Int)).toNat ∧ at0 cs ((0 : Int) + (i : Int)).toNat ≤ 6 := by
        have h := hcs (at0 cs i) (by rw [at0_of (by omega)]; exact List.getElem_mem _)
        rw [zi, Int.toNat_natCast]
        exact h
      refine ⟨_, rfl, _, rfl, c, _, _, _, rfl, rfl, SqL.of c2, atI_int (by omega) (by omega), _, rfl, by omega, by omega, for_range (lo := 0) (n := (at0 cs ((0 : Int) + (i : Int)).toNat).toNat) (fun j σ H' => ∃ (at_ : Int) (z5 z6 z7 : Option V), σ = [some (.int (n : Nat)), some (.ref c), some (.ref l), some (.int at_), some (.int (0 + (i : Int))), z5, z6, z7, none] ∧ Same H H' ∧ Hs H' b l hs n (36 * i + 6 * j)) ⟨at_, z5, z6, z7, rfl, s2, L2⟩ ?_ ?_⟩
      · rintro j σ H3 hj ⟨at_, z5, z6, z7, rfl, s3, L3⟩
        have hj6 : j < 6 := by omega
        generalize hM : 36 * i + 6 * j = M at L3
        have hM4 : M ≤ 400 := by omega
        refine ⟨_, rfl, n, rfl, by omega, by omega, fun D hD => lc_it (walk_range (lo := 0) (n := ((n : Nat) : Int).toNat)) (fun t H' => ∃ r : List Int, H' = upd H3 D (.lst (r.map V.int)) ∧ r.length = t) ⟨[], rfl, rfl⟩ (fun _ _ _ _ => trivial) ?_ ?_⟩
        · rintro t v Ha Hb ht ⟨r, rfl, hr⟩ ⟨rfl, rfl⟩
          refine ⟨rfl, yes_if ?_⟩
          exact ⟨_, rfl, _, rfl, rfl, .inr ⟨_, rfl, _, upd_same, lt_line (by rw [List.length_map]; omega), more_ints hr⟩⟩
        rintro _ ⟨r, rfl, hr⟩
        have sD := same_new (o := .lst (r.map V.int)) hD
        have hbH3 : ∃ o, H3 b = some o := let ⟨o, ho⟩ := hb; ⟨o, s3 _ _ ho⟩
        obtain ⟨d1, d2, d3⟩ := L3.fresh hbH3 hD
        have iD : IntL (upd H3 D (.lst (r.map V.int))) n D := ⟨r, upd_same, by omega⟩
        have L4 := L3.same sD
        have s4 := s3.trans sD
        generalize upd H3 D (.lst (r.map V.int)) = H4 at sD iD L4 s4 ⊢
        -- the planes
        refine ⟨fun σ H' => σ = [some (.int (n : Nat)), some (.ref c), some (.ref l), some (.int at_), some (.int (0 + (i : Int))), some (.int (0 + (j : Int))), some (.ref D), z7, none] ∧ Same H H' ∧ Hs H' b l hs n (M + 3) ∧ IntL H' n D, ?_, ?_⟩
        · refine ⟨_, rfl, rfl, _, rfl, ite2 (fun e => ?_) (fun e => ⟨rfl, s4, L4.mono (by omega), iD⟩)⟩
          obtain ⟨x0, m0, e0⟩ := hat 0 (by omega)
          obtain ⟨x1, m1, e1⟩ := hat 1 (by omega)
          obtain ⟨x2, m2, e2⟩ := hat 2 (by omega)
          have nD : ∀ {x}, x ∈ hs → D ≠ x := fun hx z => d2 (by rw [z]; exact hx)
          obtain ⟨as0, g0, q0, r0⟩ := L4.rows x0 m0
          refine ⟨_, rfl, l, _, 0, .ref x0, rfl, rfl, SqL.of L4.ls, e0, .inl ⟨rfl, _, SqL.of g0⟩, _, rfl, x0, _, _, rfl, rfl, g0, lt_line (by rw [List.length_map]; omega), ?_⟩
          have L5 := L4.app m0 g0 q0 r0 ⟨iD, d1, d2, d3⟩
          have s5 := same_upd (o := .lst (as0.map V.ref ++ [V.ref D])) s4 (hsn x0 m0)
          have i5 : IntL (upd H4 x0 (.lst (as0.map V.ref ++ [V.ref D]))) n D := iD.upd (nD m0)
          generalize upd H4 x0 (.lst (as0.map V.ref ++ [V.ref D])) = H5 at L5 s5 i5 ⊢
          obtain ⟨as1, g1, q1, r1⟩ := L5.rows x1 m1
          refine ⟨_, rfl, l, _, 1, .ref x1, rfl, rfl, SqL.of L5.ls, e1, .inl ⟨rfl, _, SqL.of g1⟩, ?_⟩
          refine ⟨_, rfl, n, rfl, by omega, by omega, fun D1 hD1 => lc_it (walk_range (lo := 0) (n := ((n : Nat) : Int).toNat)) (fun t H' => ∃ r : List Int, H' = upd H5 D1 (.lst (r.map V.int)) ∧ r.length = t) ⟨[], rfl, rfl⟩ (fun _ _ _ _ => trivial) ?_ ?_⟩
          · rintro t v Ha Hb ht ⟨r, rfl, hr⟩ ⟨rfl, rfl⟩
            refine ⟨rfl, yes_if ?_⟩
            exact ⟨_, rfl, _, rfl, _, _, rfl, rfl, rfl, .inr ⟨_, rfl, _, upd_same, lt_line (by rw [List.length_map]; omega), more_ints hr⟩⟩
          rintro _ ⟨r', rfl, hr'⟩
          have t1 := same_new (o := .lst (r'.map V.int)) hD1
          have hbH5 : ∃ o, H5 b = some o := let ⟨o, ho⟩ := hb; ⟨o, s5 _ _ ho⟩
          obtain ⟨u1, u2, u3⟩ := L5.fresh hbH5 hD1
          have j1 : IntL (upd H5 D1 (.lst (r'.map V.int))) n D1 := ⟨r', upd_same, by omega⟩
          have L6 := L5.same t1
          have s6 := s5.trans t1
          have i6 := i5.same t1
          have g1' := t1 _ _ g1
          have r1' : ∀ a ∈ as1, IntL (upd H5 D1 (.lst (r'.map V.int))) n a ∧ a ≠ b ∧ a ∉ hs ∧ a ≠ l := fun a ha => ⟨(r1 a ha).1.same t1, (r1 a ha).2⟩
          generalize upd H5 D1 (.lst (r'.map V.int)) = H6 at t1 j1 L6 s6 i6 g1' r1' ⊢
          refine ⟨x1, _, _, rfl, rfl, g1', lt_line (by rw [List.length_map]; omega), ?_⟩
          have L7 := L6.app m1 g1' q1 r1' ⟨j1, u1, u2, u3⟩
          have s7 := same_upd (o := .lst (as1.map V.ref ++ [V.ref D1])) s6 (hsn x1 m1)
          have i7 : IntL (upd H6 x1 (.lst (as1.map V.ref ++ [V.ref D1]))) n D := i6.upd (nD m1)
          generalize upd H6 x1 (.lst (as1.map V.ref ++ [V.ref D1])) = H7 at L7 s7 i7 ⊢
          obtain ⟨as2, g2, q2, r2⟩ := L7.rows x2 m2
          refine ⟨_, rfl, l, _, 2, .ref x2, rfl, rfl, SqL.of L7.ls, e2, .inl ⟨rfl, _, SqL.of g2⟩, ?_⟩
          refine ⟨_, rfl, n, rfl, by omega, by omega, fun D2 hD2 => lc_it (walk_range (lo := 0) (n := ((n : Nat) : Int).toNat)) (fun t H' => ∃ r : List Int, H' = upd H7 D2 (.lst (r.map V.int)) ∧ r.length = t) ⟨[], rfl, rfl⟩ (fun _ _ _ _ => trivial) ?_ ?_⟩
          · rintro t v Ha Hb ht ⟨r, rfl, hr⟩ ⟨rfl, rfl⟩
            refine ⟨rfl, yes_if ?_⟩
            refine ⟨_, rfl, _, rfl, rfl, _, rfl, ite2 (fun z => ?_) (fun z => ?_)⟩
            · exact .inr ⟨_, rfl, _, upd_same, lt_line (by rw [List.length_map]; omega), more_ints hr⟩
            · exact ⟨_, rfl, _, rfl, _, _, rfl, rfl, rfl, .inr ⟨_, rfl, _, upd_same, lt_line (by rw [List.length_map]; omega), more_ints hr⟩⟩
          rintro _ ⟨r'', rfl, hr''⟩
          have t2 := same_new (o := .lst (r''.map V.int)) hD2
          have hbH7 : ∃ o, H7 b = some o := let ⟨o, ho⟩ := hb; ⟨o, s7 _ _ ho⟩
          obtain ⟨w1, w2, w3⟩ := L7.fresh hbH7 hD2
          have j2 : IntL (upd H7 D2 (.lst (r''.map V.int))) n D2 := ⟨r'', upd_same, by omega⟩
          have L8 := L7.same t2
          have r2' : ∀ a ∈ as2, IntL (upd H7 D2 (.lst (r''.map V.int))) n a ∧ a ≠ b ∧ a ∉ hs ∧ a ≠ l := fun a ha => ⟨(r2 a ha).1.same t2, (r2 a ha).2⟩
          have s8 := s7.trans t2
          have i8 := i7.same t2
          have g2' := t2 _ _ g2
          generalize upd H7 D2 (.lst (r''.map V.int)) = H8 at t2 j2 L8 r2' s8 i8 g2' ⊢
          refine ⟨x2, _, _, rfl, rfl, g2', lt_line (by rw [List.length_map]; omega), ?_⟩
          exact ⟨rfl, same_upd s8 (hsn x2 m2), L8.app m2 g2' q2 r2' ⟨j2, w1, w2, w3⟩, i8.upd (nD m2)⟩
        rintro _ H5 ⟨rfl, s5, L5, iD5⟩
        refine ⟨3, rfl, by omega, by omega, for_range (lo := 0) (n := (3 : Int).toNat) (fun t σ H' => ∃ z7 : Option V, σ = [some (.int (n : Nat)), some (.ref c), some (.ref l), some (.int at_), some (.int (0 + (i : Int))), some (.int (0 + (j : Int))), some (.ref D), z7, none] ∧ Same H H' ∧ Hs H' b l hs n (M + 3 + t) ∧ IntL H' n D) ⟨z7, rfl, s5, L5, iD5⟩ ?_ ?_⟩
        · rintro t σ H6 ht ⟨z7', rfl, s6, L6, i6⟩
          have ht3 : t < 3 := ht
          have zt : (0 : Int) + (t : Int) = (t : Nat) := by omega
          refine ⟨fun σ H' => σ = [some (.int (n : Nat)), some (.ref c), some (.ref l), some (.int at_), some (.int (0 + (i : Int))), some (.int (0 + (j : Int))), some (.ref D), some (.int (0 + (t : Int))), none] ∧ Same H H' ∧ Hs H' b l hs n (M + 3 + t + 1) ∧ IntL H' n D, ?_, fun σ G h => ⟨_, h.1, h.2.1, h.2.2.1, h.2.2.2⟩⟩
          refine ⟨_, rfl, _, _, rfl, rfl, _, rfl, ite2 (fun e => ?_) (fun e => ⟨rfl, s6, L6.mono (by omega), i6⟩)⟩
          have i8 : i < 8 := by
            have := of_decide_eq_true e
            omega
          obtain ⟨z, hz⟩ := strs8 i i8
          obtain ⟨ch, hch⟩ := abc3 t ht3
          refine ⟨(by show 8 ≤ sizeLine; decide), fun q hq => ⟨_, rfl, q, _, _, .str z, rfl, rfl, SqL.of upd_same, (by rw [zi]; exact hz), (show "str" = "str" from rfl), ?_⟩⟩
          have sq := same_new (o := .lst [V.str "", .str "a", .str "b", .str "c", .str "ab", .str "ac", .str "bc", .str "abc"]) hq
          have L7 := L6.same sq
          have s7 := s6.trans sq
          have i7 := i6.same sq
          refine ⟨_, rfl, "abc", _, _, rfl, rfl, (by show 3 ≤ sizeLine; decide), by rw [zt]; exact hch, _, _, rfl, rfl, _, _, rfl, rfl, _, rfl, ?_⟩
          refine ite2 (fun e2 => ?_) (fun e2 => ⟨rfl, s7, L7.mono (by omega), i7⟩)
          obtain ⟨x, mx, ex⟩ := hat t ht3
          obtain ⟨as, g, q1, r⟩ := L7.rows x mx
          refine ⟨_, rfl, _, rfl, l, _, _, .ref x, rfl, rfl, SqL.of L7.ls, by rw [zt]; exact ex, .inl ⟨rfl, _, SqL.of g⟩, _, rfl, x, _, _, rfl, rfl, g, lt_line (by rw [List.length_map]; omega), ?_⟩
          exact ⟨rfl, same_upd s7 (hsn x mx), L7.app mx g q1 r ⟨i7, d1, d2, d3⟩, i7.upd fun z => d2 (by rw [z]; exact mx)⟩
        · rintro σ H6 ⟨z7', rfl, s6, L6, i6⟩
          refine ⟨_, rfl, _, _, rfl, rfl, _, rfl, rfl, .inr ⟨_, rfl, _, _, rfl, rfl, ?_⟩⟩
          exact ⟨_, _, _, _, rfl, s6, L6.mono (by show M + 3 + 3 ≤ 36 * i + 6 * (j + 1); omega)⟩
      · rintro σ H3 ⟨at_, z5, z6, z7, rfl, s3, L3⟩
        exact ⟨_, _, _, _, _, rfl, s3, L3.mono (by omega)⟩
    · rintro σ H2 ⟨at_, z4, z5, z6, z7, rfl, s2, L2⟩
      exact ⟨_, rfl, k H2 l hs s2 al (L2.mono (by show 36 * 9 ≤ 400; decide))⟩
end
end KV

set_option Elab.async false
set_option linter.all false
set_option maxRecDepth 100000
set_option maxHeartbeats 4000000
/-! # stirred -/
namespace KV
open PySem PySem.Spec PyProof.Rows L2 VX RX
section
variable {P : Program} {w : World} {K : PySem.W.Frag} {mg : Str → Option Value} {base : Heap} {f : Addr} {fd : FuncData}
theorem pi_listK {X : Cx} {tg l : Expr} {tl : TE} (K : PySem.W.Frag) (hl : PE X l tl) (hK : X.K = K := by rfl) : PI X tg l (iList K tl) := by
  subst hK
  exact pi_list hl
abbrev rListOf (K : PySem.W.Frag) : List V → Hp → VK → Prop := fun xs H Q => ∃ p ys, xs = [V.ref p] ∧ (SqL K H p ys ∨ SqT K H p ys) ∧ ∀ l, H l = none → Q (.ref l) (upd H l (.lst ys))
/-- three lists of rows, all of it new -/
structure St (H0 H : Hp) (b l : Addr) (hs : List Addr) (n M : Nat) : Prop where
  ls : H l = some (.lst (hs.map V.ref))
  nd : hs.Nodup
  lh : l ∉ hs
  lb : l ≠ b
  l0 : H0 l = none
  h0 : ∀ h ∈ hs, H0 h = none ∧ h ≠ b
  rows : ∀ h ∈ hs, ∃ as : List Addr, H h = some (.lst (as.map V.ref)) ∧ as.length ≤ M ∧ ∀ a ∈ as, IntL H n a ∧ a ≠ b ∧ a ∉ hs ∧ a ≠ l ∧ H0 a = none
theorem IntL.kept {H H' : Hp} {n : Nat} {a b : Addr} (k : Kept b H H') (ne : a ≠ b) (h : IntL H n a) : IntL H' n a := by
  obtain ⟨r, h1, h2⟩ := h
  exact ⟨r, k _ _ h1 ne, h2⟩
theorem St.kept {H0 H H' : Hp} {b l : Addr} {hs : List Addr} {n M : Nat} (h : St H0 H b l hs n M) (k : Kept b H H') : St H0 H' b l hs n M :=
  ⟨k _ _ h.ls h.lb, h.nd, h.lh, h.lb, h.l0, h.h0, fun x hx => let ⟨as, h1, h2, h3⟩ := h.rows x hx; ⟨as, k _ _ h1 (h.h0 x hx).2, h2, fun a ha => let ⟨g1, g2⟩ := h3 a ha; ⟨g1.kept k g2.1, g2⟩⟩⟩
theorem St.hs_ {H0 H : Hp} {b l : Addr} {hs : List Addr} {n M : Nat} (h : St H0 H b l hs n M) (h3 : hs.length = 3) : Hs H b l hs n M :=
  ⟨h.ls, h3, h.nd, h.lh, fun m => (h.h0 b m).2 rfl, h.lb, fun x hx => let ⟨as, h1, h2, h3⟩ := h.rows x hx; ⟨as, h1, h2, fun a ha => let ⟨g1, g2, g3, g4, _⟩ := h3 a ha; ⟨g1, g2, g3, g4⟩⟩⟩
theorem refs_inj {as cs : List Addr} (h : as.map V.ref = cs.map V.ref) : as = cs := by
  induction as generalizing cs with
  | nil => cases cs <;> first | rfl | cases h
  | cons a as ih =>
    cases cs with
    | nil => cases h
    | cons c cs =>
      rw [List.map_cons, List.map_cons] at h
      injection h with h1 h2
      injection h1 with h1
      rw [h1, ih h2]
theorem St.at {H0 H : Hp} {b l : Addr} {hs as : List Addr} {n M : Nat} (h : St H0 H b l hs n M) {x : Addr} (hx : x ∈ hs) (e : H x = some (.lst (as.map V.ref))) : as.length ≤ M ∧ ∀ a ∈ as, IntL H n a ∧ a ≠ b ∧ a ∉ hs ∧ a ≠ l ∧ H0 a = none := by
  obtain ⟨as', h1, h2, h3⟩ := h.rows x hx
  rw [e] at h1
  injection h1 with h1
  injection h1 with h1
  obtain rfl := refs_inj h1
  exact ⟨h2, h3⟩
/-- a row is written anew -/
theorem St.set {H0 H : Hp} {b l : Addr} {hs as : List Addr} {n M : Nat} (h : St H0 H b l hs n M) {x a : Addr} (hx : x ∈ hs) (e : H x = some (.lst (as.map V.ref))) (ha : a ∈ as) {r : List Int} (hr : r.length = n) :
    St H0 (L2.upd H a (.lst (r.map V.int))) b l hs n M ∧ ∀ z ∈ hs, L2.upd H a (.lst (r.map V.int)) z = H z := by
  obtain ⟨_, h3⟩ := h.at hx e
  obtain ⟨g1, g2, g3, g4, g5⟩ := h3 a ha
  have keep : ∀ z ∈ hs, L2.upd H a (.lst (r.map V.int)) z = H z := fun z hz => upd_ne (show z ≠ a from fun q => g3 (by rw [← q]; exact hz))
  refine ⟨⟨by rw [upd_ne (Ne.symm g4)]; exact h.ls, h.nd, h.lh, h.lb, h.l0, h.h0, fun z hz => ?_⟩, keep⟩
  obtain ⟨cs, k1, k2, k3⟩ := h.rows z hz
  refine ⟨cs, by rw [keep z hz]; exact k1, k2, fun c hc => ?_⟩
  obtain ⟨m1, m2⟩ := k3 c hc
  refine ⟨?_, m2⟩
  by_cases q : c = a
  · rw [q]
    exact ⟨r, upd_same, hr⟩
  · exact m1.upd q
/-- one item of a list of rows is put anew -/
theorem St.put {H0 H : Hp} {b l : Addr} {hs as : List Addr} {n M : Nat} (h : St H0 H b l hs n M) {x y : Addr} (hx : x ∈ hs) (e : H x = some (.lst (as.map V.ref))) (j : Nat) (hy : IntL H n y ∧ y ≠ b ∧ y ∉ hs ∧ y ≠ l ∧ H0 y = none) :
    St H0 (L2.upd H x (.lst ((as.set j y).map V.ref))) b l hs n M := by
  obtain ⟨la, h3⟩ := h.at hx e
  have keep : ∀ a, IntL H n a → a ∉ hs → IntL (L2.upd H x (.lst ((as.set j y).map V.ref))) n a := fun a i ni => i.upd fun z => ni (by rw [z]; exact hx)
  refine ⟨by rw [upd_ne (show l ≠ x from fun z => h.lh (by rw [z]; exact hx))]; exact h.ls, h.nd, h.lh, h.lb, h.l0, h.h0, fun z hz => ?_⟩
  by_cases ez : z = x
  · subst ez
    refine ⟨as.set j y, upd_same, by rw [List.length_set]; exact la, fun a ha => ?_⟩
    rcases List.mem_or_eq_of_mem_set ha with ha | rfl
    · obtain ⟨g1, g2⟩ := h3 a ha
      exact ⟨keep a g1 g2.2.1, g2⟩
    · exact ⟨keep a hy.1 hy.2.2.1, hy.2⟩
  · obtain ⟨cs, k1, k2, k3⟩ := h.rows z hz
    refine ⟨cs, by rw [upd_ne ez]; exact k1, k2, fun a ha => ?_⟩
    obtain ⟨g1, g2⟩ := k3 a ha
    exact ⟨keep a g1 g2.2.1, g2⟩
theorem Kept.upd {H H' : Hp} {b x : Addr} {o : HO} (k : Kept b H H') (hx : H x = Option.none) : Kept b H (L2.upd H' x o) := fun u z q nu => by
  rw [upd_ne (ne_of_none q hx)]
  exact k _ _ q nu
theorem BoxK.upd {H : Hp} {b x : Addr} {N : Nat} {o : HO} (h : BoxK H b N) (ne : x ≠ b) : BoxK (L2.upd H x o) b N := by
  obtain ⟨x1, y1, z1, hx, r⟩ := h
  exact ⟨x1, y1, z1, by rw [upd_ne (Ne.symm ne)]; exact hx, r⟩
theorem atI_last {as : List Addr} (h : 0 < as.length) : ∃ y, y ∈ as ∧ atI (as.map V.ref) (-1) = some (.ref y) := by
  have e : ixN (as.map V.ref).length (-1) = some (as.length - 1) := by
    unfold ixN
    rw [if_neg (by decide), if_pos (by rw [List.length_map]; omega), List.length_map]
    congr 1
    omega
  refine ⟨as[as.length - 1]'(by omega), List.getElem_mem _, ?_⟩
  unfold atI
  rw [e, Option.bind_some, List.getElem?_map, List.getElem?_eq_getElem (by omega)]
  rfl
def spStir : Sp := fun vs H Q _ => ∃ (b l0 : Addr) (N n M : Nat) (p : Int) (hs0 : List Addr), vs = [.ref b, .int p, .int (n : Nat), .ref l0] ∧ BoxK H b N ∧ N ≤ 700000 ∧ isP p = true ∧ n ≤ 12 ∧ Hs H b l0 hs0 n M ∧ M ≤ 400 ∧
  ∀ H' l hs, Kept b H H' → BoxK H' b (N + 100) → H l = none → Hs H' b l hs n M → Q (.ref l) H'
abbrev nSt : List Str := ["_law_box_here", "_law_p", "_law_n", "_law_hands_here", "_law_made", "_law_turn", "_law_i", "_law_j", "_law_factor", "_law_rows_here", "_law_row"]
theorem sc_st : FnScope nSt ["_law_box_here", "_law_p", "_law_n", "_law_hands_here"] (defScope (top iLStir)) := ⟨rfl, rfl, rfl, by decide +kernel, rfl, by decide +kernel, by decide +kernel⟩
theorem g_stir (T : TX K mg) : ∃ fd, FnP K "_law_stirred" iLStir (He.ga K "_law_stirred") fd ∧ FnOk P w K mg base CX0 2 (He.ga K "_law_stirred") fd ["_law_box_here", "_law_p", "_law_n", "_law_hands_here"] spStir ∧ Binds K fd ["_law_box_here", "_law_p", "_law_n", "_law_hands_here"] [] := by
  obtain ⟨fd, F⟩ := T.def "_law_stirred" iLStir
  obtain ⟨_, FT, GT, BT⟩ := g_take (P := P) (w := w) (base := base) T
  obtain ⟨fdU, FU⟩ := T.def "_law_plus" iLPlus
  have GU : FnOk P w K mg base CX0 1 _ fdU ["_law_p", "_law_one", "_law_factor", "_law_other"] spPlus := ok_plus FU T
  have BU : Binds K fdU ["_law_p", "_law_one", "_law_factor", "_law_other"] [] := FU.bindsN fun _ _ _ _ _ _ us hl => match us, hl with | [_, _, _, _], _ => rfl
  refine ⟨fd, F, F.ok sc_st (fun vs H Q E h => ?_) (fun cdv A outer s H vs Q E hr h => ?_), F.bindsN fun _ _ _ _ _ _ us hl => match us, hl with | [_, _, _, _], _ => rfl⟩
  · obtain ⟨b, l0, N, n, M, p, hs0, rfl, _⟩ := h
    rfl
  · obtain ⟨b, l0, N, n, M, p, hs0, rfl, hb, hN, hp, hn, L0, hM, k⟩ := h
    have nd := sc_st.nd
    have bl : bootBuiltins "list" = some (Value.type "list") := by decide +kernel
    refine ⟨_, PSs.nox (pss_cons (ps_setLc (i := 4) (own := [("_law_rows_here", 9)]) (g := gName 9) (by rfl) nd rfl rfl (sw_true rfl rfl rfl (by decide +kernel)) (pi_list (pv 3)) (blkOk_by (own := [("_law_rows_here", 9)]) (N := nSt) (sc := defScope (top iLStir)) (by decide +kernel)) (fun _ _ _ _ _ => pg_name (i := 9) nd rfl (Or.inl rfl)) (fun _ _ _ _ _ => pts_nil) (fun _ _ _ _ _ => pe_lc (own := [("_law_row", 10)]) (g := gName 10) (by rfl) nd (pi_listK K (pv 9)) (blkOk_by (own := [("_law_row", 10)]) (N := nSt) (sc := { kind := .function, names := [(".0", .local), ("_law_rows_here", .local)], isGenerator := false, isCoroutine := false }) (by decide +kernel)) (fun _ _ _ _ _ => pg_name (i := 10) nd rfl (Or.inl rfl)) (fun _ _ _ _ _ => pts_nil) (fun _ _ _ _ _ => pe_callTy (r := rListOf K) call_list_of (by rfl) (T.fr "list") bl (pa_cons (pv 10) pa_nil)))) (pss_cons (ps_for PassesOwn.never rfl (pi_range1 (by rfl) (T.fr "range") (pa_cons (pe_op op_mul (pe_call GT hr (by rfl) (T.df "_law_take" iLTake) FT.kp BT .nil pass0 (pa_cons (pv 0) (pa_cons pe_int pa_nil))) (pe_callTy (r := fun xs H Q => (∃ i, xs = [.int i] ∧ Q (.int i) H) ∨ ∃ k, xs = [.bl k] ∧ Q (.int (if k then 1 else 0)) H) call_int1 (by rfl) (T.fr "int") boot_int (pa_cons (pe_cmpR op_gt (pv 2) pe_int (nomark _)) pa_nil))) pa_nil)) (pg_name (i := 5) nd rfl (.inl rfl)) (pss_cons (ps_set (i := 6) nd rfl (.inl rfl) (pe_call GT hr (by rfl) (T.df "_law_take" iLTake) FT.kp BT .nil pass0 (pa_cons (pv 0) (pa_cons (pv 2) pa_nil)))) (pss_cons (ps_set (i := 7) nd rfl (.inl rfl) (pe_op op_mod (pe_op op_add (pe_op op_add (pv 6) pe_int) (pe_call GT hr (by rfl) (T.df "_law_take" iLTake) FT.kp BT .nil pass0 (pa_cons (pv 0) (pa_cons (pe_op op_sub (pv 2) pe_int) pa_nil)))) (pv 2))) (pss_cons (ps_set (i := 8) nd rfl (.inl rfl) (pe_op op_add pe_int (pe_call GT hr (by rfl) (T.df "_law_take" iLTake) FT.kp BT .nil pass0 (pa_cons (pv 0) (pa_cons (pe_op op_sub (pv 1) pe_int) pa_nil))))) (pss_one (ps_for PassesOwn.never rfl (pi_list (pv 4)) (pg_name (i := 9) nd rfl (.inl rfl)) (pss_one (ps_for PassesOwn.never rfl (pi_list (pv 9)) (pg_name (i := 10) nd rfl (.inl rfl)) (pss_one (ps_asg (pe_op op_mod (pe_op op_add (pe_ix ix_list (pv 10) (pv 7) (fun _ _ => rfl)) (pe_op op_mul (pv 8) (pe_ix ix_list (pv 10) (pv 6) (fun _ _ => rfl)))) (pv 1)) (pg_sub (pv 10) (pv 7) set_list))))))))))) (pss_cons (ps_for PassesOwn.never rfl (pi_list (pv 4)) (pg_name (i := 9) nd rfl (.inl rfl)) (pss_one (ps_if (PW.pt (pw_and (pt_cmpR op_gt (pe_callB call_len_seq (by rfl) (T.fr "len") boot_len (pa_cons (pv 9) pa_nil)) pe_int (nomark _)) (pw_and1 (pt_cmpR op_eq (pe_call GT hr (by rfl) (T.df "_law_take" iLTake) FT.kp BT .nil pass0 (pa_cons (pv 0) (pa_cons pe_int pa_nil))) pe_int (nomark _))))) (pss_one (ps_asg (pe_callTy (r := rListOf K) call_list_of (by rfl) (T.fr "list") bl (pa_cons (pe_call GU hr (by rfl) (T.df "_law_plus" iLPlus) FU.kp BU .nil pass0 (pa_cons (pv 1) (pa_cons (pe_ix ix_list (pv 9) pe_int (fun _ _ => rfl)) (pa_cons pe_int (pa_cons (pe_ix ix_list (pv 9) (pe_un un_neg pe_int) (fun _ _ => rfl)) pa_nil))))) pa_nil)) (pg_sub (pv 9) pe_int set_list))) pss_nil))) (pss_one (ps_ret (pv 4)))))), ?_⟩
    have hq := isP_pos hp
    have bex : ∃ o, H b = some o := let ⟨xs, hx⟩ := hb.at; ⟨_, hx⟩
    refine ⟨_, rfl, l0, rfl, ⟨_, SqL.of L0.ls⟩, fun D hD => ?_⟩
    obtain ⟨nDb, nDh, nDl⟩ := L0.fresh bex hD
    refine lc_it (walk_list (K := K) (a := l0) (xs := hs0.map V.ref)) (fun i H' => Same H H' ∧ ∃ hs, hs.length = i ∧ St H H' b D hs n M) ⟨same_new hD, [], rfl, upd_same, by simp, by simp, nDb, hD, (fun _ h => nomatch h), (fun _ h => nomatch h)⟩ (fun i H' _ z => SqL.of (z.1 _ _ L0.ls)) ?_ ?_
    · rintro i v _ H1 hi ⟨s1, hs, hlen, S1⟩ ⟨rfl, hv⟩
      obtain ⟨h0, hh0, rfl⟩ := refs_at hv
      have m0 : h0 ∈ hs0 := List.mem_of_getElem? hh0
      obtain ⟨as0, g0, q0, r0⟩ := L0.rows h0 m0
      have g1 := s1 _ _ g0
      refine ⟨rfl, yes_if ?_⟩
      refine ⟨_, rfl, h0, rfl, ⟨_, SqL.of g1⟩, fun D1 hD1 => lc_it (walk_list (K := K) (a := h0) (xs := as0.map V.ref)) (fun k H' => Same H1 H' ∧ ∃ as, H' D1 = some (.lst (as.map V.ref)) ∧ as.length = k ∧ ∀ a ∈ as, IntL H' n a ∧ H1 a = none ∧ a ≠ D1) ⟨same_new hD1, [], upd_same, rfl, (fun _ h => nomatch h)⟩ (fun i H' _ z => SqL.of (z.1 _ _ g1)) ?_ ?_⟩
      · rintro j v _ H2 hj ⟨s2, as, hD2, hal, has⟩ ⟨rfl, hv⟩
        obtain ⟨a, ha, rfl⟩ := refs_at hv
        obtain ⟨⟨r, k1, k2⟩, _⟩ := r0 a (List.mem_of_getElem? ha)
        have k1' := s2 _ _ (s1 _ _ k1)
        have hj' : j < as0.length := by simpa using hj
        refine ⟨rfl, yes_if ?_⟩
        refine ⟨_, rfl, a, _, rfl, .inl (SqL.of k1'), fun e he => ?_⟩
        have ne : e ≠ D1 := fun z => by rw [z, hD2] at he; cases he
        have se := same_new (o := .lst (r.map V.int)) he
        refine ⟨as.map V.ref, se _ _ hD2, lt_line (by rw [List.length_map]; omega), fun u o q => ?_, as ++ [e], ?_, by rw [List.length_append, List.length_singleton, hal], fun c hc => ?_⟩
        · rw [upd_ne (ne_of_none q hD1)]
          exact se _ _ (s2 _ _ q)
        · rw [upd_same, List.map_append]; rfl
        · rcases List.mem_append.mp hc with hc | hc
          · obtain ⟨m1, m2, m3⟩ := has c hc
            exact ⟨(m1.same se).upd m3, m2, m3⟩
          · rw [List.mem_singleton.mp hc]
            exact ⟨IntL.upd ⟨r, upd_same, k2⟩ ne, none_back s2 he, ne⟩
      · rintro H2 ⟨s2, as, hD2, hal, has⟩
        rw [List.length_map] at hal
        have S2 := S1.kept (Kept.of s2)
        have hh : ∀ h ∈ hs, ∃ o, H1 h = some o := fun h hm => let ⟨_, e, _⟩ := S1.rows h hm; ⟨_, e⟩
        have fr : ∀ c, H1 c = none → c ≠ b ∧ c ∉ hs ∧ c ≠ D ∧ H c = none := fun c hc => by
          refine ⟨fun e => ?_, fun m => ?_, fun e => ?_, none_back s1 hc⟩
          · obtain ⟨o, ho⟩ := bex
            rw [e, s1 _ _ ho] at hc
            cases hc
          · obtain ⟨o, ho⟩ := hh c m
            rw [ho] at hc
            cases hc
          · rw [e, S1.ls] at hc
            cases hc
        obtain ⟨f1, f2, f3, f4⟩ := fr D1 hD1
        have i3 : i < 3 := by rw [List.length_map, L0.three] at hi; exact hi
        refine ⟨hs.map V.ref, S2.ls, lt_line (by rw [List.length_map]; omega), fun u o q => ?_, hs ++ [D1], by rw [List.length_append, hlen]; rfl, ?_⟩
        · rw [upd_ne (ne_of_none q hD)]
          exact s2 _ _ (s1 _ _ q)
        · have fr2 : ∀ c, IntL H2 n c → c ≠ D → IntL (L2.upd H2 D (.lst (hs.map V.ref ++ [V.ref D1]))) n c := fun c hc ne => hc.upd ne
          refine ⟨by rw [upd_same, List.map_append]; rfl, ?_, ?_, nDb, hD, fun h hm => ?_, fun h hm => ?_⟩
          · refine List.nodup_append.mpr ⟨S1.nd, by simp, fun a ha c hc e => f2 ?_⟩
            rw [← List.mem_singleton.mp hc, ← e]
            exact ha
          · intro m
            rcases List.mem_append.mp m with m | m
            · exact S1.lh m
            · exact f3 (List.mem_singleton.mp m).symm
          · rcases List.mem_append.mp hm with hm | hm
            · exact S1.h0 h hm
            · rw [List.mem_singleton.mp hm]
              exact ⟨f4, f1⟩
          · rcases List.mem_append.mp hm with hm | hm
            · obtain ⟨cs, e1, e2, e3⟩ := S2.rows h hm
              refine ⟨cs, by rw [upd_ne (show h ≠ D from fun z => S1.lh (by rw [← z]; exact hm))]; exact e1, e2, fun a ha => ?_⟩
              obtain ⟨w1, w2, w3, w4, w5⟩ := e3 a ha
              refine ⟨fr2 a w1 w4, w2, fun m => ?_, w4, w5⟩
              rcases List.mem_append.mp m with m | m
              · exact w3 m
              · obtain ⟨cs', e1', _, e3'⟩ := S1.rows h hm
                have : cs' = cs := by
                  have q := s2 _ _ e1'
                  rw [e1] at q
                  injection q with q
                  injection q with q
                  exact (refs_inj q).symm
                subst this
                obtain ⟨⟨r, w6, _⟩, _⟩ := e3' a ha
                rw [List.mem_singleton.mp m, hD1] at w6
                cases w6
            · rw [List.mem_singleton.mp hm]
              refine ⟨as, by rw [upd_ne f3]; exact hD2, by omega, fun a ha => ?_⟩
              obtain ⟨w1, w2, w3⟩ := has a ha
              obtain ⟨v1, v2, v3, v4⟩ := fr a w2
              refine ⟨fr2 a w1 v3, v1, fun m => ?_, v3, v4⟩
              rcases List.mem_append.mp m with m | m
              · exact v2 m
              · exact w3 (List.mem_singleton.mp m)
    rintro H1 ⟨s1, hs, hlen, S1⟩
    rw [List.length_map, L0.three] at hlen
    have K1 : Kept b H H1 := Kept.of s1
    have b1 := hb.same s1
    -- the turns
    refine ⟨_, rfl, take_use2 (m := 8) b1 (by omega) (by decide) (by decide) fun d H2 d0 d1 k2 b2 _ => ?_⟩
    have K2 := K1.trans k2
    have S2 := S1.kept k2
    refine ⟨_, rfl, _, _, rfl, rfl, .inr ⟨_, rfl, _, _, rfl, rfl, .inl ⟨by omega, by omega⟩, ?_⟩⟩
    generalize hcnt : d * (if decide ((1 : Int) < (n : Nat)) = true then 1 else 0) = cnt
    have hc8 : 0 ≤ cnt ∧ cnt ≤ 7 ∧ (0 < cnt → 1 < n) := by
      rw [← hcnt]
      by_cases e : (1 : Int) < (n : Nat)
      · rw [if_pos (decide_eq_true e)]
        omega
      · rw [if_neg (by simpa using e)]
        omega
    refine ⟨cnt, by rw [← hcnt], by omega, by omega, for_range (lo := 0) (n := cnt.toNat) (fun i σ H' => ∃ z5 z6 z7 z8 z9 z10 : Option V, σ = [some (.ref b), some (.int p), some (.int (n : Nat)), some (.ref l0), some (.ref D), z5, z6, z7, z8, z9, z10] ∧ Kept b H H' ∧ BoxK H' b (N + 1 + 3 * i) ∧ St H H' b D hs n M) ⟨none, none, none, none, none, none, rfl, K2, b2, S2⟩ ?_ ?_⟩
    · rintro i σ H3 hi ⟨z5, z6, z7, z8, z9, z10, rfl, K3, b3, S3⟩
      have n1 : 1 < n := hc8.2.2 (by omega)
      refine ⟨_, rfl, _, rfl, take_use2 (m := (n : Nat)) b3 (by omega) (by omega) (by omega) fun iv H4 i0 i1 k4 b4 _ => ?_⟩
      refine ⟨_, rfl, _, _, rfl, rfl, _, rfl, _, rfl, _, _, rfl, rfl, take_use2 (m := (n : Nat) - 1) b4 (by omega) (by omega) (by omega) fun jv H5 j0 j1 k5 b5 _ => ?_⟩
      refine ⟨_, _, rfl, rfl, _, rfl, _, _, rfl, rfl, (by omega), ?_⟩
      refine ⟨_, rfl, _, rfl, _, _, rfl, rfl, take_use2 (m := p - 1) b5 (by omega) (by omega) (by omega) fun fv H6 f0 f1 k6 b6 _ => ?_⟩
      refine ⟨_, _, rfl, rfl, ?_⟩
      have mj : 0 ≤ (iv + 1 + jv) % (n : Nat) ∧ (iv + 1 + jv) % (n : Nat) < (n : Nat) := ⟨Int.emod_nonneg _ (by omega), Int.emod_lt_of_pos _ (by omega)⟩
      obtain ⟨J, hJ⟩ : ∃ J, J = (iv + 1 + jv) % ((n : Nat) : Int) := ⟨_, rfl⟩
      rw [← hJ] at mj
      have K6 := ((K3.trans k4).trans k5).trans k6
      have S6 := ((S3.kept k4).kept k5).kept k6
      have b6' : BoxK H6 b (N + 1 + 3 * (i + 1)) := b6.mono (by omega)
      refine ⟨_, rfl, D, rfl, ⟨_, SqL.of S6.ls⟩, for_list (xs := hs.map V.ref) (fun t σ H' => ∃ z9 z10 : Option V, σ = [some (.ref b), some (.int p), some (.int (n : Nat)), some (.ref l0), some (.ref D), some (.int (0 + (i : Int))), some (.int iv), some (.int J), some (.int (1 + fv)), z9, z10] ∧ Kept b H H' ∧ BoxK H' b (N + 1 + 3 * (i + 1)) ∧ St H H' b D hs n M) ⟨z9, z10, (by subst hJ; rfl), K6, b6', S6⟩ (fun t σ H' _ z => ?_) ?_ ?_⟩
      · obtain ⟨_, _, _, _, _, S⟩ := z
        exact SqL.of S.ls
      · rintro t v σ H7 hv ⟨z9, z10, rfl, K7, b7, S7⟩
        obtain ⟨h, hh, rfl⟩ := refs_at hv
        have mh : h ∈ hs := List.mem_of_getElem? hh
        obtain ⟨as, ga, _⟩ := S7.rows h mh
        refine ⟨_, rfl, h, rfl, ⟨_, SqL.of ga⟩, for_list (xs := as.map V.ref) (fun u σ H' => ∃ z10 : Option V, σ = [some (.ref b), some (.int p), some (.int (n : Nat)), some (.ref l0), some (.ref D), some (.int (0 + (i : Int))), some (.int iv), some (.int J), some (.int (1 + fv)), some (.ref h), z10] ∧ Kept b H H' ∧ BoxK H' b (N + 1 + 3 * (i + 1)) ∧ St H H' b D hs n M ∧ H' h = some (.lst (as.map V.ref))) ⟨z10, rfl, K7, b7, S7, ga⟩ (fun t σ H' _ z => ?_) ?_ ?_⟩
        · obtain ⟨_, _, _, _, _, g⟩ := z
          exact SqL.of g
        · rintro u v σ H8 hv ⟨z10, rfl, K8, b8, S8, g8⟩
          obtain ⟨a, ha, rfl⟩ := refs_at hv
          have ma : a ∈ as := List.mem_of_getElem? ha
          obtain ⟨⟨r, hr, hrl⟩, nab, _, _, aH⟩ := (S8.at mh g8).2 a ma
          have lr : (r.length : Int) = (n : Nat) := by rw [hrl]
          refine ⟨_, rfl, _, rfl, a, _, J, _, rfl, rfl, SqL.of hr, atI_int mj.1 (by omega), _, rfl, _, rfl, _, rfl, a, _, iv, _, rfl, rfl, SqL.of hr, atI_int i0 (by omega), _, _, rfl, rfl, .inl ⟨by omega, by omega⟩, _, _, rfl, rfl, _, rfl, _, _, rfl, rfl, (by omega), _, rfl, _, rfl, a, _, J, _, rfl, rfl, hr, seqIx mj.1 (by rw [List.length_map]; omega), ?_⟩
          rw [← List.map_set]
          have hn' : (r.set J.toNat ((at0 r J.toNat + (1 + fv) * at0 r iv.toNat) % p)).length = n := by rw [List.length_set, hrl]
          obtain ⟨S9, keep⟩ := S8.set mh g8 ma hn'
          exact ⟨_, rfl, K8.upd aH, b8.upd nab, S9, by rw [keep h mh]; exact g8⟩
        · rintro σ H8 ⟨z10, rfl, K8, b8, S8, g8⟩
          exact ⟨_, _, rfl, K8, b8, S8⟩
      · rintro σ H7 ⟨z9, z10, rfl, K7, b7, S7⟩
        exact ⟨_, _, _, _, _, _, rfl, K7, b7, S7⟩
    · rintro σ H3 ⟨z5, z6, z7, z8, z9, z10, rfl, K3, b3, S3⟩
      refine ⟨_, rfl, D, rfl, ⟨_, SqL.of S3.ls⟩, for_list (xs := hs.map V.ref) (fun t σ H' => ∃ z9 z10 : Option V, σ = [some (.ref b), some (.int p), some (.int (n : Nat)), some (.ref l0), some (.ref D), z5, z6, z7, z8, z9, z10] ∧ Kept b H H' ∧ BoxK H' b (N + 30 + t) ∧ St H H' b D hs n M) ⟨z9, z10, rfl, K3, b3.mono (by omega), S3⟩ (fun t σ H' _ z => ?_) ?_ ?_⟩
      · obtain ⟨_, _, _, _, _, S⟩ := z
        exact SqL.of S.ls
      · rintro t v σ H4 hv ⟨z9, z10, rfl, K4, b4, S4⟩
        obtain ⟨h, hh, rfl⟩ := refs_at hv
        have mh : h ∈ hs := List.mem_of_getElem? hh
        have ht3 : t < 3 := by
          have := (List.getElem?_eq_some_iff.mp hh).1
          omega
        obtain ⟨as, ga, la, ra⟩ := S4.rows h mh
        refine ⟨_, rfl, h, _, rfl, .inl (SqL.of ga), _, _, rfl, rfl, _, rfl, ite2 (fun c => ?_) (fun c => ⟨_, _, rfl, K4, b4.mono (by omega), S4⟩)⟩
        have c1 : 1 < as.length := by
          have := of_decide_eq_true c
          rw [List.length_map] at this
          omega
        refine ⟨_, rfl, take_use2 (m := 2) b4 (by omega) (by decide) (by decide) fun d' H5 _ _ k5 b5 _ => ?_⟩
        have K5 := K4.trans k5
        have S5 := S4.kept k5
        have g5 := k5 _ _ ga (S4.h0 h mh).2
        refine ⟨rfl, _, rfl, ite2 (fun c2 => ?_) (fun c2 => ⟨_, _, rfl, K5, b5.mono (by omega), S5⟩)⟩
        obtain ⟨y, my, ey⟩ := atI_last (as := as) (by omega)
        have e0 : atI (as.map V.ref) (0 : Int) = some (.ref (as[0]'(by omega))) := atI_nat (j := 0) (by rw [List.getElem?_map, List.getElem?_eq_getElem (by omega)]; rfl)
        obtain ⟨⟨r, hr, hrl⟩, _⟩ := (S5.at mh g5).2 _ (List.getElem_mem (by omega : 0 < as.length))
        obtain ⟨⟨r2, hr2, hrl2⟩, _⟩ := (S5.at mh g5).2 y my
        refine ⟨_, rfl, _, rfl, h, _, 0, _, rfl, rfl, SqL.of g5, e0, _, rfl, _, rfl, h, _, -1, _, rfl, rfl, SqL.of g5, ey, p, _, r, 1, y, r2, rfl, .inl hr, .inl hr2, by rw [hrl, hrl2], by omega, by decide, by omega, fun H6 cc s6 _ hcc => ?_⟩
        refine ⟨cc, _, rfl, .inr (SqT.of hcc), fun e he => ?_⟩
        have se := same_new (o := .lst ((addR p r 1 r2).map V.int)) he
        have S7 := (S5.kept (Kept.of s6)).kept (Kept.of se)
        have g7 := se _ _ (s6 _ _ g5)
        have K7 := (K5.trans (Kept.of s6)).trans (Kept.of se)
        have b7 := (b5.same s6).same se
        have ie : IntL (L2.upd H6 e (.lst ((addR p r 1 r2).map V.int))) n e := ⟨_, upd_same, by rw [addR_len rfl (by rw [hrl, hrl2])]; exact hrl⟩
        have he5 : H5 e = none := none_back s6 he
        have eb : e ≠ b := fun z => by
          obtain ⟨xs, hx⟩ := b5.at
          rw [z, hx] at he5
          cases he5
        have eh : e ∉ hs := fun m => by
          obtain ⟨_, q, _⟩ := S5.rows e m
          rw [q] at he5
          cases he5
        have eD : e ≠ D := fun z => by
          rw [z, S5.ls] at he5
          cases he5
        have eH : H e = none := K5.none eb he5
        refine ⟨_, rfl, h, _, 0, _, rfl, rfl, g7, seqIx (by decide) (by rw [List.length_map]; omega), ?_⟩
        have S8 := S7.put mh g7 0 ⟨ie, eb, eh, eD, eH⟩
        rw [List.map_set] at S8
        exact ⟨_, _, rfl, K7.upd (S4.h0 h mh).1, (b7.mono (by omega)).upd (S4.h0 h mh).2, S8⟩
      · rintro σ H4 ⟨z9, z10, rfl, K4, b4, S4⟩
        exact ⟨_, rfl, k H4 D hs K4 (b4.mono (by rw [List.length_map]; omega)) hD (S4.hs_ hlen)⟩
end
end KV

set_option Elab.async false
set_option linter.all false
set_option maxRecDepth 100000
set_option maxHeartbeats 4000000
/-! # hands -/
namespace KV
open PySem PySem.Spec PyProof.Rows L2 VX RX
section
variable {P : Program} {w : World} {K : PySem.W.Frag} {mg : Str → Option Value} {base : Heap} {f : Addr} {fd : FuncData}
/-- tables of rows, one after the other -/
inductive AreTabs (H : Hp) (b : Addr) (n : Nat) : List Addr → List (List (List Int)) → Prop
  | nil : AreTabs H b n [] []
  | cons {h : Addr} {as hs : List Addr} {rs : List (List Int)} {Rs : List (List (List Int))} : H h = some (.lst (as.map V.ref)) → h ≠ b → AreLsts H b as rs → Len n rs → rs.length ≤ 400 → AreTabs H b n hs Rs → AreTabs H b n (h :: hs) (rs :: Rs)
theorem AreTabs.kept {H H' : Hp} {b : Addr} {n : Nat} (k : Kept b H H') : ∀ {hs : List Addr} {Rs : List (List (List Int))}, AreTabs H b n hs Rs → AreTabs H' b n hs Rs
  | _, _, .nil => .nil
  | _, _, .cons h1 h2 h3 h4 h5 t => .cons (k _ _ h1 h2) h2 (h3.kept k) h4 h5 (AreTabs.kept k t)
theorem AreTabs.same {H H' : Hp} {b : Addr} {n : Nat} (s : Same H H') {hs : List Addr} {Rs : List (List (List Int))} (h : AreTabs H b n hs Rs) : AreTabs H' b n hs Rs := h.kept (Kept.of s)
theorem AreTabs.get {H : Hp} {b : Addr} {n : Nat} : ∀ {hs : List Addr} {Rs : List (List (List Int))} {i : Nat} {h : Addr}, AreTabs H b n hs Rs → hs[i]? = some h → ∃ as rs, Rs[i]? = some rs ∧ H h = some (.lst (as.map V.ref)) ∧ h ≠ b ∧ AreLsts H b as rs ∧ Len n rs ∧ rs.length ≤ 400
  | _, _, 0, _, .cons h1 h2 h3 h4 h5 _, e => by
    obtain rfl := Option.some.inj e
    exact ⟨_, _, rfl, h1, h2, h3, h4, h5⟩
  | _, _, i + 1, _, .cons _ _ _ _ _ t, e => AreTabs.get (i := i) t (by simpa using e)
theorem AreTabs.length {H : Hp} {b : Addr} {n : Nat} : ∀ {hs : List Addr} {Rs : List (List (List Int))}, AreTabs H b n hs Rs → hs.length = Rs.length
  | _, _, .nil => rfl
  | _, _, .cons _ _ _ _ _ t => congrArg (· + 1) t.length
theorem lsts_of {H : Hp} {b : Addr} {n : Nat} : ∀ {as : List Addr}, (∀ a ∈ as, IntL H n a ∧ a ≠ b) → ∃ rs, AreLsts H b as rs ∧ Len n rs
  | [], _ => ⟨[], .nil, fun _ h => nomatch h⟩
  | a :: as, h => by
    obtain ⟨⟨r, h1, h2⟩, h3⟩ := h a (.head _)
    obtain ⟨rs, h4, h5⟩ := lsts_of fun x hx => h x (.tail _ hx)
    refine ⟨r :: rs, .cons h1 h3 h4, fun x hx => ?_⟩
    rcases List.mem_cons.mp hx with rfl | hx
    · exact h2
    · exact h5 x hx
theorem tabs_of {H : Hp} {b : Addr} {n : Nat} : ∀ {hs : List Addr}, (∀ h ∈ hs, h ≠ b ∧ ∃ as : List Addr, H h = some (.lst (as.map V.ref)) ∧ as.length ≤ 400 ∧ ∀ a ∈ as, IntL H n a ∧ a ≠ b) → ∃ Rs, AreTabs H b n hs Rs
  | [], _ => ⟨[], .nil⟩
  | h :: hs, k => by
    obtain ⟨k1, as, k2, k3, k4⟩ := k h (.head _)
    obtain ⟨rs, k5, k6⟩ := lsts_of k4
    obtain ⟨Rs, k7⟩ := tabs_of fun x hx => k x (.tail _ hx)
    exact ⟨rs :: Rs, .cons k2 k1 k5 k6 (by have := k5.length; omega) k7⟩
def spHands : Sp := fun vs H Q _ => ∃ (b : Addr) (N n : Nat) (p : Int), vs = [.ref b, .int p, .int (n : Nat)] ∧ BoxK H b N ∧ N ≤ 600000 ∧ isP p = true ∧ n ≤ 6 ∧
  ∀ H' l hs Rs, Kept b H H' → BoxK H' b (N + 1000) → H' l = some (.lst (hs.map V.ref)) → l ≠ b → AreTabs H' b n hs Rs → Rs.length = 3 → Q (.ref l) H'
abbrev nHa : List Str := ["_law_box_here", "_law_p", "_law_n"]
theorem sc_ha : FnScope nHa ["_law_box_here", "_law_p", "_law_n"] (defScope (top iLHands)) := ⟨rfl, rfl, rfl, by decide +kernel, rfl, by decide +kernel, by decide +kernel⟩
theorem g_hands (T : TX K mg) : ∃ fd, FnP K "_law_hands" iLHands (He.ga K "_law_hands") fd ∧ FnOk P w K mg base CX0 4 (He.ga K "_law_hands") fd ["_law_box_here", "_law_p", "_law_n"] spHands ∧ Binds K fd ["_law_box_here", "_law_p", "_law_n"] [] := by
  obtain ⟨fd, F⟩ := T.def "_law_hands" iLHands
  obtain ⟨_, FT, GT, BT⟩ := g_take (P := P) (w := w) (base := base) T
  obtain ⟨_, FCt, GCt, BCt⟩ := g_counts (P := P) (w := w) (base := base) T
  obtain ⟨_, FBu, GBu, BBu⟩ := g_built (P := P) (w := w) (base := base) T
  obtain ⟨_, FSt, GSt, BSt⟩ := g_stir (P := P) (w := w) (base := base) T
  obtain ⟨fdRo, FRo⟩ := T.def "_law_rows" iLRows
  obtain ⟨_, FV⟩ := T.def "_law_vector" iLVec
  have GRo : FnOk P w K mg base CX0 3 _ fdRo ["_law_box_here", "_law_p", "_law_n", "_law_most"] spRows := ok_rows FRo T FT FV
  have BRo : Binds K fdRo ["_law_box_here", "_law_p", "_law_n", "_law_most"] [] := FRo.bindsN fun _ _ _ _ _ _ us hl => match us, hl with | [_, _, _, _], _ => rfl
  refine ⟨fd, F, F.ok sc_ha (fun vs H Q E h => ?_) (fun cdv A outer s H vs Q E hr h => ?_), F.bindsN fun _ _ _ _ _ _ us hl => match us, hl with | [_, _, _], _ => rfl⟩
  · obtain ⟨b, N, n, p, rfl, _⟩ := h
    rfl
  · obtain ⟨b, N, n, p, rfl, hb, hN, hp, hn, k⟩ := h
    have nd := sc_ha.nd
    have hr1 : Room 1 _ := hr.mono (by decide)
    have hr2 : Room 2 _ := hr.mono (by decide)
    refine ⟨_, PSs.nox (pss_cons (ps_if (pt_cmpR op_gt (pe_call GT hr1 (by rfl) (T.df "_law_take" iLTake) FT.kp BT .nil pass0 (pa_cons (pv 0) (pa_cons pe_int pa_nil))) pe_int (nomark _)) (pss_one (ps_ret (pe_call GSt hr2 (by rfl) (T.df "_law_stirred" iLStir) FSt.kp BSt .nil pass0 (pa_cons (pv 0) (pa_cons (pv 1) (pa_cons (pv 2) (pa_cons (pe_call GBu hr1 (by rfl) (T.df "_law_built" iLBuilt) FBu.kp BBu .nil pass0 (pa_cons (pv 2) (pa_cons (pe_call GCt hr2 (by rfl) (T.df "_law_counts" iLCounts) FCt.kp BCt .nil pass0 (pa_cons (pv 0) (pa_cons (pv 2) pa_nil))) pa_nil))) pa_nil))))))) pss_nil) (pss_one (ps_ret (pe_lst (pa_cons (pe_call GRo hr (by rfl) (T.df "_law_rows" iLRows) FRo.kp BRo .nil pass0 (pa_cons (pv 0) (pa_cons (pv 1) (pa_cons (pv 2) (pa_cons pe_int pa_nil))))) (pa_cons (pe_call GRo hr (by rfl) (T.df "_law_rows" iLRows) FRo.kp BRo .nil pass0 (pa_cons (pv 0) (pa_cons (pv 1) (pa_cons (pv 2) (pa_cons pe_int pa_nil))))) (pa_cons (pe_call GRo hr (by rfl) (T.df "_law_rows" iLRows) FRo.kp BRo .nil pass0 (pa_cons (pv 0) (pa_cons (pv 1) (pa_cons (pv 2) (pa_cons pe_int pa_nil))))) pa_nil))))))), ?_⟩
    refine ⟨_, rfl, take_use2 (m := 3) hb (by omega) (by decide) (by decide) fun d H1 d0 d1 k1 b1 _ => ?_⟩
    refine ⟨_, _, rfl, rfl, _, rfl, ite2 (fun c => ?_) (fun c => ?_)⟩
    · refine ⟨_, rfl, _, rfl, _, rfl, _, rfl, _, rfl, _, rfl, b, _, n, rfl, b1, by omega, hn, fun H2 lc cs k2 b2 hlc0 nlc hlc h9 hcs => ?_⟩
      obtain ⟨xs, hbx⟩ := b2.at
      refine ⟨n, lc, b, cs, rfl, by omega, hlc, h9, hcs, ⟨_, hbx⟩, fun H3 l0 hs0 s3 hl0 L0 => ?_⟩
      refine ⟨b, l0, _, n, 400, p, hs0, rfl, b2.same s3, by omega, hp, by omega, L0, Nat.le_refl _, fun H4 l hs k4 b4 hl L => ?_⟩
      obtain ⟨Rs, hRs⟩ := tabs_of (H := H4) (b := b) (n := n) (hs := hs) fun h hm => ⟨fun e => L.bh (by rw [← e]; exact hm), let ⟨as, e1, e2, e3⟩ := L.rows h hm; ⟨as, e1, e2, fun a ha => ⟨(e3 a ha).1, (e3 a ha).2.1⟩⟩⟩
      exact k H4 l hs Rs (((k1.trans k2).trans (Kept.of s3)).trans k4) (b4.mono (by omega)) L.ls L.lb hRs (by rw [← hRs.length]; exact L.three)
    · refine ⟨_, rfl, _, rfl, _, rfl, b, _, p, n, 3, rfl, b1, by omega, hp, by omega, by omega, fun H2 r1 l1 R1 k2 b2 z10 n1 e1 a1 len1 q1 => ?_⟩
      refine ⟨_, rfl, _, rfl, _, rfl, b, _, p, n, 3, rfl, b2, by omega, hp, by omega, by omega, fun H3 r2 l2 R2 k3 b3 z20 n2 e2 a2 len2 q2 => ?_⟩
      refine ⟨_, rfl, _, rfl, _, rfl, b, _, p, n, 3, rfl, b3, by omega, hp, by omega, by omega, fun H4 r3 l3 R3 k4 b4 z30 n3 e3 a3 len3 q3 => ?_⟩
      refine ⟨(by show 3 ≤ sizeLine; decide), fun l hl => ?_⟩
      have s5 := same_new (o := .lst [V.ref r1, V.ref r2, V.ref r3]) hl
      have nl : l ≠ b := b4.ne hl
      have K5 := (((k1.trans k2).trans k3).trans k4).trans (Kept.of s5)
      refine k _ l [r1, r2, r3] [R1, R2, R3] K5 ((b4.mono (by omega)).same s5) upd_same nl ?_ rfl
      have t1 : AreLsts H4 b l1 R1 := (a1.kept k3).kept k4
      exact .cons (s5 _ _ (k4 _ _ (k3 _ _ e1 n1) n1)) n1 (t1.same s5) len1 (by omega) (.cons (s5 _ _ (k4 _ _ e2 n2)) n2 ((a2.kept k4).same s5) len2 (by omega) (.cons (s5 _ _ e3) n3 (a3.same s5) len3 (by omega) .nil))
end
end KV

set_option Elab.async false
set_option linter.all false
set_option maxRecDepth 100000
set_option maxHeartbeats 4000000
/-! # cls(..) where a name of the def holds the class -/
namespace VX
open PySem PySem.Spec PyProof.Rows L2
section
variable {X : Cx} {CX : CXT} {k : Nat} {f C : Addr} {sp : Sp} {x : Str} {e : Expr} {es : List Expr} {t : TA} {tf : TE} {p pos : Pos}
def tMakeL (C : Addr) (sp : Sp) (E : L2.St → XK) (tf : TE) (t : TA) : TE := fun σ H Q => tf σ H fun y H1 => y = V.ref C ∧ t σ H1 fun vs H2 => ∀ x dx, H2 x = none → H2 dx = none → dx ≠ x →
  sp (V.ref x :: vs) (upd (upd H2 dx (.own x)) x (.ins C dx [])) (fun v H3 => v = .non ∧ Q (.ref x) H3) (E σ)
theorem pe_makeL {E : L2.St → XK} (M : Mk X.K C f) (F : FnR X.prog X.w X.K X.mg X.base CX k f sp) (hr : Room (k + 1) X.A) (hv : PE X (.Name x p) tf) (hx : ∀ σ, PassesAt CX X σ (E σ)) (ha : PA X (e :: es) t)
    (he : starEach (e :: es) X.env = (false, eval e X.env) :: starEach es X.env := by rfl) (hpl : (backTo pos (starEach es X.env)).any (·.1) = false := by rfl) : PE X (.Call (.Name x p) (e :: es) [] pos) (tMakeL C sp E tf t) := by
  refine ⟨fun pins s σ H Q I h => wpAny_Call_Name_kw (thn (hv.run pins s σ H _ I h) fun u s1 ⟨y, H1, I1, ry, ey, q⟩ => ?_)⟩
  subst ey
  obtain rfl : u = Value.ref C := ry
  refine PySem.W.callWith_K (h₀ := X.base) I.ok.mod.kin M.kp (thn (ha.run pos pins s1 σ H1 _ I1 q) fun us s2 ⟨vs, H2, I2, r, q2⟩ => ⟨I2.kIn, ?_⟩) he hpl
  exact run_makeT M F hr (hx σ) I2 r q2
end
end VX

set_option Elab.async false
set_option linter.all false
set_option maxRecDepth 100000
set_option maxHeartbeats 4000000
/-! # unit_rows, nothing, whole -/
namespace KV
open PySem PySem.Spec PyProof.Rows L2 VX RX
section
variable {P : Program} {w : World} {K : PySem.W.Frag} {mg : Str → Option Value} {base : Heap} {f : Addr} {fd : FuncData}
/-- the unit vectors -/
def unitR (n i : Nat) : List Int := (List.range n).map fun j => if j = i then 1 else 0
def unitL (n : Nat) : List (List Int) := (List.range n).map (unitR n)
theorem unit_at {t i : Nat} : V.int (if decide (V.int (0 + (t : Int)) = V.int (0 + (i : Int))) = true then 1 else 0) = V.int (if t = i then 1 else 0) := by
  by_cases e : t = i
  · subst e; simp
  · rw [if_neg e, decide_eq_false fun z => e (by injection z with z; omega)]
    rfl
theorem unitL_len {n : Nat} : Len n (unitL n) := fun r hr => by
  obtain ⟨i, _, rfl⟩ := List.mem_map.mp hr
  simp [unitR]
end
end KV

set_option Elab.async false
set_option linter.all false
set_option maxRecDepth 100000
set_option maxHeartbeats 4000000
/-! # sets -/
namespace KV
open PySem PySem.Spec PyProof.Rows L2 VX RX
section
variable {P : Program} {w : World} {K : PySem.W.Frag} {mg : Str → Option Value} {base : Heap} {f : Addr} {fd : FuncData}
/-- lists of rows, one after the other -/
inductive TabI (H : Hp) (n : Nat) : List Addr → List (List (List Int)) → Prop
  | nil : TabI H n [] []
  | cons {h : Addr} {as hs : List Addr} {rs : List (List Int)} {Rs : List (List (List Int))} : H h = some (.lst (as.map V.ref)) → AreInts H as rs → Len n rs → TabI H n hs Rs → TabI H n (h :: hs) (rs :: Rs)
theorem TabI.same {H H' : Hp} {n : Nat} (s : Same H H') : ∀ {hs : List Addr} {Rs : List (List (List Int))}, TabI H n hs Rs → TabI H' n hs Rs
  | _, _, .nil => .nil
  | _, _, .cons h1 h2 h3 t => .cons (s _ _ h1) (h2.same s) h3 (TabI.same s t)
theorem TabI.append {H : Hp} {n : Nat} : ∀ {hs gs : List Addr} {Rs Ss : List (List (List Int))}, TabI H n hs Rs → TabI H n gs Ss → TabI H n (hs ++ gs) (Rs ++ Ss)
  | _, _, _, _, .nil, g => g
  | _, _, _, _, .cons h1 h2 h3 t, g => .cons h1 h2 h3 (TabI.append t g)
theorem TabI.length {H : Hp} {n : Nat} : ∀ {hs : List Addr} {Rs : List (List (List Int))}, TabI H n hs Rs → hs.length = Rs.length
  | _, _, .nil => rfl
  | _, _, .cons _ _ _ t => congrArg (· + 1) t.length
theorem TabI.get {H : Hp} {n : Nat} : ∀ {hs : List Addr} {Rs : List (List (List Int))} {i : Nat} {h : Addr}, TabI H n hs Rs → hs[i]? = some h → ∃ as rs, Rs[i]? = some rs ∧ H h = some (.lst (as.map V.ref)) ∧ AreInts H as rs ∧ Len n rs
  | _, _, 0, _, .cons h1 h2 h3 _, e => by
    obtain rfl := Option.some.inj e
    exact ⟨_, _, rfl, h1, h2, h3⟩
  | _, _, i + 1, _, .cons _ _ _ t, e => TabI.get (i := i) t (by simpa using e)
theorem AreTabs.tabI {H : Hp} {b : Addr} {n : Nat} : ∀ {hs : List Addr} {Rs : List (List (List Int))}, AreTabs H b n hs Rs → TabI H n hs Rs
  | _, _, .nil => .nil
  | _, _, .cons h1 _ h3 h4 _ t => .cons h1 h3.ints h4 (AreTabs.tabI t)
/-- dicts of vectors, one after the other -/
inductive DTs (H : Hp) : List Addr → List (List (List Int)) → Prop
  | nil : DTs H [] []
  | cons {d : Addr} {l : List (List Int)} {ds : List Addr} {ls : List (List (List Int))} : H d = some (.dT (kvsOf l)) → DTs H ds ls → DTs H (d :: ds) (l :: ls)
theorem DTs.same {H H' : Hp} (s : Same H H') : ∀ {ds : List Addr} {ls : List (List (List Int))}, DTs H ds ls → DTs H' ds ls
  | _, _, .nil => .nil
  | _, _, .cons h t => .cons (s _ _ h) (DTs.same s t)
theorem DTs.append {H : Hp} : ∀ {ds es : List Addr} {ls ms : List (List (List Int))}, DTs H ds ls → DTs H es ms → DTs H (ds ++ es) (ls ++ ms)
  | _, _, _, _, .nil, g => g
  | _, _, _, _, .cons h t, g => .cons h (DTs.append t g)
theorem DTs.length {H : Hp} : ∀ {ds : List Addr} {ls : List (List (List Int))}, DTs H ds ls → ds.length = ls.length
  | _, _, .nil => rfl
  | _, _, .cons _ t => congrArg (· + 1) t.length
theorem DTs.get {H : Hp} : ∀ {ds : List Addr} {ls : List (List (List Int))} {i : Nat} {d : Addr}, DTs H ds ls → ds[i]? = some d → ∃ l, ls[i]? = some l ∧ H d = some (.dT (kvsOf l))
  | _, _, 0, _, .cons h _, e => by
    obtain rfl := Option.some.inj e
    exact ⟨_, rfl, h⟩
  | _, _, i + 1, _, .cons _ t, e => DTs.get (i := i) t (by simpa using e)
theorem DTs.upd {H : Hp} {D : Addr} {xs : List V} {o : HO} (hD : H D = some (.lst xs)) : ∀ {ds : List Addr} {ls : List (List (List Int))}, DTs H ds ls → DTs (upd H D o) ds ls
  | _, _, .nil => .nil
  | _, _, .cons (d := d) h t => .cons (by rw [upd_ne (fun e => by rw [e, hD] at h; cases h)]; exact h) (DTs.upd hD t)
theorem AreInts.updN {H : Hp} {D : Addr} {o : HO} : ∀ {as : List Addr} {rs : List (List Int)}, AreInts H as rs → (∀ a ∈ as, a ≠ D) → AreInts (upd H D o) as rs
  | _, _, .nil, _ => .nil
  | _, _, .cons (a := a) h t, ne => .cons (h.elim (fun h => .inl (by rw [upd_ne (ne a (.head _))]; exact h)) fun h => .inr (by rw [upd_ne (ne a (.head _))]; exact h)) (AreInts.updN t fun x hx => ne x (.tail _ hx))
def spSets : Sp := fun vs H Q _ => ∃ (p : Int) (n : Nat) (l : Addr) (hs : List Addr) (Rs : List (List (List Int))), vs = [.int p, .int (n : Nat), .ref l] ∧ H l = some (.lst (hs.map V.ref)) ∧ TabI H n hs Rs ∧ Rs.length ≤ 100 ∧ isP p = true ∧ n ≤ 12 ∧ p ^ n ≤ 1000000 ∧
  ∀ H' e ds, Same H H' → H' e = some (.lst (ds.map V.ref)) → DTs H' ds ((Rs ++ [[], unitL n]).map (spanL p n)) → Q (.ref e) H'
abbrev nSe : List Str := ["_law_p", "_law_n", "_law_hands_here", "_law_units", "_law_k", "_law_j", "_law_rows_here"]
theorem sc_se : FnScope nSe ["_law_p", "_law_n", "_law_hands_here"] (defScope (top iLSets)) := ⟨rfl, rfl, rfl, by decide +kernel, rfl, by decide +kernel, by decide +kernel⟩
theorem g_sets (T : TX K mg) : ∃ fd, FnP K "_law_sets" iLSets (He.ga K "_law_sets") fd ∧ FnOk P w K mg base CX0 4 (He.ga K "_law_sets") fd ["_law_p", "_law_n", "_law_hands_here"] spSets ∧ Binds K fd ["_law_p", "_law_n", "_law_hands_here"] [] := by
  obtain ⟨fd, F⟩ := T.def "_law_sets" iLSets
  obtain ⟨_, FS, GS, BS⟩ := g_lspan (P := P) (w := w) (base := base) T
  refine ⟨fd, F, F.ok sc_se (fun vs H Q E h => ?_) (fun cdv A outer s H vs Q E hr h => ?_), F.bindsN fun _ _ _ _ _ _ us hl => match us, hl with | [_, _, _], _ => rfl⟩
  · obtain ⟨p, n, l, hs, Rs, rfl, _⟩ := h
    rfl
  · obtain ⟨p, n, l, hs, Rs, rfl, hl, ht, hz, hp, hn, hpn, k⟩ := h
    have nd := sc_se.nd
    refine ⟨_, PSs.nox (pss_cons (ps_setLc (i := 3) (own := [("_law_k", 4)]) (g := gName 4) (by rfl) nd rfl rfl (sw_true rfl rfl rfl (by decide +kernel)) (pi_range1 (by rfl) (T.fr "range") (pa_cons (pv 1) pa_nil)) (blkOk_by (own := [("_law_k", 4)]) (N := nSe) (sc := defScope (top iLSets)) (by decide +kernel)) (fun _ _ _ _ _ => pg_name (i := 4) nd rfl (Or.inr rfl)) (fun _ _ _ _ _ => pts_nil) (fun _ _ _ _ _ => pe_lc (own := [("_law_j", 5)]) (g := gName 5) (by rfl) nd (pi_range1 (by rfl) (T.fr "range") (pa_cons (pv 1) pa_nil)) (blkOk_by (own := [("_law_j", 5)]) (N := nSe) (sc := { kind := .function, names := [(".0", .local), ("_law_k", .cell), ("range", .globalImplicit), ("_law_n", .cell)], isGenerator := false, isCoroutine := false }) (by decide +kernel)) (fun _ _ _ _ _ => pg_name (i := 5) nd rfl (Or.inl rfl)) (fun _ _ _ _ _ => pts_nil) (fun _ _ _ _ _ => pe_callTy (r := fun xs H Q => (∃ i, xs = [.int i] ∧ Q (.int i) H) ∨ ∃ k, xs = [.bl k] ∧ Q (.int (if k then 1 else 0)) H) call_int1 (by rfl) (T.fr "int") boot_int (pa_cons (pe_cmpR op_eq (pv 5) (pv 4) (nomark _)) pa_nil)))) (pss_one (ps_ret (pe_lc (own := [("_law_rows_here", 6)]) (g := gName 6) (by rfl) nd (pi_list (pe_op op_cat (pv 2) (pe_lst (pa_cons (pe_lst pa_nil) (pa_cons (pv 3) pa_nil))))) (blkOk_by (own := [("_law_rows_here", 6)]) (N := nSe) (sc := defScope (top iLSets)) (by decide +kernel)) (fun _ _ _ _ _ => pg_name (i := 6) nd rfl (Or.inl rfl)) (fun _ _ _ _ _ => pts_nil) (fun _ _ _ _ _ => pe_call GS hr (by rfl) (T.df "_law_span" iLSpan) FS.kp BS .nil pass0 (pa_cons (pv 0) (pa_cons (pv 1) (pa_cons (pv 6) pa_nil)))))))), ?_⟩
    have eN : ((n : Nat) : Int).toNat = n := Int.toNat_natCast n
    refine ⟨_, rfl, n, rfl, by omega, by omega, fun D hD => lc_it (walk_range (lo := 0) (n := ((n : Nat) : Int).toNat)) (fun i H' => Same H H' ∧ ∃ as, H' D = some (.lst (as.map V.ref)) ∧ as.length = i ∧ (∀ a ∈ as, a ≠ D) ∧ AreInts H' as ((List.range i).map (unitR n))) ⟨same_new hD, [], upd_same, rfl, (fun _ h => nomatch h), .nil⟩ (fun _ _ _ _ => trivial) ?_ ?_⟩
    · rintro i v Ha Hb hi ⟨s1, as, has, hal, had, har⟩ ⟨rfl, rfl⟩
      rw [eN] at hi
      refine ⟨rfl, yes_if ?_⟩
      refine ⟨_, rfl, n, rfl, by omega, by omega, fun E hE => lc_it (walk_range (lo := 0) (n := ((n : Nat) : Int).toNat)) (fun t H' => H' = upd Hb E (.lst (((List.range t).map fun j => if j = i then (1 : Int) else 0).map V.int))) rfl (fun _ _ _ _ => trivial) ?_ ?_⟩
      · rintro t v Hc Hd ht rfl ⟨rfl, rfl⟩
        rw [eN] at ht
        refine ⟨rfl, yes_if ?_⟩
        refine ⟨_, rfl, _, rfl, rfl, .inr ⟨_, rfl, _, upd_same, lt_line (by rw [List.length_map, List.length_map, List.length_range]; omega), ?_⟩⟩
        rw [upd_upd, List.range_succ, List.map_append, List.map_append, unit_at]
        rfl
      · rintro _ rfl
        rw [eN]
        have sE := same_new (o := .lst (((List.range n).map fun j => if j = i then (1 : Int) else 0).map V.int)) hE
        have uE : upd Hb E (.lst (((List.range n).map fun j => if j = i then (1 : Int) else 0).map V.int)) E = some (.lst ((unitR n i).map V.int)) := upd_same
        have nE : E ≠ D := fun z => by rw [z, has] at hE; cases hE
        generalize upd Hb E (.lst (((List.range n).map fun j => if j = i then (1 : Int) else 0).map V.int)) = He' at sE uE ⊢
        have has3 := sE _ _ has
        refine ⟨as.map V.ref, has3, lt_line (by rw [List.length_map]; omega), fun u o w => ?_, as ++ [E], ?_, by rw [List.length_append, List.length_singleton, hal], ?_, ?_⟩
        · rw [upd_ne (ne_of_none w hD)]
          exact sE _ _ (s1 _ _ w)
        · rw [upd_same, List.map_append]; rfl
        · intro a ha
          rcases List.mem_append.mp ha with ha | ha
          · exact had a ha
          · rw [List.mem_singleton.mp ha]; exact nE
        · rw [List.range_succ, List.map_append]
          refine AreInts.updN ((har.same sE).append (.cons (.inl uE) .nil)) fun a ha => ?_
          rcases List.mem_append.mp ha with ha | ha
          · exact had a ha
          · rw [List.mem_singleton.mp ha]; exact nE
    rintro H1 ⟨s1, as, has, hal, had, har⟩
    rw [eN] at har hal
    refine ⟨_, rfl, (by show 0 ≤ sizeLine; decide), fun z hz' => ⟨_, rfl, (by show 2 ≤ sizeLine; decide), fun y hy => ?_⟩⟩
    have v1 := same_new (o := .lst []) hz'
    have v2 := same_new (o := .lst [.ref z, .ref D]) hy
    have t2 : TabI (upd (upd H1 z (.lst [])) y (.lst [.ref z, .ref D])) n (hs ++ [z, D]) (Rs ++ [[], unitL n]) := (ht.same (s1.trans (v1.trans v2))).append (.cons (as := []) (v2 _ _ upd_same) .nil (fun _ h => nomatch h) (.cons (v2 _ _ (v1 _ _ has)) ((har.same v1).same v2) unitL_len .nil))
    have l2 := v2 _ _ (v1 _ _ (s1 _ _ hl))
    have y2 : upd (upd H1 z (.lst [])) y (.lst [.ref z, .ref D]) y = some (.lst [.ref z, .ref D]) := upd_same
    have s2 := s1.trans (v1.trans v2)
    generalize upd (upd H1 z (.lst [])) y (.lst [.ref z, .ref D]) = H2 at t2 l2 y2 s2 ⊢
    have hhl := ht.length
    refine ⟨l, y, _, _, rfl, rfl, l2, y2, Nat.le_of_lt (lt_line (by rw [List.length_map]; show hs.length + 2 ≤ 100000; omega)), fun q hq => ?_⟩
    have vq := same_new (o := .lst (hs.map V.ref ++ [.ref z, .ref D])) hq
    have t3 := t2.same vq
    have q3 : upd H2 q (.lst (hs.map V.ref ++ [.ref z, .ref D])) q = some (.lst ((hs ++ [z, D]).map V.ref)) := by rw [upd_same, List.map_append]; rfl
    have s3 := s2.trans vq
    generalize upd H2 q (.lst (hs.map V.ref ++ [.ref z, .ref D])) = H3 at t3 q3 s3 ⊢
    have l3 := t3.length
    generalize hs ++ [z, D] = gs at t3 q3 l3
    generalize hSs : Rs ++ [[], unitL n] = Ss at t3 l3 k
    have lS : Ss.length ≤ 102 := by rw [← hSs, List.length_append]; show Rs.length + 2 ≤ 102; omega
    refine ⟨q, rfl, ⟨_, SqL.of q3⟩, fun D2 hD2 => lc_it (walk_list (K := K) (a := q) (xs := gs.map V.ref)) (fun i H' => Same H3 H' ∧ ∃ ds, H' D2 = some (.lst (ds.map V.ref)) ∧ DTs H' ds ((Ss.take i).map (spanL p n))) ⟨same_new hD2, [], upd_same, .nil⟩ (fun i H' _ z => SqL.of (z.1 _ _ q3)) ?_ ?_⟩
    · rintro i v Ha Hb hi ⟨s4, ds, hds, hdt⟩ ⟨rfl, hv⟩
      obtain ⟨a, ha, rfl⟩ := refs_at hv
      obtain ⟨as', rs, hrs, e1, e2, e3⟩ := (t3.same s4).get ha
      have hi' : i < Ss.length := by rw [← l3]; simpa using hi
      have ll := hdt.length
      rw [List.length_map, List.length_take] at ll
      refine ⟨rfl, yes_if ?_⟩
      refine ⟨_, rfl, _, rfl, _, rfl, p, n, a, as', rs, rfl, e1, e2, e3, hp, hn, hpn, fun H5 d s5 _ hd => ?_⟩
      have hds5 := s5 _ _ hds
      refine ⟨ds.map V.ref, hds5, lt_line (by rw [List.length_map]; omega), fun u o w => ?_, ds ++ [d], ?_, ?_⟩
      · rw [upd_ne (ne_of_none w hD2)]
        exact s5 _ _ (s4 _ _ w)
      · rw [upd_same, List.map_append]; rfl
      · rw [map_more hrs]
        exact DTs.upd hds5 ((hdt.same s5).append (.cons hd .nil))
    · rintro H4 ⟨s4, ds, hds, hdt⟩
      rw [List.length_map, l3, List.take_length] at hdt
      exact k H4 D2 ds (s3.trans s4) hds hdt
end
end KV

set_option Elab.async false
set_option linter.all false
set_option maxRecDepth 100000
set_option maxHeartbeats 4000000
/-! # value -/
namespace KV
open PySem PySem.Spec PyProof.Rows L2 VX RX
section
variable {P : Program} {w : World} {K : PySem.W.Frag} {mg : Str → Option Value} {base : Heap} {f : Addr} {fd : FuncData}
/-- the whole's basis -/
noncomputable abbrev wholeB (p : Int) (n : Nat) : List (List Int) := reduced (invF p) p ((unitL n).map (modR p))
/-- the basis of a word's value -/
noncomputable def valB (p : Int) (n : Nat) (A B C : List (List Int)) : KW.Tr → List (List Int)
  | .lf c => if c = 97 then A else if c = 98 then B else if c = 99 then C else if c = 48 then reduced (invF p) p [] else wholeB p n
  | .nd c l r => if c = 43 then sumL (invF p) p (valB p n A B C l) (valB p n A B C r) else commonL (invF p) p n (valB p n A B C l) (valB p n A B C r)
end
end KV

set_option Elab.async false
set_option linter.all false
set_option maxRecDepth 100000
set_option maxHeartbeats 4000000
/-! # _law_value -/
namespace KV
open PySem PySem.Spec PyProof.Rows L2 VX RX
section
variable {P : Program} {w : World} {K : PySem.W.Frag} {mg : Str → Option Value} {base : Heap} {f : Addr} {fd : FuncData}
abbrev rSix : V → List V → Hp → VK → Prop := fun x xs H Q => ∃ a b i rest, x = .str a ∧ xs = [.str b] ∧ Builtin.Str.occurrences a b 0 a.length 1 = i :: rest ∧ Q (.int (i : Nat)) H
/-- where a leaf's set stands -/
def lidx (c : Nat) : Nat := if c = 97 then 0 else if c = 98 then 1 else if c = 99 then 2 else if c = 48 then 3 else 4
theorem leaf5 {c : Nat} (hc : KW.leafC c = true) : c = 97 ∨ c = 98 ∨ c = 99 ∨ c = 48 ∨ c = 49 := by
  simp only [KW.leafC, Bool.or_eq_true, beq_iff_eq] at hc
  omega
theorem occ_leaf {c : Nat} (hc : KW.leafC c = true) : ∃ rest, Builtin.Str.occurrences "abc01" (KX.one c) 0 ("abc01" : Str).length 1 = lidx c :: rest := by
  rcases leaf5 hc with rfl | rfl | rfl | rfl | rfl <;> exact ⟨[], by decide +kernel⟩
theorem lidx_lt {c : Nat} (hc : KW.leafC c = true) : lidx c < 5 := by
  rcases leaf5 hc with rfl | rfl | rfl | rfl | rfl <;> decide
/-- the five sets, told -/
structure Sets (H : Hp) (e : Addr) (p : Int) (m : Nat) (A B C : List (List Int)) (ds : List Addr) (ls : List (List (List Int))) : Prop where
  he : H e = some (.lst (ds.map V.ref))
  dt : DTs H ds ls
  five : ds.length = 5
  told : ∀ c, KW.leafC c = true → ∃ l, ls[lidx c]? = some l ∧ Told p m (valB p m A B C (.lf c)) l
theorem Sets.same {H H' : Hp} (s : Same H H') {e : Addr} {p : Int} {m : Nat} {A B C : List (List Int)} {ds : List Addr} {ls : List (List (List Int))} (h : Sets H e p m A B C ds ls) : Sets H' e p m A B C ds ls := ⟨s _ _ h.he, h.dt.same s, h.five, h.told⟩
theorem valB_rref {p : Int} {m : Nat} {A B C : List (List Int)} (hp : isP p = true) (RA : Rref p m A) (RB : Rref p m B) (RC : Rref p m C) : ∀ t : KW.Tr, Rref p m (valB p m A B C t)
  | .lf c => by
    unfold valB
    split
    · exact RA
    · split
      · exact RB
      · split
        · exact RC
        · split
          · exact reduced_ok (invF_ok hp) (fun _ h => nomatch h)
          · exact reduced_ok (invF_ok hp) (modR_rows (invF_ok hp).pos unitL_len)
  | .nd c l r => by
    unfold valB
    split
    · exact sum_rref (invF_ok hp) (valB_rref hp RA RB RC l) (valB_rref hp RA RB RC r)
    · exact common_rref (invF_ok hp) (valB_rref hp RA RB RC l) (valB_rref hp RA RB RC r)
def spLV (n : Nat) : Sp := fun vs H Q _ => ∃ (e : Addr) (v : V) (t : KW.Tr) (p : Int) (m : Nat) (A B C : List (List Int)) (ds : List Addr) (ls : List (List (List Int))), vs = [.int p, .ref e, v] ∧ KX.IsTT H v t ∧ KW.dep t ≤ n ∧ Sets H e p m A B C ds ls ∧ isP p = true ∧ m ≤ 12 ∧ p ^ m ≤ 1000000 ∧ Rref p m A ∧ Rref p m B ∧ Rref p m C ∧
  ∀ H' d l, Same H H' → H' d = some (.dT (kvsOf l)) → Told p m (valB p m A B C t) l → Q (.ref d) H'
def spLVL : Nat → Sp
  | 0 => fun _ _ _ _ => False
  | n + 1 => spLV n
abbrev nLv : List Str := ["_law_p", "_law_sets_here", "_law_tree_here", "_law_one", "_law_other"]
theorem sc_lv : FnScope nLv ["_law_p", "_law_sets_here", "_law_tree_here"] (defScope (top iLValue)) := ⟨rfl, rfl, rfl, by decide +kernel, rfl, by decide +kernel, by decide +kernel⟩
theorem ok_lv1 (F : FnP K "_law_value" iLValue (He.ga K "_law_value") fd) (T : TX K mg) (n : Nat) (GR : FnOk P w K mg base CX0 (4 + n) (He.ga K "_law_value") fd ["_law_p", "_law_sets_here", "_law_tree_here"] (spLVL n)) : FnOk P w K mg base CX0 (5 + n) (He.ga K "_law_value") fd ["_law_p", "_law_sets_here", "_law_tree_here"] (spLV n) := by
  have BR : Binds K fd ["_law_p", "_law_sets_here", "_law_tree_here"] [] := F.bindsN fun _ _ _ _ _ _ us hl => match us, hl with | [_, _, _], _ => rfl
  obtain ⟨_, FSu, GSu, BSu⟩ := g_sum (P := P) (w := w) (base := base) T
  obtain ⟨_, FBo, GBo, BBo⟩ := g_both (P := P) (w := w) (base := base) T
  rw [show 5 + n = (4 + n) + 1 by omega]
  refine F.ok sc_lv (fun vs H Q E h => ?_) (fun cdv A outer s H vs Q E hr h => ?_)
  · obtain ⟨e, v, t, p, m, A, B, C, ds, ls, rfl, _⟩ := h
    rfl
  · obtain ⟨e, v, t, p, m, A', B, C, ds, ls, rfl, ht, hd, hS, hp, hm, hpm, RA, RB, RC, k⟩ := h
    have nd := sc_lv.nd
    have hr3 : Room 3 _ := hr.mono (by omega)
    have hr1 : Room 1 _ := hr.mono (by omega)
    refine ⟨_, PSs.nox (pss_cons (ps_if (pt_cmpR op_isN (pe_ix ix_tup (pv 2) pe_int (fun _ _ => rfl)) pe_non (nomark _)) (pss_one (ps_ret (pe_ix ix_list (pv 1) (pe_bm (r := rSix) PySem.F.plainAttrs_str PySem.F.slot_str_index PySem.F.type_str_index mt_sindex pe_str (pa_cons (pe_ix ix_tup (pv 2) pe_int (fun _ _ => rfl)) pa_nil)) (fun _ _ => rfl)))) pss_nil) (pss_cons (ps_set (i := 3) nd rfl (.inl rfl) (pe_call GR hr (by rfl) (T.df "_law_value" iLValue) F.kp BR .nil pass0 (pa_cons (pv 0) (pa_cons (pv 1) (pa_cons (pe_ix ix_tup (pv 2) pe_int (fun _ _ => rfl)) pa_nil))))) (pss_cons (ps_set (i := 4) nd rfl (.inl rfl) (pe_call GR hr (by rfl) (T.df "_law_value" iLValue) F.kp BR .nil pass0 (pa_cons (pv 0) (pa_cons (pv 1) (pa_cons (pe_ix ix_tup (pv 2) pe_int (fun _ _ => rfl)) pa_nil))))) (pss_one (ps_ret (pe_ifExp (pt_cmpR op_eq (pe_ix ix_tup (pv 2) pe_int (fun _ _ => rfl)) pe_str (nomark _)) (pe_call GSu hr3 (by rfl) (T.df "_law_sum" iLSum) FSu.kp BSu .nil pass0 (pa_cons (pv 0) (pa_cons (pv 3) (pa_cons (pv 4) pa_nil)))) (pe_call GBo hr1 (by rfl) (T.df "_law_both" iLBoth) FBo.kp BBo .nil pass0 (pa_cons (pv 3) (pa_cons (pv 4) pa_nil))))))))), ?_⟩
    have II := invF_ok hp
    cases t with
    | lf c =>
      obtain ⟨hc, a, rfl, ha⟩ := ht
      refine ⟨_, rfl, a, _, 1, _, rfl, rfl, SqT.of ha, rfl, rfl, _, rfl, iteT ?_⟩
      obtain ⟨rest, hoc⟩ := occ_leaf hc
      obtain ⟨d, hdd⟩ : ∃ d, ds[lidx c]? = some d := ⟨_, List.getElem?_eq_getElem (by rw [hS.five]; exact lidx_lt hc)⟩
      obtain ⟨l, hl, hld⟩ := hS.dt.get hdd
      obtain ⟨l', hl', hT⟩ := hS.told c hc
      rw [hl] at hl'
      obtain rfl := Option.some.inj hl'
      refine ⟨_, rfl, (show "str" = "str" from rfl), _, rfl, a, _, 0, _, rfl, rfl, SqT.of ha, rfl, "abc01", _, lidx c, rest, rfl, rfl, hoc, e, _, _, .ref d, rfl, rfl, SqL.of hS.he, atI_nat (by rw [List.getElem?_map, hdd]; rfl), ?_⟩
      exact k H d l (Same.refl _) hld hT
    | nd c l r =>
      obtain ⟨hc, a, u, z, rfl, ha, hl, hr'⟩ := ht
      simp only [KW.dep] at hd
      obtain ⟨n', rfl⟩ : ∃ n', n = n' + 1 := ⟨n - 1, by omega⟩
      have un : u ≠ .non := by obtain ⟨a, e⟩ := hl.ref; rw [e]; intro z; cases z
      refine ⟨_, rfl, a, _, 1, _, rfl, rfl, SqT.of ha, rfl, rfl, _, rfl, ?_⟩
      rw [show decide (u = V.non) = false from decide_eq_false un]
      refine iteF ?_
      refine ⟨_, rfl, _, rfl, _, rfl, a, _, 1, _, rfl, rfl, SqT.of ha, rfl, e, u, l, p, m, A', B, C, ds, ls, rfl, hl, by omega, hS, hp, hm, hpm, RA, RB, RC, fun H1 d1 l1 s1 hd1 T1 => ?_⟩
      refine ⟨_, rfl, _, rfl, _, rfl, a, _, 2, _, rfl, rfl, SqT.of (s1 _ _ ha), rfl, e, z, r, p, m, A', B, C, ds, ls, rfl, hr'.same s1, by omega, hS.same s1, hp, hm, hpm, RA, RB, RC, fun H2 d2 l2 s2 hd2 T2 => ?_⟩
      have s12 := s1.trans s2
      have R1 := valB_rref hp RA RB RC l
      have R2 := valB_rref hp RA RB RC r
      refine ⟨_, rfl, a, _, 0, _, rfl, rfl, SqT.of (s12 _ _ ha), rfl, rfl, ?_⟩
      rcases KW.joint_two hc with rfl | rfl
      · refine ⟨true, by decide, iteT ?_⟩
        exact ⟨_, rfl, _, rfl, _, rfl, p, m, d1, d2, _, _, l1, l2, rfl, s2 _ _ hd1, hd2, hp, hm, hpm, R1, R2, T1, T2, fun H3 e3 s3 he3 => k H3 e3 _ (s12.trans s3) he3 (told_joined II R1 R2 T1 T2)⟩
      · refine ⟨false, by decide, iteF ?_⟩
        exact ⟨_, rfl, _, rfl, d1, d2, l1, l2, rfl, s2 _ _ hd1, hd2, T1.nd, told_len II R1 T1 hpm, fun H3 e3 s3 _ he3 => k H3 e3 _ (s12.trans s3) he3 (told_both II R1 R2 T1 T2)⟩
theorem ok_lv (F : FnP K "_law_value" iLValue (He.ga K "_law_value") fd) (T : TX K mg) : ∀ n, FnOk P w K mg base CX0 (5 + n) (He.ga K "_law_value") fd ["_law_p", "_law_sets_here", "_law_tree_here"] (spLV n) := by
  intro n
  induction n with
  | zero => exact ok_lv1 F T 0 ⟨fun _ _ _ _ h => h.elim, fun _ _ _ _ _ _ _ _ _ _ _ _ _ h => h.elim⟩
  | succ n ih => exact ok_lv1 F T (n + 1) (by rw [show 4 + (n + 1) = 5 + n by omega]; exact ih)
end
end KV

set_option Elab.async false
set_option linter.all false
set_option maxRecDepth 100000
set_option maxHeartbeats 4000000
/-! # sets -/
namespace KV
open PySem PySem.Spec PyProof.Rows L2 VX RX
section
variable {P : Program} {w : World} {K : PySem.W.Frag} {mg : Str → Option Value} {base : Heap} {f : Addr} {fd : FuncData}
theorem tabs3 {H : Hp} {b : Addr} {n : Nat} {hs : List Addr} {Rs : List (List (List Int))} (h : AreTabs H b n hs Rs) (e : Rs.length = 3) : ∃ h0 h1 h2 R0 R1 R2, hs = [h0, h1, h2] ∧ Rs = [R0, R1, R2] := by
  have e2 := h.length.trans e
  match hs, Rs, e2, e with
  | [a, b, c], [x, y, z], _, _ => exact ⟨_, _, _, _, _, _, rfl, rfl⟩
noncomputable abbrev Bs (p : Int) (R : List (List Int)) : List (List Int) := reduced (invF p) p (R.map (modR p))
theorem sets_of {H : Hp} {e : Addr} {p : Int} {n : Nat} {R0 R1 R2 : List (List Int)} {ds : List Addr} (hp : isP p = true) (l0 : Len n R0) (l1 : Len n R1) (l2 : Len n R2) (he : H e = some (.lst (ds.map V.ref))) (hd : DTs H ds (([R0, R1, R2] ++ [[], unitL n]).map (spanL p n))) :
    Sets H e p n (Bs p R0) (Bs p R1) (Bs p R2) ds (([R0, R1, R2] ++ [[], unitL n]).map (spanL p n)) := by
  have I := invF_ok hp
  refine ⟨he, hd, hd.length, fun c hc => ?_⟩
  rcases leaf5 hc with rfl | rfl | rfl | rfl | rfl
  · exact ⟨_, rfl, told_span I l0⟩
  · exact ⟨_, rfl, told_span I l1⟩
  · exact ⟨_, rfl, told_span I l2⟩
  · exact ⟨_, rfl, told_span I (rows := []) fun _ h => nomatch h⟩
  · exact ⟨_, rfl, told_span I unitL_len⟩
theorem DTs.kept {H H' : Hp} {b : Addr} (k : Kept b H H') (hb : ∃ xs, H b = some (.lst xs)) : ∀ {ds : List Addr} {ls : List (List (List Int))}, DTs H ds ls → DTs H' ds ls
  | _, _, .nil => .nil
  | _, _, .cons h t => .cons (k _ _ h fun e => by
      obtain ⟨xs, hx⟩ := hb
      rw [e, hx] at h
      cases h) (DTs.kept k hb t)
end
end KV

set_option linter.all false
/-! # three spaces taken apart: what holds on the nine kinds holds everywhere (plain mathematics, no Python) -/
namespace DX
/-- vectors over the integers modulo a prime: v + f u, finitely many -/
structure VS (M : Type) where
  p : Int
  inv : Int → Int
  I : RX.Inv p inv
  z : M
  c : M → Int → M → M
  comm : ∀ v f u g w, c (c v f u) g w = c (c v g w) f u
  assoc : ∀ v f u g w, c v f (c u g w) = c (c v f u) (f * g) w
  two : ∀ v f u g, c (c v f u) g u = c v (f + g) u
  one : ∀ v, c z 1 v = v
  nul : ∀ v u, c v 0 u = v
  zer : ∀ v f, c v f z = v
  md : ∀ v f u, c v (f % p) u = c v f u
  all : List M
  mem : ∀ v, v ∈ all
theorem mm {a f p : Int} : (a * (f % p)) % p = (a * f) % p := by
  rw [Int.mul_emod, Int.emod_emod_of_dvd _ (Int.dvd_refl p), ← Int.mul_emod]
theorem nm {x p : Int} : (-(x % p)) % p = (-x) % p := by
  have h := Int.emod_add_mul_ediv x p
  have e : -(x % p) = -x + p * (x / p) := by omega
  rw [e, Int.add_mul_emod_self_left]
variable {M : Type} (S : VS M)
structure Sub (A : M → Prop) : Prop where
  z : A S.z
  c : ∀ {v f u}, A v → A u → A (S.c v f u)
variable {S}
theorem VS.md0 (S : VS M) {v u : M} {f : Int} (h : f % S.p = 0) : S.c v f u = v := by rw [← S.md, h, S.nul]
theorem VS.back (S : VS M) {v u : M} {f : Int} : S.c (S.c v f u) (-f) u = v := by rw [S.two, Int.add_right_neg, S.nul]
theorem VS.back' (S : VS M) {v u : M} {f : Int} : S.c (S.c v (-f) u) f u = v := by rw [S.two, Int.add_left_neg, S.nul]
theorem Sub.sc {A : M → Prop} (h : Sub S A) {f : Int} {u : M} (a : A u) : A (S.c S.z f u) := h.c h.z a
/-- a multiple by what has an inverse -/
theorem Sub.unsc {A : M → Prop} (h : Sub S A) {v x : M} {f : Int} (hf : f % S.p ≠ 0) (a : A (S.c v f x)) (b : A v) : A x := by
  have a1 : A (S.c S.z f x) := by
    have := h.c (f := -1) a b
    have e : S.c (S.c v f x) (-1) v = S.c S.z f x := by
      rw [S.comm]
      have : S.c v (-1) v = S.z := by
        have e1 : S.c (S.c S.z 1 v) (-1) v = S.z := by rw [S.two]; exact S.nul _ _
        rwa [S.one] at e1
      rw [this]
    rwa [e] at this
  have m := S.I.mul (f % S.p) (by have := Int.emod_nonneg f (show S.p ≠ 0 by have := S.I.two; omega); omega) (Int.emod_lt_of_pos f (by have := S.I.two; omega))
  have a2 := h.sc (f := S.inv (f % S.p)) a1
  rw [S.assoc, S.zer] at a2
  have e : (S.inv (f % S.p) * f) % S.p = 1 := by
    rw [← mm]
    exact m
  rw [← S.md, e, S.one] at a2
  exact a2
open Classical in
noncomputable def cnt (S : VS M) (A : M → Prop) : Nat := (S.all.filter fun v => decide (A v)).length
theorem filter_lt {α : Type} (l : List α) (P Q : α → Bool) (h : ∀ x, P x = true → Q x = true) : (l.filter P).length ≤ (l.filter Q).length ∧ ∀ x ∈ l, Q x = true → P x = false → (l.filter P).length < (l.filter Q).length := by
  induction l with
  | nil => exact ⟨Nat.le_refl _, fun _ h => nomatch h⟩
  | cons y l ih =>
    obtain ⟨i1, i2⟩ := ih
    cases hp : P y with
    | true =>
      have hq := h y hp
      rw [List.filter_cons_of_pos hp, List.filter_cons_of_pos hq]
      refine ⟨Nat.succ_le_succ i1, fun x hx qx px => ?_⟩
      rcases List.mem_cons.mp hx with rfl | hx
      · rw [hp] at px; cases px
      · exact Nat.succ_lt_succ (i2 x hx qx px)
    | false =>
      rw [List.filter_cons_of_neg (by simp [hp])]
      cases hq : Q y with
      | true =>
        rw [List.filter_cons_of_pos hq]
        exact ⟨Nat.le_succ_of_le i1, fun x hx qx px => Nat.lt_succ_of_le i1⟩
      | false =>
        rw [List.filter_cons_of_neg (by simp [hq])]
        refine ⟨i1, fun x hx qx px => ?_⟩
        rcases List.mem_cons.mp hx with rfl | hx
        · rw [hq] at qx; cases qx
        · exact i2 x hx qx px
theorem cnt_lt {A B : M → Prop} (h : ∀ v, A v → B v) {x : M} (hx : B x) (nx : ¬A x) : cnt S A < cnt S B :=
  (filter_lt S.all _ _ (fun v hv => by simpa using h v (by simpa using hv))).2 x (S.mem x) (by simpa using hx) (by simpa using nx)
theorem cnt_le (A : M → Prop) : cnt S A ≤ S.all.length := List.length_filter_le _ _
/-- U and one vector more -/
def plus (S : VS M) (U : M → Prop) (v : M) : M → Prop := fun w => ∃ f, U (S.c w f v)
theorem plus_sub {U : M → Prop} (h : Sub S U) (v : M) : Sub S (plus S U v) :=
  ⟨⟨0, by rw [S.nul]; exact h.z⟩, fun {a f b} ⟨g, ha⟩ ⟨k, hb⟩ => ⟨g + f * k, by
    have := h.c (f := f) ha hb
    rw [S.assoc, S.comm a g v f b, S.two] at this
    exact this⟩⟩
/-- a hyperplane beside x -/
theorem hyper {x : M} : ∀ (N : Nat) (U : M → Prop), Sub S U → ¬U x → S.all.length - cnt S U ≤ N → ∃ H, Sub S H ∧ (∀ v, U v → H v) ∧ ¬H x ∧ ∀ v, ∃ f, H (S.c v f x) := by
  intro N
  induction N with
  | zero =>
    intro U hU nx hN
    have := cnt_lt (S := S) (A := U) (B := fun _ => True) (fun _ _ => trivial) trivial nx
    have := cnt_le (S := S) fun _ => True
    omega
  | succ N ih =>
    intro U hU nx hN
    by_cases hv : ∀ v, ∃ f, U (S.c v f x)
    · exact ⟨U, hU, fun _ h => h, nx, hv⟩
    · obtain ⟨v, hv⟩ := Classical.not_forall.mp hv
      have hv' : ∀ f, ¬U (S.c v f x) := fun f h => hv ⟨f, h⟩
      have le : ∀ w, U w → plus S U v w := fun w h => ⟨0, by rw [S.nul]; exact h⟩
      have hvv : plus S U v v := ⟨-1, by
        have e1 : S.c (S.c S.z 1 v) (-1) v = S.z := by rw [S.two]; exact S.nul _ _
        rw [S.one] at e1
        rw [e1]; exact hU.z⟩
      have nv : ¬U v := fun h => hv' 0 (by rw [S.nul]; exact h)
      have nx2 : ¬plus S U v x := fun ⟨f, h⟩ => by
        by_cases hf : f % S.p = 0
        · exact nx (by rwa [S.md0 hf] at h)
        · have m := S.I.mul (f % S.p) (by have := Int.emod_nonneg f (show S.p ≠ 0 by have := S.I.two; omega); omega) (Int.emod_lt_of_pos f (by have := S.I.two; omega))
          have a2 := hU.sc (f := S.inv (f % S.p)) h
          rw [S.assoc, S.comm] at a2
          have e : (S.inv (f % S.p) * f) % S.p = 1 := by
            rw [← mm]
            exact m
          rw [← S.md _ (S.inv (f % S.p) * f), e, S.one] at a2
          exact hv' _ a2
      have lt := cnt_lt (S := S) le hvv nv
      obtain ⟨H, h1, h2, h3, h4⟩ := ih _ (plus_sub hU v) nx2 (by omega)
      exact ⟨H, h1, fun w h => h2 w (le w h), h3, h4⟩
/-- a linear form -/
structure Lin (S : VS M) (f : M → Int) : Prop where
  c : ∀ v g u, f (S.c v g u) = (f v + g * f u) % S.p
  lo : ∀ v, 0 ≤ f v
  hi : ∀ v, f v < S.p
theorem VS.pos (S : VS M) : 0 < S.p := by have := S.I.two; omega
theorem form {U : M → Prop} (hU : Sub S U) {x : M} (nx : ¬U x) : ∃ f, Lin S f ∧ (∀ v, U v → f v = 0) ∧ f x = 1 := by
  obtain ⟨H, hH, hUH, nH, hv⟩ := hyper _ U hU nx (Nat.le_refl _)
  have h0 := S.pos
  have h2 := S.I.two
  have ex : ∀ v, ∃ f : Int, 0 ≤ f ∧ f < S.p ∧ H (S.c v (-f) x) := fun v => by
    obtain ⟨f, hf⟩ := hv v
    refine ⟨(-f) % S.p, Int.emod_nonneg _ (by omega), Int.emod_lt_of_pos _ h0, ?_⟩
    rw [← S.md]
    have e : (-(-f % S.p)) % S.p = f % S.p := by
      rw [nm, Int.neg_neg]
    rw [e, S.md]
    exact hf
  have uq : ∀ (w : M) (a b : Int), 0 ≤ a → a < S.p → 0 ≤ b → b < S.p → H (S.c w (-a) x) → H (S.c w (-b) x) → a = b := fun w a b a0 a1 b0 b1 ha hb => by
    by_cases e : a = b
    · exact e
    · exfalso
      have hb' : H (S.c (S.c w (-a) x) (a - b) x) := by rw [S.two]; rw [show -a + (a - b) = -b by omega]; exact hb
      refine nH (hH.unsc (f := a - b) ?_ hb' ha)
      intro hz
      have : (a - b) = S.p * ((a - b) / S.p) := by have := Int.emod_add_mul_ediv (a - b) S.p; omega
      rcases Int.lt_trichotomy ((a - b) / S.p) 0 with q | q | q
      · have : S.p * ((a - b) / S.p) ≤ S.p * (-1) := Int.mul_le_mul_of_nonneg_left (by omega) (by omega)
        omega
      · rw [q] at this; omega
      · have : S.p * 1 ≤ S.p * ((a - b) / S.p) := Int.mul_le_mul_of_nonneg_left (by omega) (by omega)
        omega
  refine ⟨fun v => Classical.choose (ex v), ⟨fun v g u => ?_, fun v => (Classical.choose_spec (ex v)).1, fun v => (Classical.choose_spec (ex v)).2.1⟩, fun v hv => ?_, ?_⟩
  · have s1 := Classical.choose_spec (ex v)
    have s2 := Classical.choose_spec (ex u)
    have s3 := Classical.choose_spec (ex (S.c v g u))
    refine uq _ _ _ s3.1 s3.2.1 (Int.emod_nonneg _ (by omega)) (Int.emod_lt_of_pos _ h0) s3.2.2 ?_
    generalize Classical.choose (ex v) = a at *
    generalize Classical.choose (ex u) = b at *
    have := hH.c (f := g) s1.2.2 s2.2.2
    rw [S.assoc, S.comm v, S.two] at this
    rw [← S.md]
    have e : (-((a + g * b) % S.p)) % S.p = (-a + g * -b) % S.p := by
      have : -a + g * -b = -(a + g * b) := by rw [Int.mul_neg]; omega
      rw [this, nm]
    rw [e, S.md]
    exact this
  · have s1 := Classical.choose_spec (ex v)
    refine uq v _ 0 s1.1 s1.2.1 (Int.le_refl _) h0 s1.2.2 ?_
    rw [show (-0 : Int) = 0 from rfl, S.nul]
    exact hUH v hv
  · have s1 := Classical.choose_spec (ex x)
    refine uq x _ 1 s1.1 s1.2.1 (by decide) (by omega) s1.2.2 ?_
    have e1 : S.c (S.c S.z 1 x) (-1) x = S.z := by rw [S.two]; exact S.nul _ _
    rw [S.one] at e1
    rw [e1]
    exact hH.z
/-! ## words -/
open KW
def valP (S : VS M) (V A B C : M → Prop) : Tr → M → Prop
  | .lf c => if c = 97 then A else if c = 98 then B else if c = 99 then C else if c = 48 then (fun v => v = S.z) else V
  | .nd c l r => if c = 43 then (fun v => ∃ a b, valP S V A B C l a ∧ valP S V A B C r b ∧ v = S.c a 1 b) else (fun v => valP S V A B C l v ∧ valP S V A B C r v)
theorem leaf_cases {c : Nat} (h : leafC c = true) : c = 97 ∨ c = 98 ∨ c = 99 ∨ c = 48 ∨ c = 49 := by
  simp only [leafC, Bool.or_eq_true, beq_iff_eq] at h
  omega
theorem zero_sub : Sub S fun v => v = S.z := ⟨rfl, fun {v f u} e1 e2 => by rw [e1, e2, S.zer]⟩
theorem both_sub {A B : M → Prop} (hA : Sub S A) (hB : Sub S B) : Sub S fun v => A v ∧ B v := ⟨⟨hA.z, hB.z⟩, fun ⟨a1, a2⟩ ⟨b1, b2⟩ => ⟨hA.c a1 b1, hB.c a2 b2⟩⟩
theorem sum_sub {A B : M → Prop} (hA : Sub S A) (hB : Sub S B) : Sub S fun v => ∃ a b, A a ∧ B b ∧ v = S.c a 1 b := by
  refine ⟨⟨S.z, S.z, hA.z, hB.z, by rw [S.zer]⟩, fun {v f u} ⟨a, b, ha, hb, e1⟩ ⟨a', b', ha', hb', e2⟩ => ⟨S.c a f a', S.c b f b', hA.c ha ha', hB.c hb hb', ?_⟩⟩
  subst e1
  subst e2
  rw [S.assoc, S.assoc, S.comm a 1 b f a']
  congr 1
  omega
structure Trip (S : VS M) (V A B C : M → Prop) : Prop where
  v : Sub S V
  a : Sub S A
  b : Sub S B
  c : Sub S C
  av : ∀ {v}, A v → V v
  bv : ∀ {v}, B v → V v
  cv : ∀ {v}, C v → V v
variable {V A B C : M → Prop}
theorem val_sub (T : Trip S V A B C) : ∀ t, Sub S (valP S V A B C t)
  | .lf c => by
    unfold valP
    split
    · exact T.a
    · split
      · exact T.b
      · split
        · exact T.c
        · split
          · exact zero_sub
          · exact T.v
  | .nd c l r => by
    unfold valP
    split
    · exact sum_sub (val_sub T l) (val_sub T r)
    · exact both_sub (val_sub T l) (val_sub T r)
theorem val_in (T : Trip S V A B C) : ∀ t {v}, valP S V A B C t v → V v
  | .lf c, v => by
    unfold valP
    split
    · exact T.av
    · split
      · exact T.bv
      · split
        · exact T.cv
        · split
          · intro e
            rw [e]; exact T.v.z
          · exact id
  | .nd c l r, v => by
    unfold valP
    split
    · rintro ⟨a, b, ha, hb, rfl⟩
      exact T.v.c (val_in T l ha) (val_in T r hb)
    · exact fun h => val_in T l h.1
/-- a way to take the space apart -/
structure Cut (S : VS M) (V A B C : M → Prop) (r : M → M) : Prop where
  lin : ∀ v g u, r (S.c v g u) = S.c (r v) g (r u)
  id : ∀ v, r (r v) = r v
  v : ∀ {v}, V v → V (r v)
  a : ∀ {v}, A v → A (r v)
  b : ∀ {v}, B v → B (r v)
  c : ∀ {v}, C v → C (r v)
theorem VS.self (S : VS M) (v : M) : S.c v (-1) v = S.z := by
  have e1 : S.c (S.c S.z 1 v) (-1) v = S.z := by rw [S.two]; exact S.nul _ _
  rwa [S.one] at e1
variable {r : M → M}
theorem Cut.z (K : Cut S V A B C r) : r S.z = S.z := by
  have := K.lin S.z (-1) S.z
  rw [S.self, S.self] at this
  exact this
abbrev fixd (r : M → M) (A : M → Prop) : M → Prop := fun v => A v ∧ r v = v
abbrev kill (S : VS M) (r : M → M) (A : M → Prop) : M → Prop := fun v => A v ∧ r v = S.z
theorem fix_sub (K : Cut S V A B C r) {D : M → Prop} (h : Sub S D) : Sub S (fixd r D) := ⟨⟨h.z, K.z⟩, fun ⟨a1, a2⟩ ⟨b1, b2⟩ => ⟨h.c a1 b1, by rw [K.lin, a2, b2]⟩⟩
theorem kill_sub (K : Cut S V A B C r) {D : M → Prop} (h : Sub S D) : Sub S (kill S r D) := ⟨⟨h.z, K.z⟩, fun ⟨a1, a2⟩ ⟨b1, b2⟩ => ⟨h.c a1 b1, by rw [K.lin, a2, b2, S.zer]⟩⟩
theorem Cut.fix (K : Cut S V A B C r) (T : Trip S V A B C) : Trip S (fixd r V) (fixd r A) (fixd r B) (fixd r C) :=
  ⟨fix_sub K T.v, fix_sub K T.a, fix_sub K T.b, fix_sub K T.c, fun h => ⟨T.av h.1, h.2⟩, fun h => ⟨T.bv h.1, h.2⟩, fun h => ⟨T.cv h.1, h.2⟩⟩
theorem Cut.kill (K : Cut S V A B C r) (T : Trip S V A B C) : Trip S (kill S r V) (kill S r A) (kill S r B) (kill S r C) :=
  ⟨kill_sub K T.v, kill_sub K T.a, kill_sub K T.b, kill_sub K T.c, fun h => ⟨T.av h.1, h.2⟩, fun h => ⟨T.bv h.1, h.2⟩, fun h => ⟨T.cv h.1, h.2⟩⟩
/-- what the cut leaves out -/
def lft (S : VS M) (r : M → M) (v : M) : M := S.c v (-1) (r v)
theorem lft_kill (K : Cut S V A B C r) (v : M) : r (lft S r v) = S.z := by
  unfold lft
  rw [K.lin, K.id, S.self]
theorem lft_back (v : M) : S.c (lft S r v) 1 (r v) = v := by
  unfold lft
  rw [S.two, Int.add_left_neg, S.nul]
theorem VS.add_comm (S : VS M) (a b : M) : S.c a 1 b = S.c b 1 a := by
  have h : S.c (S.c S.z 1 a) 1 b = S.c (S.c S.z 1 b) 1 a := S.comm ..
  rwa [S.one, S.one] at h
theorem lft_in {D : M → Prop} (h : Sub S D) (k : ∀ {v}, D v → D (r v)) {v : M} (d : D v) : D (lft S r v) := h.c d (k d)
theorem of_parts {D : M → Prop} (h : Sub S D) {v : M} (d1 : D (r v)) (d2 : D (lft S r v)) : D v := by
  have := h.c (f := 1) d2 d1
  rwa [lft_back] at this
theorem lft_lin (K : Cut S V A B C r) (a b : M) : lft S r (S.c a 1 b) = S.c (lft S r a) 1 (lft S r b) := by
  unfold lft
  rw [K.lin, S.assoc, S.assoc, S.comm a 1 b (-1) (r a)]
  congr 1
theorem part_iff (K : Cut S V A B C r) {D : M → Prop} (h : Sub S D) (k : ∀ {v}, D v → D (r v)) (v : M) : D v ↔ fixd r D (r v) ∧ DX.kill S r D (lft S r v) :=
  ⟨fun d => ⟨⟨k d, K.id v⟩, lft_in h k d, lft_kill K v⟩, fun ⟨d1, d2⟩ => of_parts h d1.1 d2.1⟩
/-- a word's value is taken apart with the space -/
theorem split (K : Cut S V A B C r) (T : Trip S V A B C) : ∀ t v, valP S V A B C t v ↔ valP S (fixd r V) (fixd r A) (fixd r B) (fixd r C) t (r v) ∧ valP S (DX.kill S r V) (DX.kill S r A) (DX.kill S r B) (DX.kill S r C) t (lft S r v)
  | .lf c, v => by
    unfold valP
    split
    · exact part_iff K T.a K.a v
    · split
      · exact part_iff K T.b K.b v
      · split
        · exact part_iff K T.c K.c v
        · split
          · constructor
            · intro e
              rw [e, K.z]
              exact ⟨rfl, by unfold lft; rw [K.z, S.self]⟩
            · rintro ⟨e1, e2⟩
              have := lft_back (S := S) (r := r) v
              rw [e1, e2, S.zer] at this
              exact this.symm
          · exact part_iff K T.v K.v v
  | .nd c t u, v => by
    unfold valP
    split
    · constructor
      · rintro ⟨a, b, ha, hb, rfl⟩
        have h1 := (split K T t a).mp ha
        have h2 := (split K T u b).mp hb
        exact ⟨⟨r a, r b, h1.1, h2.1, K.lin ..⟩, ⟨_, _, h1.2, h2.2, lft_lin K a b⟩⟩
      · rintro ⟨⟨a1, b1, ha1, hb1, e1⟩, ⟨a2, b2, ha2, hb2, e2⟩⟩
        have fa := (val_in (K.fix T) t ha1).2
        have fb := (val_in (K.fix T) u hb1).2
        have ka := (val_in (K.kill T) t ha2).2
        have kb := (val_in (K.kill T) u hb2).2
        have ra : r (S.c a2 1 a1) = a1 := by rw [K.lin, ka, fa, S.one]
        have rb : r (S.c b2 1 b1) = b1 := by rw [K.lin, kb, fb, S.one]
        have la : lft S r (S.c a2 1 a1) = a2 := by unfold lft; rw [ra, S.two, Int.add_right_neg, S.nul]
        have lb : lft S r (S.c b2 1 b1) = b2 := by unfold lft; rw [rb, S.two, Int.add_right_neg, S.nul]
        refine ⟨S.c a2 1 a1, S.c b2 1 b1, (split K T t _).mpr ⟨by rw [ra]; exact ha1, by rw [la]; exact ha2⟩, (split K T u _).mpr ⟨by rw [rb]; exact hb1, by rw [lb]; exact hb2⟩, ?_⟩
        have := lft_back (S := S) (r := r) v
        rw [e1, e2] at this
        rw [← this, S.assoc (S.c a2 1 b2) 1 a1 1 b1, S.assoc (S.c a2 1 a1) 1 b2 1 b1, S.comm a2 1 b2 1 a1]
    · have h1 := split K T t v
      have h2 := split K T u v
      constructor
      · rintro ⟨a, b⟩
        exact ⟨⟨(h1.mp a).1, (h2.mp b).1⟩, ⟨(h1.mp a).2, (h2.mp b).2⟩⟩
      · rintro ⟨⟨a, c⟩, ⟨b, d⟩⟩
        exact ⟨h1.mpr ⟨a, b⟩, h2.mpr ⟨c, d⟩⟩
/-! ## lines -/
/-- a line: the multiples of x -/
structure Line (S : VS M) (X A B C : M → Prop) (x : M) (k : List Nat) : Prop where
  mem : X x
  nz : x ≠ S.z
  of : ∀ {v}, X v → ∃ f, v = S.c S.z f x
  np : k ≠ PL
  a : 97 ∈ k ↔ A x
  b : 98 ∈ k ↔ B x
  c : 99 ∈ k ↔ C x
theorem line_hand {X D : M → Prop} {x : M} (hD : Sub S D) (le : ∀ {v}, D v → X v) (of : ∀ {v}, X v → ∃ f, v = S.c S.z f x) {v : M} (hv : X v) : D v ↔ v = S.z ∨ D x := by
  constructor
  · intro d
    by_cases e : v = S.z
    · exact .inl e
    · obtain ⟨f, rfl⟩ := of hv
      refine .inr (hD.unsc (f := f) (fun h => e ?_) d hD.z)
      exact S.md0 h
  · rintro (rfl | d)
    · exact hD.z
    · obtain ⟨f, rfl⟩ := of hv
      exact hD.sc d
theorem mk_bit {k : List Nat} (hk : k ≠ PL) {t : Tr} (h : WF t = true) : mk k t = 48 ∨ mk k t = 49 := (li_mk hk h).1
theorem line_val {X : M → Prop} {x : M} {k : List Nat} (T : Trip S X A B C) (L : Line S X A B C x k) : ∀ t, WF t = true → ∀ v, X v → (valP S X A B C t v ↔ v = S.z ∨ mk k t = 49)
  | .lf c, h, v, hv => by
    have hc : leafC c = true := by simpa [WF] using h
    rcases leaf_cases hc with rfl | rfl | rfl | rfl | rfl
    · show A v ↔ _ ∨ letM 97 k = 49
      rw [line_hand T.a T.av L.of hv, ← L.a, letM, if_neg L.np]
      by_cases m : 97 ∈ k <;> simp [m]
    · show B v ↔ _ ∨ letM 98 k = 49
      rw [line_hand T.b T.bv L.of hv, ← L.b, letM, if_neg L.np]
      by_cases m : 98 ∈ k <;> simp [m]
    · show C v ↔ _ ∨ letM 99 k = 49
      rw [line_hand T.c T.cv L.of hv, ← L.c, letM, if_neg L.np]
      by_cases m : 99 ∈ k <;> simp [m]
    · show v = S.z ↔ v = S.z ∨ (48 : Nat) = 49
      simp
    · show X v ↔ v = S.z ∨ (49 : Nat) = 49
      simp [hv]
  | .nd c t u, h, v, hv => by
    simp only [WF, Bool.and_eq_true] at h
    have b1 := mk_bit L.np h.1.2
    have b2 := mk_bit L.np h.2
    rcases joint_two h.1.1 with rfl | rfl
    · show (∃ a b, valP S X A B C t a ∧ valP S X A B C u b ∧ v = S.c a 1 b) ↔ v = S.z ∨ sumM (mk k t) (mk k u) = 49
      have e : sumM (mk k t) (mk k u) = 49 ↔ mk k t = 49 ∨ mk k u = 49 := by rcases b1 with h1 | h1 <;> rcases b2 with h2 | h2 <;> rw [h1, h2] <;> decide
      rw [e]
      constructor
      · rintro ⟨a, b, ha, hb, rfl⟩
        rcases (line_val T L t h.1.2 a (val_in T t ha)).mp ha with rfl | q
        · rcases (line_val T L u h.2 b (val_in T u hb)).mp hb with rfl | q
          · exact .inl (S.zer _ _)
          · exact .inr (.inr q)
        · exact .inr (.inl q)
      · rintro (rfl | q | q)
        · exact ⟨S.z, S.z, (val_sub T t).z, (val_sub T u).z, (S.zer _ _).symm⟩
        · exact ⟨v, S.z, (line_val T L t h.1.2 v hv).mpr (.inr q), (val_sub T u).z, (S.zer _ _).symm⟩
        · exact ⟨S.z, v, (val_sub T t).z, (line_val T L u h.2 v hv).mpr (.inr q), (S.one _).symm⟩
    · show (valP S X A B C t v ∧ valP S X A B C u v) ↔ v = S.z ∨ comM (mk k t) (mk k u) = 49
      have e : comM (mk k t) (mk k u) = 49 ↔ mk k t = 49 ∧ mk k u = 49 := by rcases b1 with h1 | h1 <;> rcases b2 with h2 | h2 <;> rw [h1, h2] <;> decide
      rw [e, line_val T L t h.1.2 v hv, line_val T L u h.2 v hv]
      constructor
      · rintro ⟨q | q, s | s⟩
        · exact .inl q
        · exact .inl q
        · exact .inl s
        · exact .inr ⟨q, s⟩
      · rintro (q | ⟨q, s⟩)
        · exact ⟨.inl q, .inl q⟩
        · exact ⟨.inr q, .inr s⟩
/-! ## planes -/
/-- planes: any two hands have nothing in common, and all together -/
structure Plane (S : VS M) (X A B C : M → Prop) : Prop where
  ab : ∀ {v}, A v → B v → v = S.z
  ac : ∀ {v}, A v → C v → v = S.z
  bc : ∀ {v}, B v → C v → v = S.z
  sab : ∀ {v}, X v → ∃ a b, A a ∧ B b ∧ v = S.c a 1 b
  sac : ∀ {v}, X v → ∃ a b, A a ∧ C b ∧ v = S.c a 1 b
  sbc : ∀ {v}, X v → ∃ a b, B a ∧ C b ∧ v = S.c a 1 b
def lineOf (S : VS M) (X A B C : M → Prop) (m : Nat) : M → Prop := if m = 97 then A else if m = 98 then B else if m = 99 then C else if m = 48 then (fun v => v = S.z) else X
theorem sum_self {D : M → Prop} (h : Sub S D) {v : M} : (∃ a b, D a ∧ D b ∧ v = S.c a 1 b) ↔ D v :=
  ⟨fun ⟨a, b, ha, hb, e⟩ => e ▸ h.c ha hb, fun d => ⟨v, S.z, d, h.z, (S.zer _ _).symm⟩⟩
theorem sum_zero {D : M → Prop} (h : Sub S D) {v : M} : (∃ a b, D a ∧ (b = S.z) ∧ v = S.c a 1 b) ↔ D v :=
  ⟨fun ⟨a, b, ha, hb, e⟩ => by rw [e, hb, S.zer]; exact ha, fun d => ⟨v, S.z, d, rfl, (S.zer _ _).symm⟩⟩
theorem zero_sum {D : M → Prop} (h : Sub S D) {v : M} : (∃ a b, (a = S.z) ∧ D b ∧ v = S.c a 1 b) ↔ D v :=
  ⟨fun ⟨a, b, ha, hb, e⟩ => by rw [e, ha, S.one]; exact hb, fun d => ⟨S.z, v, rfl, d, (S.one _).symm⟩⟩
theorem sum_all {X D E : M → Prop} (hX : Sub S X) (hD : ∀ {v}, D v → X v) (hE : ∀ {v}, E v → X v) (k : ∀ {v}, X v → ∃ a b, D a ∧ E b ∧ v = S.c a 1 b) {v : M} : (∃ a b, D a ∧ E b ∧ v = S.c a 1 b) ↔ X v :=
  ⟨fun ⟨a, b, ha, hb, e⟩ => e ▸ hX.c (hD ha) (hE hb), k⟩
theorem swap_sum {D E : M → Prop} {v : M} : (∃ a b, D a ∧ E b ∧ v = S.c a 1 b) ↔ ∃ a b, E a ∧ D b ∧ v = S.c a 1 b :=
  ⟨fun ⟨a, b, ha, hb, e⟩ => ⟨b, a, hb, ha, by rw [e, S.add_comm]⟩, fun ⟨a, b, ha, hb, e⟩ => ⟨b, a, hb, ha, by rw [e, S.add_comm]⟩⟩
theorem line_sub {X : M → Prop} (T : Trip S X A B C) (m : Nat) : Sub S (lineOf S X A B C m) := by
  unfold lineOf
  split
  · exact T.a
  · split
    · exact T.b
    · split
      · exact T.c
      · split
        · exact zero_sub
        · exact T.v
theorem line_in {X : M → Prop} (T : Trip S X A B C) (m : Nat) {v : M} (h : lineOf S X A B C m v) : X v := by
  unfold lineOf at h
  split at h
  · exact T.av h
  · split at h
    · exact T.bv h
    · split at h
      · exact T.cv h
      · split at h
        · rw [h]; exact T.v.z
        · exact h
theorem line_mono {X : M → Prop} (T : Trip S X A B C) {x y : Nat} (hy : five y = true) (w : isW x y = true) {v : M} (h : lineOf S X A B C x v) : lineOf S X A B C y v := by
  simp only [isW, Bool.or_eq_true, beq_iff_eq] at w
  rcases w with e | e | e
  · rw [← e]; exact h
  · subst e
    rw [show v = S.z from h]
    exact (line_sub T y).z
  · subst e
    exact line_in T x h
theorem sum_le {D E : M → Prop} (hE : Sub S E) (le : ∀ {v}, D v → E v) (z : D S.z) {v : M} : (∃ a b, D a ∧ E b ∧ v = S.c a 1 b) ↔ E v :=
  ⟨fun ⟨a, b, ha, hb, e⟩ => e ▸ hE.c (le ha) hb, fun d => ⟨S.z, v, z, d, (S.one _).symm⟩⟩
theorem plane_val {X : M → Prop} (T : Trip S X A B C) (P : Plane S X A B C) : ∀ t, WF t = true → ∀ v, valP S X A B C t v ↔ lineOf S X A B C (mk PL t) v
  | .lf c, h, v => by
    have hc : leafC c = true := by simpa [WF] using h
    rcases leaf_cases hc with rfl | rfl | rfl | rfl | rfl <;> exact Iff.rfl
  | .nd c t u, h, v => by
    simp only [WF, Bool.and_eq_true] at h
    have f1 := mk_five (k := PL) h.1.2
    have f2 := mk_five (k := PL) h.2
    have i1 := plane_val T P t h.1.2
    have i2 := plane_val T P u h.2
    have three : ∀ {x y : Nat}, five x = true → five y = true → ¬isW x y = true → ¬isW y x = true → (x = 97 ∨ x = 98 ∨ x = 99) ∧ (y = 97 ∨ y = 98 ∨ y = 99) ∧ x ≠ y := fun {x y} hx hy n1 n2 => by
      rcases five_cases hx with rfl | rfl | rfl | rfl | rfl <;> rcases five_cases hy with rfl | rfl | rfl | rfl | rfl <;> first | exact absurd (by decide) n1 | exact absurd (by decide) n2 | simp
    rcases joint_two h.1.1 with rfl | rfl
    · show (∃ a b, valP S X A B C t a ∧ valP S X A B C u b ∧ v = S.c a 1 b) ↔ lineOf S X A B C (sumM (mk PL t) (mk PL u)) v
      have e : (∃ a b, valP S X A B C t a ∧ valP S X A B C u b ∧ v = S.c a 1 b) ↔ ∃ a b, lineOf S X A B C (mk PL t) a ∧ lineOf S X A B C (mk PL u) b ∧ v = S.c a 1 b :=
        ⟨fun ⟨a, b, ha, hb, e⟩ => ⟨a, b, (i1 a).mp ha, (i2 b).mp hb, e⟩, fun ⟨a, b, ha, hb, e⟩ => ⟨a, b, (i1 a).mpr ha, (i2 b).mpr hb, e⟩⟩
      rw [e]
      generalize mk PL t = x at *
      generalize mk PL u = y at *
      unfold sumM
      by_cases w1 : isW x y = true
      · rw [if_pos w1]
        exact sum_le (line_sub T y) (line_mono T f2 w1) (line_sub T x).z
      · rw [if_neg w1]
        by_cases w2 : isW y x = true
        · rw [if_pos w2, swap_sum]
          exact sum_le (line_sub T x) (line_mono T f1 w2) (line_sub T y).z
        · rw [if_neg w2]
          obtain ⟨h1, h2, ne⟩ := three f1 f2 w1 w2
          rcases h1 with rfl | rfl | rfl <;> rcases h2 with rfl | rfl | rfl <;> first | exact absurd rfl ne | skip
          · exact sum_all T.v T.av T.bv P.sab
          · exact sum_all T.v T.av T.cv P.sac
          · rw [swap_sum]; exact sum_all T.v T.av T.bv P.sab
          · exact sum_all T.v T.bv T.cv P.sbc
          · rw [swap_sum]; exact sum_all T.v T.av T.cv P.sac
          · rw [swap_sum]; exact sum_all T.v T.bv T.cv P.sbc
    · show (valP S X A B C t v ∧ valP S X A B C u v) ↔ lineOf S X A B C (comM (mk PL t) (mk PL u)) v
      rw [i1 v, i2 v]
      generalize mk PL t = x at *
      generalize mk PL u = y at *
      unfold comM
      by_cases w1 : isW x y = true
      · rw [if_pos w1]
        exact ⟨fun h => h.1, fun h => ⟨h, line_mono T f2 w1 h⟩⟩
      · rw [if_neg w1]
        by_cases w2 : isW y x = true
        · rw [if_pos w2]
          exact ⟨fun h => h.2, fun h => ⟨line_mono T f1 w2 h, h⟩⟩
        · rw [if_neg w2]
          obtain ⟨h1, h2, ne⟩ := three f1 f2 w1 w2
          refine ⟨fun h => ?_, fun (h : v = S.z) => by rw [h]; exact ⟨(line_sub T x).z, (line_sub T y).z⟩⟩
          show v = S.z
          rcases h1 with rfl | rfl | rfl <;> rcases h2 with rfl | rfl | rfl <;> first | exact absurd rfl ne | skip
          · exact P.ab h.1 h.2
          · exact P.ac h.1 h.2
          · exact P.ab h.2 h.1
          · exact P.bc h.1 h.2
          · exact P.ac h.2 h.1
          · exact P.bc h.2 h.1
/-! ## a line is cut off -/
theorem Lin.z {f : M → Int} (L : Lin S f) : f S.z = 0 := by
  have := L.c S.z (-1) S.z
  rw [S.zer] at this
  rw [this, show f S.z + -1 * f S.z = 0 by omega]
  exact Int.zero_emod _
theorem Lin.le {f : M → Int} (L : Lin S f) {v : M} {g : Int} {u : M} : f (S.c v g u) = (f v + g * f u) % S.p := L.c v g u
def off (S : VS M) (f : M → Int) (x : M) (v : M) : M := S.c v (-(f v)) x
theorem off_cut {f : M → Int} {x : M} (T : Trip S V A B C) (L : Lin S f) (hx : V x) (f1 : f x = 1) (ha : A x ∨ ∀ v, A v → f v = 0) (hb : B x ∨ ∀ v, B v → f v = 0) (hc : C x ∨ ∀ v, C v → f v = 0) : Cut S V A B C (off S f x) := by
  have hand : ∀ {D : M → Prop}, Sub S D → (D x ∨ ∀ v, D v → f v = 0) → ∀ {v}, D v → D (off S f x v) := fun {D} hD h {v} d => by
    unfold off
    rcases h with h | h
    · exact hD.c d h
    · rw [h v d, show (-0 : Int) = 0 from rfl, S.nul]; exact d
  have f0 : ∀ v, f (off S f x v) = 0 := fun v => by
    unfold off
    rw [L.c, f1, Int.mul_one, Int.add_right_neg]
    exact Int.zero_emod _
  refine ⟨fun v g u => ?_, fun v => ?_, fun h => T.v.c h hx, hand T.a ha, hand T.b hb, hand T.c hc⟩
  · unfold off
    rw [L.c, S.assoc, S.comm v _ x g u, S.two, ← S.md, nm, S.md]
    congr 1
    rw [Int.mul_neg]
    omega
  · show S.c (off S f x v) (-(f (off S f x v))) x = _
    rw [f0, show (-0 : Int) = 0 from rfl, S.nul]
def K8 : List (List Nat) := [[], [97], [98], [99], [97, 98], [97, 99], [98, 99], [97, 98, 99]]
theorem K8_np : ∀ k ∈ K8, k ≠ PL := by decide
theorem pick8 (a b c : Prop) : ∃ k ∈ K8, (97 ∈ k ↔ a) ∧ (98 ∈ k ↔ b) ∧ (99 ∈ k ↔ c) := by
  by_cases ha : a <;> by_cases hb : b <;> by_cases hc : c
  · exact ⟨[97, 98, 99], by decide, by simp [ha], by simp [hb], by simp [hc]⟩
  · exact ⟨[97, 98], by decide, by simp [ha], by simp [hb], by simp [hc]⟩
  · exact ⟨[97, 99], by decide, by simp [ha], by simp [hb], by simp [hc]⟩
  · exact ⟨[97], by decide, by simp [ha], by simp [hb], by simp [hc]⟩
  · exact ⟨[98, 99], by decide, by simp [ha], by simp [hb], by simp [hc]⟩
  · exact ⟨[98], by decide, by simp [ha], by simp [hb], by simp [hc]⟩
  · exact ⟨[99], by decide, by simp [ha], by simp [hb], by simp [hc]⟩
  · exact ⟨[], by decide, by simp [ha], by simp [hb], by simp [hc]⟩
/-- one word is within the other on all kinds -/
structure Le9 (t u : Tr) : Prop where
  ht : WF t = true
  hu : WF u = true
  l : ∀ k ∈ K8, isW (mk k t) (mk k u) = true
  p : isW (mk PL t) (mk PL u) = true
theorem le49 {x y : Nat} (w : isW x y = true) (h : x = 49) : y = 49 := by
  subst h
  simp only [isW, Bool.or_eq_true, beq_iff_eq] at w
  omega
theorem step {f : M → Int} {x : M} (T : Trip S V A B C) (L : Lin S f) (hx : V x) (f1 : f x = 1) (ha : A x ∨ ∀ v, A v → f v = 0) (hb : B x ∨ ∀ v, B v → f v = 0) (hc : C x ∨ ∀ v, C v → f v = 0)
    {t u : Tr} (h9 : Le9 t u) (ih : ∀ {V' A' B' C' : M → Prop}, Trip S V' A' B' C' → cnt S V' < cnt S V → ∀ v, valP S V' A' B' C' t v → valP S V' A' B' C' u v) (v : M) (hv : valP S V A B C t v) : valP S V A B C u v := by
  have K := off_cut T L hx f1 ha hb hc
  have rx : off S f x x = S.z := by unfold off; rw [f1]; exact S.self x
  have nz : x ≠ S.z := fun e => by rw [e, L.z] at f1; cases f1
  obtain ⟨k, hk, ka, kb, kc⟩ := pick8 (kill S (off S f x) A x) (kill S (off S f x) B x) (kill S (off S f x) C x)
  have LN : Line S (kill S (off S f x) V) (kill S (off S f x) A) (kill S (off S f x) B) (kill S (off S f x) C) x k :=
    ⟨⟨hx, rx⟩, nz, fun {v} h => ⟨f v, by
      have e : S.c (off S f x v) (f v) x = v := S.back'
      rw [h.2] at e
      exact e.symm⟩, K8_np k hk, ka, kb, kc⟩
  have s := (split K T t v).mp hv
  refine (split K T u v).mpr ⟨ih (K.fix T) ?_ _ s.1, ?_⟩
  · exact cnt_lt (fun v h => h.1) hx fun h => nz (h.2.symm.trans rx)
  · have hX := val_in (K.kill T) t s.2
    refine (line_val (K.kill T) LN u h9.hu _ hX).mpr ?_
    exact ((line_val (K.kill T) LN t h9.ht _ hX).mp s.2).imp id (le49 (h9.l k hk))
abbrev sumP (S : VS M) (A B : M → Prop) : M → Prop := fun v => ∃ a b, A a ∧ B b ∧ v = S.c a 1 b
theorem in_l {A B : M → Prop} (hB : Sub S B) {v : M} (h : A v) : sumP S A B v := ⟨v, S.z, h, hB.z, (S.zer _ _).symm⟩
theorem in_r {A B : M → Prop} (hA : Sub S A) {v : M} (h : B v) : sumP S A B v := ⟨S.z, v, hA.z, h, (S.one _).symm⟩
/-- what holds on the nine kinds holds everywhere -/
theorem main {t u : Tr} (h9 : Le9 t u) : ∀ (N : Nat) {V A B C : M → Prop}, Trip S V A B C → cnt S V ≤ N → ∀ v, valP S V A B C t v → valP S V A B C u v := by
  intro N
  induction N with
  | zero =>
    intro V A B C T hN v hv
    have := cnt_lt (S := S) (A := fun _ => False) (B := V) (fun _ h => h.elim) T.v.z id
    omega
  | succ N ih =>
    intro V A B C T hN v hv
    have ih' : ∀ {V' A' B' C' : M → Prop}, Trip S V' A' B' C' → cnt S V' < cnt S V → ∀ v, valP S V' A' B' C' t v → valP S V' A' B' C' u v := fun T' lt => ih T' (by omega)
    have go : ∀ {U : M → Prop} {x : M}, Sub S U → V x → ¬U x → (A x ∨ ∀ v, A v → U v) → (B x ∨ ∀ v, B v → U v) → (C x ∨ ∀ v, C v → U v) → valP S V A B C u v := fun {U x} hU hx nx a b c => by
      obtain ⟨f, L, f0, f1⟩ := form hU nx
      exact step T L hx f1 (a.imp id fun h v d => f0 v (h v d)) (b.imp id fun h v d => f0 v (h v d)) (c.imp id fun h v d => f0 v (h v d)) h9 ih' v hv
    have sAB := sum_sub T.a T.b
    have sAC := sum_sub T.a T.c
    have sBC := sum_sub T.b T.c
    by_cases c1 : ∃ x, V x ∧ ¬sumP S (sumP S A B) C x
    · obtain ⟨x, hx, nx⟩ := c1
      exact go (sum_sub sAB T.c) hx nx (.inr fun v d => in_l T.c (in_l T.b d)) (.inr fun v d => in_l T.c (in_r T.a d)) (.inr fun v d => in_r sAB d)
    by_cases c2 : ∃ x, A x ∧ ¬sumP S B C x
    · obtain ⟨x, hx, nx⟩ := c2
      exact go sBC (T.av hx) nx (.inl hx) (.inr fun v d => in_l T.c d) (.inr fun v d => in_r T.b d)
    by_cases c3 : ∃ x, B x ∧ ¬sumP S A C x
    · obtain ⟨x, hx, nx⟩ := c3
      exact go sAC (T.bv hx) nx (.inr fun v d => in_l T.c d) (.inl hx) (.inr fun v d => in_r T.a d)
    by_cases c4 : ∃ x, C x ∧ ¬sumP S A B x
    · obtain ⟨x, hx, nx⟩ := c4
      exact go sAB (T.cv hx) nx (.inr fun v d => in_l T.b d) (.inr fun v d => in_r T.a d) (.inl hx)
    by_cases c5 : ∃ x, (A x ∧ B x) ∧ ¬C x
    · obtain ⟨x, ⟨hx, hy⟩, nx⟩ := c5
      exact go T.c (T.av hx) nx (.inl hx) (.inl hy) (.inr fun v d => d)
    by_cases c6 : ∃ x, (A x ∧ C x) ∧ ¬B x
    · obtain ⟨x, ⟨hx, hy⟩, nx⟩ := c6
      exact go T.b (T.av hx) nx (.inl hx) (.inr fun v d => d) (.inl hy)
    by_cases c7 : ∃ x, (B x ∧ C x) ∧ ¬A x
    · obtain ⟨x, ⟨hx, hy⟩, nx⟩ := c7
      exact go T.a (T.bv hx) nx (.inr fun v d => d) (.inl hx) (.inl hy)
    by_cases c8 : ∃ x, (A x ∧ B x ∧ C x) ∧ ¬x = S.z
    · obtain ⟨x, ⟨hx, hy, hz⟩, nx⟩ := c8
      exact go zero_sub (T.av hx) nx (.inl hx) (.inl hy) (.inl hz)
    have d1 : ∀ x, V x → sumP S (sumP S A B) C x := fun x h => Classical.byContradiction fun n => c1 ⟨x, h, n⟩
    have d2 : ∀ x, A x → sumP S B C x := fun x h => Classical.byContradiction fun n => c2 ⟨x, h, n⟩
    have d3 : ∀ x, B x → sumP S A C x := fun x h => Classical.byContradiction fun n => c3 ⟨x, h, n⟩
    have d4 : ∀ x, C x → sumP S A B x := fun x h => Classical.byContradiction fun n => c4 ⟨x, h, n⟩
    have d5 : ∀ x, A x → B x → C x := fun x h h' => Classical.byContradiction fun n => c5 ⟨x, ⟨h, h'⟩, n⟩
    have d6 : ∀ x, A x → C x → B x := fun x h h' => Classical.byContradiction fun n => c6 ⟨x, ⟨h, h'⟩, n⟩
    have d7 : ∀ x, B x → C x → A x := fun x h h' => Classical.byContradiction fun n => c7 ⟨x, ⟨h, h'⟩, n⟩
    have d8 : ∀ x, A x → B x → C x → x = S.z := fun x h h' h'' => Classical.byContradiction fun n => c8 ⟨x, ⟨h, h', h''⟩, n⟩
    have P : Plane S V A B C := by
      refine ⟨fun a b => d8 _ a b (d5 _ a b), fun a c => d8 _ a (d6 _ a c) c, fun b c => d8 _ (d7 _ b c) b c, fun {v} h => ?_, fun {v} h => ?_, fun {v} h => ?_⟩
      · obtain ⟨s, c, ⟨a, b, ha, hb, rfl⟩, hc, rfl⟩ := d1 v h
        exact sAB.c ⟨a, b, ha, hb, rfl⟩ (d4 c hc)
      · obtain ⟨s, c, ⟨a, b, ha, hb, rfl⟩, hc, rfl⟩ := d1 v h
        exact sAC.c (sAC.c (in_l T.c ha) (d3 b hb)) (in_r T.a hc)
      · obtain ⟨s, c, ⟨a, b, ha, hb, rfl⟩, hc, rfl⟩ := d1 v h
        exact sBC.c (sBC.c (d2 a ha) (in_l T.c hb)) (in_r T.b hc)
    refine (plane_val T P u h9.hu v).mpr ?_
    exact line_mono T (mk_five h9.hu) h9.p ((plane_val T P t h9.ht v).mp hv)
end DX

set_option linter.all false
/-! # rows over F_p as vectors; the value of a word in a triple of spans; the nine kinds (plain mathematics, no Python) -/
namespace RX
open KW
def allRows (p : Int) : Nat → List (List Int)
  | 0 => [[]]
  | n + 1 => (List.range p.toNat).flatMap fun x : Nat => (allRows p n).map fun r => (x : Int) :: r
theorem mem_allRows {p : Int} : ∀ {n : Nat} {r : List Int}, Row p n r → r ∈ allRows p n
  | 0, r, h => by
    have : r = [] := List.length_eq_zero_iff.mp h.1
    subst this
    simp [allRows]
  | n + 1, [], h => by simp [Row] at h
  | n + 1, x :: r, h => by
    have h1 := h.2 x (List.mem_cons_self ..)
    have h2 : Row p n r := ⟨by simpa using h.1, fun y hy => h.2 y (List.mem_cons_of_mem _ hy)⟩
    simp only [allRows, List.mem_flatMap, List.mem_map, List.mem_range]
    exact ⟨x.toNat, by omega, r, mem_allRows h2, by rw [Int.toNat_of_nonneg h1.1]⟩
abbrev Rw (p : Int) (n : Nat) : Type := {v : List Int // Row p n v}
open Classical in
noncomputable def listed {p : Int} {n : Nat} (l : List (List Int)) : List (Rw p n) := l.filterMap fun v => if h : Row p n v then some ⟨v, h⟩ else none
theorem mem_listed {p : Int} {n : Nat} {l : List (List Int)} (v : Rw p n) (h : v.1 ∈ l) : v ∈ listed l := by
  simp only [listed, List.mem_filterMap]
  exact ⟨v.1, h, by rw [dif_pos v.2]⟩
theorem addR_md {p f : Int} {v u : List Int} : addR p v (f % p) u = addR p v f u := by
  unfold addR
  congr 1
  funext a b
  rw [Int.add_emod, Int.mul_emod, Int.emod_emod_of_dvd _ (Int.dvd_refl p), ← Int.mul_emod, ← Int.add_emod]
noncomputable def rowVS {p : Int} {inv : Int → Int} (I : Inv p inv) (n : Nat) : DX.VS (Rw p n) where
  p := p
  inv := inv
  I := I
  z := ⟨List.replicate n 0, zero_row I.pos⟩
  c v f u := ⟨addR p v.1 f u.1, addR_row I.pos v.2.1 u.2.1⟩
  comm v f u g w := Subtype.ext (addR_comm v.2.1 u.2.1 w.2.1)
  assoc v f u g w := Subtype.ext (addR_assoc v.2.1 u.2.1 w.2.1)
  two v f u g := Subtype.ext ((addR_two v.2.1 u.2.1).trans addR_md)
  one v := Subtype.ext ((zero_add v.2.1).trans (scale_one I.pos v.2 (by have := I.two; exact Int.emod_eq_of_lt (by omega) (by omega))))
  nul v u := Subtype.ext (addR_zero I.pos v.2 u.2.1)
  zer v f := Subtype.ext (addR_rep I.pos v.2)
  md v f u := Subtype.ext addR_md
  all := listed (allRows p n)
  mem v := mem_listed v (mem_allRows v.2)
/-- being in a span, of a row -/
def inP {p : Int} {n : Nat} (B : List (List Int)) : Rw p n → Prop := fun v => InS p n B v.1
section
variable {p : Int} {inv : Int → Int} {n : Nat}
theorem inP_sub (I : Inv p inv) {B : List (List Int)} (hB : Len n B) : DX.Sub (rowVS I n) (inP B) := ⟨InS.zero, fun a b => a.comb I.pos hB b⟩
theorem app_split (h : 0 < p) {b c : List (List Int)} (hb : Len n b) (hc : Len n c) {v : List Int} : InS p n (b ++ c) v ↔ ∃ x y, InS p n b x ∧ InS p n c y ∧ v = addR p x 1 y := by
  constructor
  · intro i
    induction i with
    | zero => exact ⟨_, _, .zero, .zero, by rw [addR_rep h (zero_row h)]⟩
    | @add v r f i hr ih =>
      obtain ⟨x, y, hx, hy, e⟩ := ih
      have lx := (hx.row h hb).1
      have ly := (hy.row h hc).1
      subst e
      rcases List.mem_append.mp hr with m | m
      · exact ⟨addR p x f r, y, .add f hx m, hy, addR_comm lx ly (hb _ m)⟩
      · refine ⟨x, addR p y f r, hx, .add f hy m, ?_⟩
        rw [addR_assoc lx ly (hc _ m), Int.one_mul]
  · rintro ⟨x, y, hx, hy, rfl⟩
    have hbc : Len n (b ++ c) := fun r m => (List.mem_append.mp m).elim (hb r) (hc r)
    exact (hx.mono fun r m => List.mem_append_left _ m).comb h hbc (hy.mono fun r m => List.mem_append_right _ m)
/-- the basis of a word's value -/
def valI (inv : Int → Int) (p : Int) (n : Nat) (W A B C : List (List Int)) : Tr → List (List Int)
  | .lf c => if c = 97 then A else if c = 98 then B else if c = 99 then C else if c = 48 then reduced inv p [] else W
  | .nd c l r => if c = 43 then sumL inv p (valI inv p n W A B C l) (valI inv p n W A B C r) else commonL inv p n (valI inv p n W A B C l) (valI inv p n W A B C r)
theorem in_nil {v : List Int} : InS p n [] v ↔ v = List.replicate n 0 := by
  constructor
  · intro i
    cases i with
    | zero => rfl
    | add f i h => exact nomatch h
  · intro e
    rw [e]
    exact .zero
variable {W A B C : List (List Int)}
theorem valI_rref (I : Inv p inv) (RW : Rref p n W) (RA : Rref p n A) (RB : Rref p n B) (RC : Rref p n C) : ∀ t, Rref p n (valI inv p n W A B C t)
  | .lf c => by
    unfold valI
    split
    · exact RA
    split
    · exact RB
    split
    · exact RC
    split
    · exact .nil
    exact RW
  | .nd c l r => by
    unfold valI
    split
    · exact sum_rref I (valI_rref I RW RA RB RC l) (valI_rref I RW RA RB RC r)
    exact common_rref I (valI_rref I RW RA RB RC l) (valI_rref I RW RA RB RC r)
theorem valI_iff (I : Inv p inv) (RW : Rref p n W) (RA : Rref p n A) (RB : Rref p n B) (RC : Rref p n C) : ∀ t (v : Rw p n), inP (valI inv p n W A B C t) v ↔ DX.valP (rowVS I n) (inP W) (inP A) (inP B) (inP C) t v
  | .lf c, v => by
    unfold valI DX.valP
    by_cases h1 : c = 97
    · simp only [h1, if_true]
    by_cases h2 : c = 98
    · simp [h2]
    by_cases h3 : c = 99
    · simp [h3]
    by_cases h4 : c = 48
    · simp only [h4]
      simp only [show ¬((48 : Nat) = 97) by decide, show ¬((48 : Nat) = 98) by decide, show ¬((48 : Nat) = 99) by decide, if_false, if_true]
      exact in_nil.trans ⟨fun e => Subtype.ext e, fun e => congrArg Subtype.val e⟩
    · simp only [h1, h2, h3, h4, if_false]
  | .nd c l r, v => by
    have R1 := valI_rref I RW RA RB RC l
    have R2 := valI_rref I RW RA RB RC r
    unfold valI DX.valP
    split
    · refine ((sum_span I R1 R2 v.1).trans (app_split I.pos R1.len R2.len)).trans ⟨?_, ?_⟩
      · rintro ⟨x, y, hx, hy, e⟩
        exact ⟨⟨x, hx.row I.pos R1.len⟩, ⟨y, hy.row I.pos R2.len⟩, (valI_iff I RW RA RB RC l _).mp hx, (valI_iff I RW RA RB RC r _).mp hy, Subtype.ext e⟩
      · rintro ⟨x, y, hx, hy, e⟩
        exact ⟨x.1, y.1, (valI_iff I RW RA RB RC l _).mpr hx, (valI_iff I RW RA RB RC r _).mpr hy, congrArg Subtype.val e⟩
    · exact (common_span I R1 R2 v.1).trans ⟨fun h => ⟨(valI_iff I RW RA RB RC l _).mp h.1, (valI_iff I RW RA RB RC r _).mp h.2⟩, fun h => ⟨(valI_iff I RW RA RB RC l _).mpr h.1, (valI_iff I RW RA RB RC r _).mpr h.2⟩⟩
theorem trip_of (I : Inv p inv) (hW : ∀ v, Row p n v → InS p n W v) (RW : Rref p n W) (RA : Rref p n A) (RB : Rref p n B) (RC : Rref p n C) : DX.Trip (rowVS I n) (inP W) (inP A) (inP B) (inP C) :=
  ⟨inP_sub I RW.len, inP_sub I RA.len, inP_sub I RB.len, inP_sub I RC.len, fun {v} _ => hW _ v.2, fun {v} _ => hW _ v.2, fun {v} _ => hW _ v.2⟩
theorem le9_of {t u : Tr} (ht : WF t = true) (hu : WF u = true) (h : ∀ k ∈ kinds, isW (mk k t) (mk k u) = true) : DX.Le9 t u :=
  ⟨ht, hu, fun k m => h k ((by decide : ∀ k ∈ DX.K8, k ∈ kinds) k m), h PL (by decide)⟩
/-- what is within on the nine kinds is within everywhere -/
theorem words_le (I : Inv p inv) (hW : ∀ v, Row p n v → InS p n W v) (RW : Rref p n W) (RA : Rref p n A) (RB : Rref p n B) (RC : Rref p n C) {t u : Tr} (ht : WF t = true) (hu : WF u = true) (h : ∀ k ∈ kinds, isW (mk k t) (mk k u) = true) :
    ∀ v, InS p n (valI inv p n W A B C t) v → InS p n (valI inv p n W A B C u) v := fun v i => by
  have r := i.row I.pos (valI_rref I RW RA RB RC t).len
  have T := trip_of I hW RW RA RB RC
  exact (valI_iff I RW RA RB RC u ⟨v, r⟩).mpr (DX.main (le9_of ht hu h) _ T (Nat.le_refl _) ⟨v, r⟩ ((valI_iff I RW RA RB RC t ⟨v, r⟩).mp i))
end
end RX

set_option linter.all false
/-! # the nine kinds, made of rows: on each of them within is within of marks (plain mathematics, no Python) -/
namespace RX
open KW
def kLen (k : List Nat) : Nat := if k = PL then 2 else 1
def kRows (k : List Nat) (h : Nat) : List (List Int) := if k = PL then (if h = 97 then [[1, 0]] else if h = 98 then [[0, 1]] else [[1, 1]]) else if h ∈ k then [[1]] else []
section
variable {p : Int} {inv : Int → Int} {n : Nat} {W A B C : List (List Int)}
theorem in_single (h : 0 < p) {r v : List Int} (hr : r.length = n) : InS p n [r] v ↔ ∃ f, v = addR p (List.replicate n 0) f r := by
  constructor
  · intro i
    induction i with
    | zero => exact ⟨0, by rw [addR_zero h (zero_row h) hr]⟩
    | @add v s f i hs ih =>
      obtain ⟨g, e⟩ := ih
      have : s = r := by simpa using hs
      subst this
      subst e
      exact ⟨(g + f) % p, addR_two (by simp) hr⟩
  · rintro ⟨f, rfl⟩
    exact .add f .zero (List.mem_singleton.mpr rfl)
theorem em {p x : Int} (h : 0 ≤ x ∧ x < p) : x % p = x := Int.emod_eq_of_lt h.1 h.2
/-- where a mark's line lies -/
theorem isW_anti {x y : Nat} (h : isW x y = true) (g : isW y x = true) : x = y := by
  simp only [isW, Bool.or_eq_true, beq_iff_eq] at h g
  omega
theorem line_le (I : Inv p inv) {k : List Nat} (np : k ≠ PL) (hW : ∀ v, Row p 1 v → InS p 1 W v) (RW : Rref p 1 W) (RA : Rref p 1 A) (RB : Rref p 1 B) (RC : Rref p 1 C)
    (eA : ∀ v, InS p 1 A v ↔ InS p 1 (kRows k 97) v) (eB : ∀ v, InS p 1 B v ↔ InS p 1 (kRows k 98) v) (eC : ∀ v, InS p 1 C v ↔ InS p 1 (kRows k 99) v) {t u : Tr} (ht : WF t = true) (hu : WF u = true) :
    (∀ v, InS p 1 (valI inv p 1 W A B C t) v → InS p 1 (valI inv p 1 W A B C u) v) ↔ isW (mk k t) (mk k u) = true := by
  have h2 := I.two
  have hx : Row p 1 [1] := ⟨rfl, fun y hy => by have : y = 1 := by simpa using hy
                                                omega⟩
  have T := trip_of I hW RW RA RB RC
  have nz : (⟨[1], hx⟩ : Rw p 1) ≠ (rowVS I 1).z := fun e => by have := congrArg Subtype.val e; simp [rowVS] at this
  have hand : ∀ {D : List (List Int)} {h : Nat}, (∀ v, InS p 1 D v ↔ InS p 1 (kRows k h) v) → (h ∈ k ↔ inP D (⟨[1], hx⟩ : Rw p 1)) := fun {D h} e => by
    refine Iff.trans ?_ (e [1]).symm
    unfold kRows
    rw [if_neg np]
    by_cases m : h ∈ k
    · rw [if_pos m]
      exact ⟨fun _ => .self h2 hx (by simp), fun _ => m⟩
    · rw [if_neg m, in_nil]
      exact ⟨fun z => (m z).elim, fun z => by simp at z⟩
  have L : DX.Line (rowVS I 1) (inP W) (inP A) (inP B) (inP C) ⟨[1], hx⟩ k := by
    refine ⟨hW _ hx, nz, fun {v} _ => ?_, np, hand eA, hand eB, hand eC⟩
    obtain ⟨v, hv⟩ := v
    match v, hv with
    | [y], hv =>
      refine ⟨y, Subtype.ext ?_⟩
      have := hv.2 y (by simp)
      show [y] = addR p [0] y [1]
      simp [addR, em this]
    | [], hv => exact absurd hv.1 (by simp)
    | _ :: _ :: _, hv => exact absurd hv.1 (by simp)
  have bit : ∀ {m m' : Nat}, (m = 48 ∨ m = 49) → (m' = 48 ∨ m' = 49) → ((m = 49 → m' = 49) ↔ isW m m' = true) := fun a b => by
    simp only [isW, Bool.or_eq_true, beq_iff_eq]
    omega
  refine Iff.trans ?_ (bit (DX.mk_bit np ht) (DX.mk_bit np hu))
  have e : ∀ t, WF t = true → ∀ v : Rw p 1, inP (valI inv p 1 W A B C t) v ↔ v = (rowVS I 1).z ∨ mk k t = 49 := fun t ht v =>
    (valI_iff I RW RA RB RC t v).trans (DX.line_val T L t ht v (hW _ v.2))
  constructor
  · intro h m
    exact ((e u hu ⟨[1], hx⟩).mp (h _ ((e t ht ⟨[1], hx⟩).mpr (Or.inr m)))).resolve_left nz
  · intro h v i
    have r := i.row I.pos (valI_rref I RW RA RB RC t).len
    exact (e u hu ⟨v, r⟩).mpr (((e t ht ⟨v, r⟩).mp i).imp id h)
theorem plane_le (I : Inv p inv) (hW : ∀ v, Row p 2 v → InS p 2 W v) (RW : Rref p 2 W) (RA : Rref p 2 A) (RB : Rref p 2 B) (RC : Rref p 2 C)
    (eA : ∀ v, InS p 2 A v ↔ InS p 2 [[1, 0]] v) (eB : ∀ v, InS p 2 B v ↔ InS p 2 [[0, 1]] v) (eC : ∀ v, InS p 2 C v ↔ InS p 2 [[1, 1]] v) {t u : Tr} (ht : WF t = true) (hu : WF u = true) :
    (∀ v, InS p 2 (valI inv p 2 W A B C t) v → InS p 2 (valI inv p 2 W A B C u) v) ↔ isW (mk PL t) (mk PL u) = true := by
  have h2 := I.two
  have h0 := I.pos
  have T := trip_of I hW RW RA RB RC
  have two : ∀ v : Rw p 2, ∃ y z, v.1 = [y, z] ∧ (0 ≤ y ∧ y < p) ∧ 0 ≤ z ∧ z < p := fun v => by
    obtain ⟨v, hv⟩ := v
    match v, hv with
    | [y, z], hv => exact ⟨y, z, rfl, hv.2 y (by simp), hv.2 z (by simp)⟩
    | [], hv => exact absurd hv.1 (by simp)
    | [_], hv => exact absurd hv.1 (by simp)
    | _ :: _ :: _ :: _, hv => exact absurd hv.1 (by simp)
  have row2 : ∀ {y z : Int}, (0 ≤ y ∧ y < p) → (0 ≤ z ∧ z < p) → Row p 2 [y, z] := fun {y z} a b => ⟨rfl, fun x hx => by
    rcases List.mem_cons.mp hx with e | e
    · subst e; exact a
    · have : x = z := by simpa using e
      subst this; exact b⟩
  have a1 : ∀ {y z : Int}, (0 ≤ y ∧ y < p) → (0 ≤ z ∧ z < p) → (InS p 2 A [y, z] ↔ z = 0) := fun {y z} hy hz => by
    rw [eA, in_single (n := 2) h0 rfl]
    constructor
    · rintro ⟨f, e⟩
      simp [addR, List.replicate] at e
      exact e.2
    · rintro rfl
      exact ⟨y, by simp [addR, List.replicate, em hy]⟩
  have b1 : ∀ {y z : Int}, (0 ≤ y ∧ y < p) → (0 ≤ z ∧ z < p) → (InS p 2 B [y, z] ↔ y = 0) := fun {y z} hy hz => by
    rw [eB, in_single (n := 2) h0 rfl]
    constructor
    · rintro ⟨f, e⟩
      simp [addR, List.replicate] at e
      exact e.1
    · rintro rfl
      exact ⟨z, by simp [addR, List.replicate, em hz]⟩
  have c1 : ∀ {y z : Int}, (0 ≤ y ∧ y < p) → (0 ≤ z ∧ z < p) → (InS p 2 C [y, z] ↔ y = z) := fun {y z} hy hz => by
    rw [eC, in_single (n := 2) h0 rfl]
    constructor
    · rintro ⟨f, e⟩
      simp [addR, List.replicate] at e
      exact e.1.trans e.2.symm
    · rintro rfl
      exact ⟨y, by simp [addR, List.replicate, em hy]⟩
  have z0 : (0 : Int) ≤ 0 ∧ (0 : Int) < p := ⟨Int.le_refl _, h0⟩
  have o1 : (0 : Int) ≤ 1 ∧ (1 : Int) < p := ⟨by omega, by omega⟩
  have neg : ∀ x : Int, 0 ≤ x % p ∧ x % p < p := fun x => ⟨Int.emod_nonneg _ (by omega), Int.emod_lt_of_pos _ h0⟩
  have zz : ∀ {v : Rw p 2} {y z : Int}, v.1 = [y, z] → y = 0 → z = 0 → v = (rowVS I 2).z := fun e1 e2 e3 => Subtype.ext (by rw [e1, e2, e3]; rfl)
  have P : DX.Plane (rowVS I 2) (inP W) (inP A) (inP B) (inP C) := by
    refine ⟨fun {v} a b => ?_, fun {v} a b => ?_, fun {v} a b => ?_, fun {v} _ => ?_, fun {v} _ => ?_, fun {v} _ => ?_⟩
    · obtain ⟨y, z, e, hy, hz⟩ := two v
      have a : InS p 2 A v.1 := a
      have b : InS p 2 B v.1 := b
      rw [e] at a b
      exact zz e ((b1 hy hz).mp b) ((a1 hy hz).mp a)
    · obtain ⟨y, z, e, hy, hz⟩ := two v
      have a : InS p 2 A v.1 := a
      have b : InS p 2 C v.1 := b
      rw [e] at a b
      have := (a1 hy hz).mp a
      exact zz e (((c1 hy hz).mp b).trans this) this
    · obtain ⟨y, z, e, hy, hz⟩ := two v
      have a : InS p 2 B v.1 := a
      have b : InS p 2 C v.1 := b
      rw [e] at a b
      have := (b1 hy hz).mp a
      exact zz e this (((c1 hy hz).mp b).symm.trans this)
    · obtain ⟨y, z, e, hy, hz⟩ := two v
      refine ⟨⟨[y, 0], row2 hy z0⟩, ⟨[0, z], row2 z0 hz⟩, (a1 hy z0).mpr rfl, (b1 z0 hz).mpr rfl, Subtype.ext (e.trans ?_)⟩
      show _ = addR p [y, 0] 1 [0, z]
      simp [addR, em hy, em hz]
    · obtain ⟨y, z, e, hy, hz⟩ := two v
      refine ⟨⟨[(y - z) % p, 0], row2 (neg _) z0⟩, ⟨[z, z], row2 hz hz⟩, (a1 (neg _) z0).mpr rfl, (c1 hz hz).mpr rfl, Subtype.ext (e.trans ?_)⟩
      show _ = addR p [(y - z) % p, 0] 1 [z, z]
      simp only [addR, List.zipWith_cons_cons, List.zipWith_nil_left, Int.one_mul, Int.zero_add, em hz]
      rw [emod_l, show y - z + z = y by omega, em hy]
    · obtain ⟨y, z, e, hy, hz⟩ := two v
      refine ⟨⟨[0, (z - y) % p], row2 z0 (neg _)⟩, ⟨[y, y], row2 hy hy⟩, (b1 z0 (neg _)).mpr rfl, (c1 hy hy).mpr rfl, Subtype.ext (e.trans ?_)⟩
      show _ = addR p [0, (z - y) % p] 1 [y, y]
      simp only [addR, List.zipWith_cons_cons, List.zipWith_nil_left, Int.one_mul, Int.zero_add, em hy]
      rw [emod_l, show z - y + y = z by omega, em hz]
  have e : ∀ t, WF t = true → ∀ v : Rw p 2, inP (valI inv p 2 W A B C t) v ↔ DX.lineOf (rowVS I 2) (inP W) (inP A) (inP B) (inP C) (mk PL t) v := fun t ht v =>
    (valI_iff I RW RA RB RC t v).trans (DX.plane_val T P t ht v)
  constructor
  · intro h
    have h' : ∀ v : Rw p 2, DX.lineOf (rowVS I 2) (inP W) (inP A) (inP B) (inP C) (mk PL t) v → DX.lineOf (rowVS I 2) (inP W) (inP A) (inP B) (inP C) (mk PL u) v := fun v hv => (e u hu v).mp (h _ ((e t ht v).mpr hv))
    have k10 := row2 o1 z0
    have k01 := row2 z0 o1
    have k11 := row2 o1 o1
    have n10 : (⟨[1, 0], k10⟩ : Rw p 2) ≠ (rowVS I 2).z := fun e => by have := congrArg Subtype.val e; simp [rowVS] at this
    have n01 : (⟨[0, 1], k01⟩ : Rw p 2) ≠ (rowVS I 2).z := fun e => by have := congrArg Subtype.val e; simp [rowVS] at this
    have n11 : (⟨[1, 1], k11⟩ : Rw p 2) ≠ (rowVS I 2).z := fun e => by have := congrArg Subtype.val e; simp [rowVS] at this
    have ya : inP A (⟨[1, 0], k10⟩ : Rw p 2) := (a1 o1 z0).mpr rfl
    have yb : inP B (⟨[0, 1], k01⟩ : Rw p 2) := (b1 z0 o1).mpr rfl
    have yc : inP C (⟨[1, 1], k11⟩ : Rw p 2) := (c1 o1 o1).mpr rfl
    have na1 : ¬inP A (⟨[0, 1], k01⟩ : Rw p 2) := fun z => absurd ((a1 z0 o1).mp z) (by decide)
    have na2 : ¬inP A (⟨[1, 1], k11⟩ : Rw p 2) := fun z => absurd ((a1 o1 o1).mp z) (by decide)
    have nb1 : ¬inP B (⟨[1, 0], k10⟩ : Rw p 2) := fun z => absurd ((b1 o1 z0).mp z) (by decide)
    have nb2 : ¬inP B (⟨[1, 1], k11⟩ : Rw p 2) := fun z => absurd ((b1 o1 o1).mp z) (by decide)
    have nc1 : ¬inP C (⟨[1, 0], k10⟩ : Rw p 2) := fun z => absurd ((c1 o1 z0).mp z) (by decide)
    have nc2 : ¬inP C (⟨[0, 1], k01⟩ : Rw p 2) := fun z => absurd ((c1 z0 o1).mp z) (by decide)
    have w1 := hW _ k10
    have w2 := hW _ k01
    have w3 := hW _ k11
    have q1 := h' ⟨[1, 0], k10⟩
    have q2 := h' ⟨[0, 1], k01⟩
    have q3 := h' ⟨[1, 1], k11⟩
    have w1' : inP W (⟨[1, 0], k10⟩ : Rw p 2) := w1
    have w2' : inP W (⟨[0, 1], k01⟩ : Rw p 2) := w2
    have w3' : inP W (⟨[1, 1], k11⟩ : Rw p 2) := w3
    rcases five_cases (mk_five (k := PL) ht) with et | et | et | et | et <;> rcases five_cases (mk_five (k := PL) hu) with eu | eu | eu | eu | eu <;>
      rw [et, eu] at q1 q2 q3 <;> rw [et, eu] <;> first
      | decide
      | (exfalso; simp only [DX.lineOf] at q1 q2 q3; simp_all)
  · intro h v i
    have r := i.row I.pos (valI_rref I RW RA RB RC t).len
    exact (e u hu ⟨v, r⟩).mpr (DX.line_mono T (mk_five hu) h ((e t ht ⟨v, r⟩).mp i))
/-- on the triple of a kind, within is within of its marks -/
theorem kind_le (I : Inv p inv) {k : List Nat} (hk : k ∈ kinds) (hW : ∀ v, Row p (kLen k) v → InS p (kLen k) W v) (RW : Rref p (kLen k) W) (RA : Rref p (kLen k) A) (RB : Rref p (kLen k) B) (RC : Rref p (kLen k) C)
    (eA : ∀ v, InS p (kLen k) A v ↔ InS p (kLen k) (kRows k 97) v) (eB : ∀ v, InS p (kLen k) B v ↔ InS p (kLen k) (kRows k 98) v) (eC : ∀ v, InS p (kLen k) C v ↔ InS p (kLen k) (kRows k 99) v) {t u : Tr} (ht : WF t = true) (hu : WF u = true) :
    (∀ v, InS p (kLen k) (valI inv p (kLen k) W A B C t) v → InS p (kLen k) (valI inv p (kLen k) W A B C u) v) ↔ isW (mk k t) (mk k u) = true := by
  by_cases np : k = PL
  · subst np
    exact plane_le I hW RW RA RB RC eA eB eC ht hu
  · have e1 : kLen k = 1 := if_neg np
    rw [e1] at hW RW RA RB RC eA eB eC ⊢
    exact line_le I np hW RW RA RB RC eA eB eC ht hu
end
end RX

set_option Elab.async false
set_option linter.all false
set_option maxRecDepth 100000
set_option maxHeartbeats 4000000
/-! # built, exactly -/
namespace KV
open PySem PySem.Spec PyProof.Rows L2 VX RX
section
variable {P : Program} {w : World} {K : PySem.W.Frag} {mg : Str → Option Value} {base : Heap} {f : Addr} {fd : FuncData}
open RX
/-- rows as lists, none of them in B -/
inductive RowsN (H : Hp) (B : List Addr) : List Addr → List (List Int) → Prop
  | nil : RowsN H B [] []
  | cons {a : Addr} {r : List Int} {as : List Addr} {rs : List (List Int)} : H a = some (.lst (r.map V.int)) → a ∉ B → RowsN H B as rs → RowsN H B (a :: as) (r :: rs)
theorem RowsN.same {H H' : Hp} {B : List Addr} (s : Same H H') : ∀ {as : List Addr} {rs : List (List Int)}, RowsN H B as rs → RowsN H' B as rs
  | _, _, .nil => .nil
  | _, _, .cons h1 h2 t => .cons (s _ _ h1) h2 (RowsN.same s t)
theorem RowsN.upd {H : Hp} {B : List Addr} {x : Addr} {o : HO} (hx : x ∈ B) : ∀ {as : List Addr} {rs : List (List Int)}, RowsN H B as rs → RowsN (upd H x o) B as rs
  | _, _, .nil => .nil
  | _, _, .cons (a := a) h1 h2 t => .cons (by rw [upd_ne (show a ≠ x from fun e => h2 (e ▸ hx))]; exact h1) h2 (RowsN.upd hx t)
theorem RowsN.snoc {H : Hp} {B : List Addr} {y : Addr} {r : List Int} (hy : H y = some (.lst (r.map V.int))) (ny : y ∉ B) : ∀ {as : List Addr} {rs : List (List Int)}, RowsN H B as rs → RowsN H B (as ++ [y]) (rs ++ [r])
  | _, _, .nil => .cons hy ny .nil
  | _, _, .cons h1 h2 t => .cons h1 h2 (RowsN.snoc hy ny t)
theorem RowsN.ints {H : Hp} {B : List Addr} : ∀ {as : List Addr} {rs : List (List Int)}, RowsN H B as rs → AreInts H as rs
  | _, _, .nil => .nil
  | _, _, .cons h1 _ t => .cons (.inl h1) (RowsN.ints t)
theorem RowsN.length {H : Hp} {B : List Addr} : ∀ {as : List Addr} {rs : List (List Int)}, RowsN H B as rs → as.length = rs.length
  | _, _, .nil => rfl
  | _, _, .cons _ _ t => congrArg (· + 1) t.length
structure Hx (H : Hp) (l : Addr) (hs : List Addr) (R : Nat → List (List Int)) : Prop where
  ls : H l = some (.lst (hs.map V.ref))
  three : hs.length = 3
  nd : hs.Nodup
  lh : l ∉ hs
  rows : ∀ t x, hs[t]? = some x → ∃ as : List Addr, H x = some (.lst (as.map V.ref)) ∧ RowsN H (l :: hs) as (R t)
theorem Hx.same {H H' : Hp} {l : Addr} {hs : List Addr} {R : Nat → List (List Int)} (h : Hx H l hs R) (s : Same H H') : Hx H' l hs R :=
  ⟨s _ _ h.ls, h.three, h.nd, h.lh, fun t x e => let ⟨as, h1, h2⟩ := h.rows t x e; ⟨as, s _ _ h1, h2.same s⟩⟩
theorem nodup_idx {α : Type} {l : List α} (h : l.Nodup) {i j : Nat} {x : α} (hi : l[i]? = some x) (hj : l[j]? = some x) : i = j := by
  obtain ⟨h1, e1⟩ := List.getElem?_eq_some_iff.mp hi
  obtain ⟨h2, e2⟩ := List.getElem?_eq_some_iff.mp hj
  have k := List.pairwise_iff_getElem.mp h
  rcases Nat.lt_trichotomy i j with g | g | g
  · exact absurd (e1.trans e2.symm) (k i j h1 h2 g)
  · exact g
  · exact absurd (e2.trans e1.symm) (k j i h2 h1 g)
theorem Hx.app {H : Hp} {l : Addr} {hs : List Addr} {R : Nat → List (List Int)} (h : Hx H l hs R) {t : Nat} {x y : Addr} {as : List Addr} {r : List Int} (hx : hs[t]? = some x) (e : H x = some (.lst (as.map V.ref))) (ha : RowsN H (l :: hs) as (R t)) (hy : H y = some (.lst (r.map V.int))) (ny : y ∉ l :: hs) :
    Hx (upd H x (.lst (as.map V.ref ++ [V.ref y]))) l hs (fun s => if s = t then R t ++ [r] else R s) := by
  have mx : x ∈ hs := List.mem_of_getElem? hx
  refine ⟨by rw [upd_ne (show l ≠ x from fun z => h.lh (by rw [z]; exact mx))]; exact h.ls, h.three, h.nd, h.lh, fun s z hz => ?_⟩
  by_cases es : s = t
  · subst es
    rw [hx] at hz
    obtain rfl := Option.some.inj hz
    refine ⟨as ++ [y], by rw [upd_same, List.map_append]; rfl, ?_⟩
    rw [if_pos rfl]
    refine RowsN.snoc ?_ ny (ha.upd (.tail _ mx))
    rw [upd_ne (show y ≠ x from fun z => ny (by rw [z]; exact .tail _ mx))]
    exact hy
  · obtain ⟨as', h1, h2⟩ := h.rows s z hz
    have nz : z ≠ x := fun q => es (nodup_idx h.nd hz (by rw [q]; exact hx))
    refine ⟨as', by rw [upd_ne nz]; exact h1, ?_⟩
    rw [if_neg es]
    exact h2.upd (.tail _ mx)
theorem Hx.fresh {H : Hp} {l D : Addr} {hs : List Addr} {R : Nat → List (List Int)} (h : Hx H l hs R) (hD : H D = none) : D ∉ l :: hs := fun m => by
  rcases List.mem_cons.mp m with e | m
  · rw [e, h.ls] at hD
    cases hD
  · obtain ⟨t, ht⟩ := List.mem_iff_getElem?.mp m
    obtain ⟨as, h1, _⟩ := h.rows t D ht
    rw [h1] at hD
    cases hD
end
end KV

set_option Elab.async false
set_option linter.all false
set_option maxRecDepth 100000
set_option maxHeartbeats 4000000
/-! # the sets of a kind -/
namespace KV
open PySem PySem.Spec PyProof.Rows L2 VX RX
section
variable {P : Program} {w : World} {K : PySem.W.Frag} {mg : Str → Option Value} {base : Heap} {f : Addr} {fd : FuncData}
theorem kS_ne {i j : Nat} {k k' : List Nat} (h : KW.kinds[i]? = some k) (h' : KW.kinds[j]? = some k') (ne : i ≠ j) : KX.kS k ≠ KX.kS k' := fun e => by
  have : k = k' := by have := congrArg (fun s : Str => s.cps.toList) e; simpa [KX.kS] using this
  subst this
  exact ne (nodup_idx (by decide) h h')
theorem kinds_strs : KW.kinds.map (fun k => V.str (KX.kS k)) = [V.str "", .str "a", .str "b", .str "c", .str "ab", .str "ac", .str "bc", .str "abc", .str "plane"] := by decide +kernel
end
end KV

set_option Elab.async false
set_option linter.all false
set_option maxRecDepth 100000
set_option maxHeartbeats 4000000
/-! # values on kinds, values everywhere -/
namespace KV
open PySem PySem.Spec PyProof.Rows L2 VX RX
section
variable {P : Program} {w : World} {K : PySem.W.Frag} {mg : Str → Option Value} {base : Heap} {f : Addr} {fd : FuncData}
theorem at0_unit {n i j : Nat} (hj : j < n) : at0 (unitR n i) j = if j = i then 1 else 0 := by
  rw [at0_of (by simp [unitR]; omega)]
  simp [unitR]
theorem units_all {p : Int} (hp : isP p = true) {n : Nat} {v : List Int} (hv : Row p n v) : InS p n (wholeB p n) v := by
  have I := invF_ok hp
  have h0 := I.pos
  have rows : ∀ r ∈ (unitL n).map (modR p), Row p n r := modR_rows h0 unitL_len
  refine (reduced_span I rows v).mpr ?_
  have step : ∀ j, j ≤ n → InS p n ((unitL n).map (modR p)) ((v.take j) ++ List.replicate (n - j) 0) := by
    intro j
    induction j with
    | zero => intro _; simpa using InS.zero
    | succ j ih =>
      intro hj
      have hl := hv.1
      have m : modR p (unitR n j) ∈ (unitL n).map (modR p) := List.mem_map_of_mem (List.mem_map_of_mem (List.mem_range.mpr (by omega)))
      have lm : (modR p (unitR n j)).length = n := by rw [modR_len]; simp [unitR]
      have lj : (v.take j ++ List.replicate (n - j) (0 : Int)).length = n := by simp [hl]; omega
      have e : v.take (j + 1) ++ List.replicate (n - (j + 1)) (0 : Int) = addR p (v.take j ++ List.replicate (n - j) 0) (at0 v j) (modR p (unitR n j)) := by
        refine ext0 (by rw [addR_len lj lm]; simp [hl]; omega) fun i hi => ?_
        have hi' : i < n := by simp [hl] at hi; omega
        have em : at0 (modR p (unitR n j)) i = if i = j then 1 else 0 := by
          have hu : i < (unitR n j).length := by simp [unitR]; omega
          rw [at0_of (by rw [lm]; exact hi')]
          have : (modR p (unitR n j))[i]'(by rw [lm]; exact hi') = (unitR n j)[i] % p := by simp [modR]
          rw [this, ← at0_of hu, at0_unit hi']
          have h2 := I.two
          split
          · exact Int.emod_eq_of_lt (by omega) (by omega)
          · simp
        have bv := hv.emod h0 i
        rw [at0_addR (by rw [lj, lm]), em]
        rcases Nat.lt_trichotomy i j with g | g | g
        · rw [if_neg (by omega), at0_app_l (by simp [hl]; omega), at0_app_l (by simp [hl]; omega), Int.mul_zero, Int.add_zero]
          rw [show at0 (v.take (j + 1)) i = at0 v i by simp [at0, List.getD, List.getElem?_take, g, show i < j + 1 by omega], show at0 (v.take j) i = at0 v i by simp [at0, List.getD, List.getElem?_take, g], bv]
        · subst g
          rw [if_pos rfl, at0_app_l (by simp [hl]; omega)]
          have h1 := at0_app_r (r := v.take i) (s := List.replicate (n - i) (0 : Int)) 0
          rw [show (v.take i).length + 0 = i by simp [hl]; omega] at h1
          rw [h1, at0_rep, Int.zero_add, Int.mul_one, bv]
          simp [at0, List.getD, List.getElem?_take]
        · rw [if_neg (by omega), Int.mul_zero, Int.add_zero]
          have h1 := at0_app_r (r := v.take (j + 1)) (s := List.replicate (n - (j + 1)) (0 : Int)) (i - (j + 1))
          rw [show (v.take (j + 1)).length + (i - (j + 1)) = i by simp [hl]; omega] at h1
          have h2 := at0_app_r (r := v.take j) (s := List.replicate (n - j) (0 : Int)) (i - j)
          rw [show (v.take j).length + (i - j) = i by simp [hl]; omega] at h2
          rw [h1, h2, at0_rep, at0_rep]
          simp
      rw [e]
      exact .add _ (ih (by omega)) m
  have := step n (Nat.le_refl _)
  rw [Nat.sub_self, List.replicate_zero, List.append_nil, List.take_of_length_le (Nat.le_of_eq hv.1)] at this
  exact this
theorem wholeB_rref {p : Int} (hp : isP p = true) {n : Nat} : Rref p n (wholeB p n) := reduced_ok (invF_ok hp) (modR_rows (invF_ok hp).pos unitL_len)
theorem valB_I {p : Int} {n : Nat} {A B C : List (List Int)} : ∀ t : KW.Tr, valB p n A B C t = valI (invF p) p n (wholeB p n) A B C t
  | .lf c => rfl
  | .nd c l r => by
    unfold valB valI
    rw [valB_I l, valB_I r]
end
end KV

set_option linter.all false
/-! # what holds on the kinds on which some facts hold, holds in every triple where these facts hold (plain mathematics, no Python) -/
namespace DX
open KW
variable {M : Type} {S : VS M} {V A B C : M → Prop}
/-- some facts hold -/
def Near (S : VS M) (F : List (Tr × Tr)) (V A B C : M → Prop) : Prop := ∀ q ∈ F, ∀ v, valP S V A B C q.1 v → valP S V A B C q.2 v
/-- within on all kinds where the facts hold -/
structure LeF (F : List (Tr × Tr)) (t u : Tr) : Prop where
  ht : WF t = true
  hu : WF u = true
  hF : ∀ q ∈ F, WF q.1 = true ∧ WF q.2 = true
  l : ∀ k ∈ K8, (∀ q ∈ F, isW (mk k q.1) (mk k q.2) = true) → isW (mk k t) (mk k u) = true
  p : (∀ q ∈ F, isW (mk PL q.1) (mk PL q.2) = true) → isW (mk PL t) (mk PL u) = true
variable {F : List (Tr × Tr)} {r : M → M}
theorem near_fix (K : Cut S V A B C r) (T : Trip S V A B C) (N : Near S F V A B C) : Near S F (fixd r V) (fixd r A) (fixd r B) (fixd r C) := fun q hq v hv => by
  have e : r v = v := (val_in (K.fix T) q.1 hv).2
  have z : lft S r v = S.z := by unfold lft; rw [e]; exact S.self v
  have h := N q hq v ((split K T q.1 v).mpr ⟨by rw [e]; exact hv, by rw [z]; exact (val_sub (K.kill T) q.1).z⟩)
  have := ((split K T q.2 v).mp h).1
  rwa [e] at this
theorem near_kill (K : Cut S V A B C r) (T : Trip S V A B C) (N : Near S F V A B C) : Near S F (kill S r V) (kill S r A) (kill S r B) (kill S r C) := fun q hq v hv => by
  have e : r v = S.z := (val_in (K.kill T) q.1 hv).2
  have z : lft S r v = v := by unfold lft; rw [e]; exact S.zer v _
  have h := N q hq v ((split K T q.1 v).mpr ⟨by rw [e]; exact (val_sub (K.fix T) q.1).z, by rw [z]; exact hv⟩)
  have := ((split K T q.2 v).mp h).2
  rwa [z] at this
theorem near_line {X : M → Prop} {x : M} {k : List Nat} (T : Trip S X A B C) (L : Line S X A B C x k) {s t : Tr} (hs : WF s = true) (ht : WF t = true) (h : ∀ v, valP S X A B C s v → valP S X A B C t v) : isW (mk k s) (mk k t) = true := by
  have a := mk_bit L.np hs
  have b := mk_bit L.np ht
  have c : mk k s = 49 → mk k t = 49 := fun e => ((line_val T L t ht x L.mem).mp (h x ((line_val T L s hs x L.mem).mpr (.inr e)))).resolve_left L.nz
  simp only [isW, Bool.or_eq_true, beq_iff_eq]
  omega
theorem near_plane {X : M → Prop} (T : Trip S X A B C) (P : Plane S X A B C) {w : M} (hw : X w) (nw : w ≠ S.z) {s t : Tr} (hs : WF s = true) (ht : WF t = true) (h : ∀ v, valP S X A B C s v → valP S X A B C t v) : isW (mk PL s) (mk PL t) = true := by
  have h' : ∀ v, lineOf S X A B C (mk PL s) v → lineOf S X A B C (mk PL t) v := fun v i => (plane_val T P t ht v).mp (h v ((plane_val T P s hs v).mpr i))
  have za : ¬∀ v, A v → v = S.z := fun z => nw (by
    obtain ⟨a1, b1, x1, y1, e1⟩ := P.sab hw
    obtain ⟨a2, c2, x2, y2, e2⟩ := P.sac hw
    rw [z a1 x1, S.one] at e1
    rw [z a2 x2, S.one] at e2
    exact P.bc (e1 ▸ y1) (e2 ▸ y2))
  have zb : ¬∀ v, B v → v = S.z := fun z => nw (by
    obtain ⟨a1, b1, x1, y1, e1⟩ := P.sab hw
    obtain ⟨a2, c2, x2, y2, e2⟩ := P.sbc hw
    rw [z b1 y1, S.zer] at e1
    rw [z a2 x2, S.one] at e2
    exact P.ac (e1 ▸ x1) (e2 ▸ y2))
  have zc : ¬∀ v, C v → v = S.z := fun z => nw (by
    obtain ⟨a1, b1, x1, y1, e1⟩ := P.sac hw
    obtain ⟨a2, c2, x2, y2, e2⟩ := P.sbc hw
    rw [z b1 y1, S.zer] at e1
    rw [z c2 y2, S.zer] at e2
    exact P.ab (e1 ▸ x1) (e2 ▸ x2))
  have zX : ¬∀ v, X v → v = S.z := fun z => nw (z w hw)
  have ab : ¬∀ v, A v → B v := fun z => za fun v i => P.ab i (z v i)
  have ac : ¬∀ v, A v → C v := fun z => za fun v i => P.ac i (z v i)
  have ba : ¬∀ v, B v → A v := fun z => zb fun v i => P.ab (z v i) i
  have bc : ¬∀ v, B v → C v := fun z => zb fun v i => P.bc i (z v i)
  have ca : ¬∀ v, C v → A v := fun z => zc fun v i => P.ac (z v i) i
  have cb : ¬∀ v, C v → B v := fun z => zc fun v i => P.bc (z v i) i
  have Xa : ¬∀ v, X v → A v := fun z => ba fun v i => z v (T.bv i)
  have Xb : ¬∀ v, X v → B v := fun z => ab fun v i => z v (T.av i)
  have Xc : ¬∀ v, X v → C v := fun z => ac fun v i => z v (T.av i)
  rcases five_cases (mk_five (k := PL) hs) with es | es | es | es | es <;> rcases five_cases (mk_five (k := PL) ht) with et | et | et | et | et <;>
    rw [es, et] at h' <;> rw [es, et] <;> first
    | decide
    | (exfalso; first | exact za h' | exact zb h' | exact zc h' | exact zX h' | exact ab h' | exact ac h' | exact ba h' | exact bc h' | exact ca h' | exact cb h' | exact Xa h' | exact Xb h' | exact Xc h')
theorem stepF {f : M → Int} {x : M} (T : Trip S V A B C) (L : Lin S f) (hx : V x) (f1 : f x = 1) (ha : A x ∨ ∀ v, A v → f v = 0) (hb : B x ∨ ∀ v, B v → f v = 0) (hc : C x ∨ ∀ v, C v → f v = 0)
    {t u : Tr} (h9 : LeF F t u) (N : Near S F V A B C) (ih : ∀ {V' A' B' C' : M → Prop}, Trip S V' A' B' C' → Near S F V' A' B' C' → cnt S V' < cnt S V → ∀ v, valP S V' A' B' C' t v → valP S V' A' B' C' u v) (v : M) (hv : valP S V A B C t v) : valP S V A B C u v := by
  have K := off_cut T L hx f1 ha hb hc
  have rx : off S f x x = S.z := by unfold off; rw [f1]; exact S.self x
  have nz : x ≠ S.z := fun e => by rw [e, L.z] at f1; cases f1
  obtain ⟨k, hk, ka, kb, kc⟩ := pick8 (kill S (off S f x) A x) (kill S (off S f x) B x) (kill S (off S f x) C x)
  have LN : Line S (kill S (off S f x) V) (kill S (off S f x) A) (kill S (off S f x) B) (kill S (off S f x) C) x k :=
    ⟨⟨hx, rx⟩, nz, fun {v} h => ⟨f v, by
      have e : S.c (off S f x v) (f v) x = v := S.back'
      rw [h.2] at e
      exact e.symm⟩, K8_np k hk, ka, kb, kc⟩
  have s := (split K T t v).mp hv
  refine (split K T u v).mpr ⟨ih (K.fix T) (near_fix K T N) ?_ _ s.1, ?_⟩
  · exact cnt_lt (fun v h => h.1) hx fun h => nz (h.2.symm.trans rx)
  · have hX := val_in (K.kill T) t s.2
    refine (line_val (K.kill T) LN u h9.hu _ hX).mpr ?_
    exact ((line_val (K.kill T) LN t h9.ht _ hX).mp s.2).imp id (le49 (h9.l k hk fun q hq => near_line (K.kill T) LN (h9.hF q hq).1 (h9.hF q hq).2 (near_kill K T N q hq)))
/-- what holds on the kinds of the facts holds where the facts hold -/
theorem mainF {t u : Tr} (h9 : LeF F t u) : ∀ (N : Nat) {V A B C : M → Prop}, Trip S V A B C → Near S F V A B C → cnt S V ≤ N → ∀ v, valP S V A B C t v → valP S V A B C u v := by
  intro N
  induction N with
  | zero =>
    intro V A B C T NF hN v hv
    have := cnt_lt (S := S) (A := fun _ => False) (B := V) (fun _ h => h.elim) T.v.z id
    omega
  | succ N ih =>
    intro V A B C T NF hN v hv
    have ih' : ∀ {V' A' B' C' : M → Prop}, Trip S V' A' B' C' → Near S F V' A' B' C' → cnt S V' < cnt S V → ∀ v, valP S V' A' B' C' t v → valP S V' A' B' C' u v := fun T' NF' lt => ih T' NF' (by omega)
    have go : ∀ {U : M → Prop} {x : M}, Sub S U → V x → ¬U x → (A x ∨ ∀ v, A v → U v) → (B x ∨ ∀ v, B v → U v) → (C x ∨ ∀ v, C v → U v) → valP S V A B C u v := fun {U x} hU hx nx a b c => by
      obtain ⟨f, L, f0, f1⟩ := form hU nx
      exact stepF T L hx f1 (a.imp id fun h v d => f0 v (h v d)) (b.imp id fun h v d => f0 v (h v d)) (c.imp id fun h v d => f0 v (h v d)) h9 NF ih' v hv
    have sAB := sum_sub T.a T.b
    have sAC := sum_sub T.a T.c
    have sBC := sum_sub T.b T.c
    by_cases c1 : ∃ x, V x ∧ ¬sumP S (sumP S A B) C x
    · obtain ⟨x, hx, nx⟩ := c1
      exact go (sum_sub sAB T.c) hx nx (.inr fun v d => in_l T.c (in_l T.b d)) (.inr fun v d => in_l T.c (in_r T.a d)) (.inr fun v d => in_r sAB d)
    by_cases c2 : ∃ x, A x ∧ ¬sumP S B C x
    · obtain ⟨x, hx, nx⟩ := c2
      exact go sBC (T.av hx) nx (.inl hx) (.inr fun v d => in_l T.c d) (.inr fun v d => in_r T.b d)
    by_cases c3 : ∃ x, B x ∧ ¬sumP S A C x
    · obtain ⟨x, hx, nx⟩ := c3
      exact go sAC (T.bv hx) nx (.inr fun v d => in_l T.c d) (.inl hx) (.inr fun v d => in_r T.a d)
    by_cases c4 : ∃ x, C x ∧ ¬sumP S A B x
    · obtain ⟨x, hx, nx⟩ := c4
      exact go sAB (T.cv hx) nx (.inr fun v d => in_l T.b d) (.inr fun v d => in_r T.a d) (.inl hx)
    by_cases c5 : ∃ x, (A x ∧ B x) ∧ ¬C x
    · obtain ⟨x, ⟨hx, hy⟩, nx⟩ := c5
      exact go T.c (T.av hx) nx (.inl hx) (.inl hy) (.inr fun v d => d)
    by_cases c6 : ∃ x, (A x ∧ C x) ∧ ¬B x
    · obtain ⟨x, ⟨hx, hy⟩, nx⟩ := c6
      exact go T.b (T.av hx) nx (.inl hx) (.inr fun v d => d) (.inl hy)
    by_cases c7 : ∃ x, (B x ∧ C x) ∧ ¬A x
    · obtain ⟨x, ⟨hx, hy⟩, nx⟩ := c7
      exact go T.a (T.bv hx) nx (.inr fun v d => d) (.inl hx) (.inl hy)
    by_cases c8 : ∃ x, (A x ∧ B x ∧ C x) ∧ ¬x = S.z
    · obtain ⟨x, ⟨hx, hy, hz⟩, nx⟩ := c8
      exact go zero_sub (T.av hx) nx (.inl hx) (.inl hy) (.inl hz)
    have d1 : ∀ x, V x → sumP S (sumP S A B) C x := fun x h => Classical.byContradiction fun n => c1 ⟨x, h, n⟩
    have d2 : ∀ x, A x → sumP S B C x := fun x h => Classical.byContradiction fun n => c2 ⟨x, h, n⟩
    have d3 : ∀ x, B x → sumP S A C x := fun x h => Classical.byContradiction fun n => c3 ⟨x, h, n⟩
    have d4 : ∀ x, C x → sumP S A B x := fun x h => Classical.byContradiction fun n => c4 ⟨x, h, n⟩
    have d5 : ∀ x, A x → B x → C x := fun x h h' => Classical.byContradiction fun n => c5 ⟨x, ⟨h, h'⟩, n⟩
    have d6 : ∀ x, A x → C x → B x := fun x h h' => Classical.byContradiction fun n => c6 ⟨x, ⟨h, h'⟩, n⟩
    have d7 : ∀ x, B x → C x → A x := fun x h h' => Classical.byContradiction fun n => c7 ⟨x, ⟨h, h'⟩, n⟩
    have d8 : ∀ x, A x → B x → C x → x = S.z := fun x h h' h'' => Classical.byContradiction fun n => c8 ⟨x, ⟨h, h', h''⟩, n⟩
    have P : Plane S V A B C := by
      refine ⟨fun a b => d8 _ a b (d5 _ a b), fun a c => d8 _ a (d6 _ a c) c, fun b c => d8 _ (d7 _ b c) b c, fun {v} h => ?_, fun {v} h => ?_, fun {v} h => ?_⟩
      · obtain ⟨s, c, ⟨a, b, ha, hb, rfl⟩, hc, rfl⟩ := d1 v h
        exact sAB.c ⟨a, b, ha, hb, rfl⟩ (d4 c hc)
      · obtain ⟨s, c, ⟨a, b, ha, hb, rfl⟩, hc, rfl⟩ := d1 v h
        exact sAC.c (sAC.c (in_l T.c ha) (d3 b hb)) (in_r T.a hc)
      · obtain ⟨s, c, ⟨a, b, ha, hb, rfl⟩, hc, rfl⟩ := d1 v h
        exact sBC.c (sBC.c (d2 a ha) (in_l T.c hb)) (in_r T.b hc)
    by_cases zv : v = S.z
    · rw [zv]
      exact (val_sub T u).z
    · have hV := val_in T t hv
      refine (plane_val T P u h9.hu v).mpr ?_
      exact line_mono T (mk_five h9.hu) (h9.p fun q hq => near_plane T P hV zv (h9.hF q hq).1 (h9.hF q hq).2 (NF q hq)) ((plane_val T P t h9.ht v).mp hv)
/-- within on a triple cut in two: within on both -/
theorem cut_iff (K : Cut S V A B C r) (T : Trip S V A B C) {s t : Tr} : (∀ v, valP S V A B C s v → valP S V A B C t v) ↔
    (∀ v, valP S (fixd r V) (fixd r A) (fixd r B) (fixd r C) s v → valP S (fixd r V) (fixd r A) (fixd r B) (fixd r C) t v) ∧ ∀ v, valP S (kill S r V) (kill S r A) (kill S r B) (kill S r C) s v → valP S (kill S r V) (kill S r A) (kill S r B) (kill S r C) t v := by
  constructor
  · intro h
    have N : Near S [(s, t)] V A B C := fun q hq => by
      obtain rfl := List.mem_singleton.mp hq
      exact h
    exact ⟨near_fix K T N (s, t) (List.mem_singleton.mpr rfl), near_kill K T N (s, t) (List.mem_singleton.mpr rfl)⟩
  · intro h v hv
    have k := (split K T s v).mp hv
    exact (split K T t v).mpr ⟨h.1 _ k.1, h.2 _ k.2⟩
theorem line_iff {X : M → Prop} {x : M} {k : List Nat} (T : Trip S X A B C) (L : Line S X A B C x k) {s t : Tr} (hs : WF s = true) (ht : WF t = true) : (∀ v, valP S X A B C s v → valP S X A B C t v) ↔ isW (mk k s) (mk k t) = true :=
  ⟨near_line T L hs ht, fun h v hv => by
    have hX := val_in T s hv
    exact (line_val T L t ht v hX).mpr (((line_val T L s hs v hX).mp hv).imp id (le49 h))⟩
theorem plane_iff {X : M → Prop} (T : Trip S X A B C) (P : Plane S X A B C) {w : M} (hw : X w) (nw : w ≠ S.z) {s t : Tr} (hs : WF s = true) (ht : WF t = true) : (∀ v, valP S X A B C s v → valP S X A B C t v) ↔ isW (mk PL s) (mk PL t) = true :=
  ⟨near_plane T P hw nw hs ht, fun h v hv => (plane_val T P t ht v).mpr (line_mono T (mk_five ht) h ((plane_val T P s hs v).mp hv))⟩
end DX
namespace RX
open KW
theorem words_leF {p : Int} {inv : Int → Int} {n : Nat} {W A B C : List (List Int)} {F : List (Tr × Tr)} (I : Inv p inv) (hW : ∀ v, Row p n v → InS p n W v) (RW : Rref p n W) (RA : Rref p n A) (RB : Rref p n B) (RC : Rref p n C) {t u : Tr} (h : DX.LeF F t u)
    (near : ∀ q ∈ F, ∀ v, InS p n (valI inv p n W A B C q.1) v → InS p n (valI inv p n W A B C q.2) v) : ∀ v, InS p n (valI inv p n W A B C t) v → InS p n (valI inv p n W A B C u) v := fun v i => by
  have r := i.row I.pos (valI_rref I RW RA RB RC t).len
  have T := trip_of I hW RW RA RB RC
  have N : DX.Near (rowVS I n) F (inP W) (inP A) (inP B) (inP C) := fun q hq w hw => (valI_iff I RW RA RB RC q.2 w).mp (near q hq w.1 ((valI_iff I RW RA RB RC q.1 w).mpr hw))
  exact (valI_iff I RW RA RB RC u ⟨v, r⟩).mpr (DX.mainF h _ T N (Nat.le_refl _) ⟨v, r⟩ ((valI_iff I RW RA RB RC t ⟨v, r⟩).mp i))
end RX

set_option linter.all false
/-! # a triple made of kinds, one after the other: within there is within on each of them (plain mathematics, no Python) -/
namespace RX
open KW
variable {p : Int} {inv : Int → Int} {n : Nat}
/-- all before place a is zero -/
def From (a : Nat) (v : List Int) : Prop := ∀ i, i < a → at0 v i = 0
/-- all before place a made zero -/
def zeroTo (a : Nat) (v : List Int) : List Int := List.replicate (min a v.length) 0 ++ v.drop a
theorem zeroTo_len {a : Nat} {v : List Int} : (zeroTo a v).length = v.length := by
  simp only [zeroTo, List.length_append, List.length_replicate, List.length_drop]
  omega
theorem at0_zeroTo {a : Nat} {v : List Int} (i : Nat) : at0 (zeroTo a v) i = if i < a then 0 else at0 v i := by
  unfold zeroTo
  by_cases h : i < min a v.length
  · rw [at0_app_l (by simp; omega), at0_rep, if_pos (by omega)]
  · by_cases g : v.length ≤ i
    · rw [at0_out (by simp; omega), at0_out g]
      simp
    · have e := at0_app_r (r := List.replicate (min a v.length) (0 : Int)) (s := v.drop a) (i - min a v.length)
      rw [List.length_replicate, show min a v.length + (i - min a v.length) = i by omega] at e
      rw [e, at0_drop, if_neg (by omega)]
      congr 1
      omega
theorem zeroTo_row {a : Nat} {v : List Int} (h0 : 0 < p) (h : Row p n v) : Row p n (zeroTo a v) := ⟨by rw [zeroTo_len, h.1], fun x hx => by
  unfold zeroTo at hx
  rcases List.mem_append.mp hx with m | m
  · rw [List.eq_of_mem_replicate m]; omega
  · exact h.2 x (List.mem_of_mem_drop m)⟩
theorem zeroTo_add {a : Nat} {f : Int} {v u : List Int} (h0 : 0 < p) (hv : Row p n v) (hu : Row p n u) : zeroTo a (addR p v f u) = addR p (zeroTo a v) f (zeroTo a u) := by
  refine ext0 (by rw [zeroTo_len, addR_len hv.1 hu.1, addR_len (by rw [zeroTo_len, hv.1]) (by rw [zeroTo_len, hu.1])]) fun i _ => ?_
  rw [at0_zeroTo, at0_addR (by rw [hv.1, hu.1]), at0_addR (by rw [zeroTo_len, zeroTo_len, hv.1, hu.1]), at0_zeroTo, at0_zeroTo]
  split
  · simp
  · rfl
theorem zeroTo_from {a : Nat} {v : List Int} (h : From a v) : zeroTo a v = v := ext0 zeroTo_len fun i _ => by
  rw [at0_zeroTo]
  split
  · rw [h i ‹_›]
  · rfl
theorem from_zeroTo {a : Nat} {v : List Int} : From a (zeroTo a v) := fun i hi => by rw [at0_zeroTo, if_pos hi]
theorem from_sub (I : Inv p inv) (a : Nat) : DX.Sub (rowVS I n) fun v => From a v.1 :=
  ⟨fun i _ => at0_rep, fun {v f u} hv hu i hi => by
    show at0 (addR p v.1 f u.1) i = 0
    rw [at0_addR (by rw [v.2.1, u.2.1]), hv i hi, hu i hi]
    simp⟩
/-- the cut behind a place -/
noncomputable def cutAt (h0 : 0 < p) (a : Nat) (v : Rw p n) : Rw p n := ⟨zeroTo a v.1, zeroTo_row h0 v.2⟩
/-- a span of two parts, the second behind the place, the first before it: cut there -/
theorem cut_hand (I : Inv p inv) {a : Nat} {b c : List (List Int)} (hb : Len n b) (hc : Len n c) (zb : ∀ r ∈ b, zeroTo a r = List.replicate n 0) (fc : ∀ r ∈ c, From a r) {v : List Int} (i : InS p n (b ++ c) v) : InS p n c (zeroTo a v) := by
  have h0 := I.pos
  have hbc : Len n (b ++ c) := fun r m => (List.mem_append.mp m).elim (hb r) (hc r)
  have add : ∀ {v r : List Int} (f : Int), Row p n v → r.length = n → zeroTo a (addR p v f r) = addR p (zeroTo a v) f (zeroTo a r) := fun {v r} f hv hr => by
    refine ext0 (by rw [zeroTo_len, addR_len hv.1 hr, addR_len (by rw [zeroTo_len, hv.1]) (by rw [zeroTo_len, hr])]) fun i _ => ?_
    rw [at0_zeroTo, at0_addR (by rw [hv.1, hr]), at0_addR (by rw [zeroTo_len, zeroTo_len, hv.1, hr]), at0_zeroTo, at0_zeroTo]
    split
    · simp
    · rfl
  induction i with
  | zero =>
    rw [zeroTo_from (fun i _ => at0_rep)]
    exact .zero
  | @add v r f i m ih =>
    have hv := i.row h0 hbc
    rw [add f hv (hbc r m)]
    rcases List.mem_append.mp m with m | m
    · rw [zb r m, addR_rep h0 (zeroTo_row h0 hv)]
      exact ih
    · rw [zeroTo_from (fc r m)]
      exact .add f ih m
theorem in_from (I : Inv p inv) {a : Nat} {c : List (List Int)} (hc : Len n c) (fc : ∀ r ∈ c, From a r) {v : List Int} (i : InS p n c v) : From a v := by
  have := cut_hand I (b := []) (fun _ h => nomatch h) hc (fun _ h => nomatch h) fc (v := v) i
  induction i with
  | zero => exact fun i _ => at0_rep
  | @add v r f i m ih =>
    intro j hj
    have h1 := ih (cut_hand I (b := []) (fun _ h => nomatch h) hc (fun _ h => nomatch h) fc (v := v) i) j hj
    rw [at0_addR (by rw [(i.row I.pos hc).1, hc r m]), h1, fc r m j hj]
    simp
theorem fix_hand (I : Inv p inv) {a : Nat} {b c : List (List Int)} (hb : Len n b) (hc : Len n c) (zb : ∀ r ∈ b, zeroTo a r = List.replicate n 0) (fc : ∀ r ∈ c, From a r) :
    DX.fixd (cutAt I.pos a) (inP (n := n) (b ++ c)) = inP (p := p) c := funext fun v => propext ⟨fun ⟨h1, h2⟩ => by
      have := cut_hand I hb hc zb fc h1
      rwa [show zeroTo a v.1 = v.1 from congrArg Subtype.val h2] at this, fun h => ⟨h.mono fun r m => List.mem_append_right _ m, Subtype.ext (zeroTo_from (in_from I hc fc h))⟩⟩
theorem kill_hand (I : Inv p inv) {a : Nat} {b c : List (List Int)} (hb : Len n b) (hc : Len n c) (zb : ∀ r ∈ b, zeroTo a r = List.replicate n 0) (fc : ∀ r ∈ c, From a r) :
    DX.kill (rowVS I n) (cutAt I.pos a) (inP (n := n) (b ++ c)) = inP (p := p) b := funext fun v => propext ⟨fun ⟨h1, h2⟩ => by
      obtain ⟨x, y, hx, hy, e⟩ := (app_split I.pos hb hc).mp h1
      have rx := hx.row I.pos hb
      have ry := hy.row I.pos hc
      have zx : zeroTo a x = List.replicate n 0 := by
        have := cut_hand I (c := []) hb (fun _ h => nomatch h) zb (fun _ h => nomatch h) (v := x) (by rwa [List.append_nil])
        exact in_nil.mp this
      have zv : zeroTo a v.1 = List.replicate n 0 := congrArg Subtype.val h2
      rw [e, zeroTo_add I.pos rx ry, zx, zeroTo_from (in_from I hc fc hy)] at zv
      have ey : y = List.replicate n 0 := by
        rw [zero_add ry.1, scale_one I.pos ry (Int.emod_eq_of_lt (by omega) (by have := I.two; omega))] at zv
        exact zv
      rw [ey, addR_rep I.pos rx] at e
      show InS p n b v.1
      rw [e]
      exact hx, fun h => ⟨h.mono fun r m => List.mem_append_left _ m, Subtype.ext (by
      have := cut_hand I (c := []) hb (fun _ h => nomatch h) zb (fun _ h => nomatch h) (v := v.1) (by rw [List.append_nil]; exact h)
      exact in_nil.mp this)⟩⟩
end RX

set_option linter.all false
/-! # rows of kinds, one after the other (plain mathematics, no Python) -/
namespace RX
open KW
variable {p : Int} {inv : Int → Int} {n : Nat}
def eR (n j : Nat) : List Int := (List.range n).map fun i => if i = j then 1 else 0
def eRR (n j : Nat) : List Int := (List.range n).map fun i => if i = j ∨ i = j + 1 then 1 else 0
def blk (n a : Nat) (k : List Nat) (h : Nat) : List (List Int) := if k = PL then (if h = 97 then [eR n a] else if h = 98 then [eR n (a + 1)] else [eRR n a]) else if h ∈ k then [eR n a] else []
/-- the rows of a hand, kind after kind from place a -/
def rowsOf (n : Nat) : Nat → List (List Nat) → Nat → List (List Int)
  | _, [], _ => []
  | a, k :: ks, h => blk n a k h ++ rowsOf n (a + kLen k) ks h
theorem at0_eR {i j : Nat} : at0 (eR n j) i = if i < n ∧ i = j then 1 else 0 := by
  by_cases h : i < n
  · rw [at0_of (by simp [eR]; omega)]
    simp [eR, h]
  · rw [at0_out (by simp [eR]; omega), if_neg (by omega)]
theorem at0_eRR {i j : Nat} : at0 (eRR n j) i = if i < n ∧ (i = j ∨ i = j + 1) then 1 else 0 := by
  by_cases h : i < n
  · rw [at0_of (by simp [eRR]; omega)]
    simp [eRR, h]
  · rw [at0_out (by simp [eRR]; omega), if_neg (by omega)]
theorem kLen_two {k : List Nat} : kLen k = 1 ∨ kLen k = 2 := by unfold kLen; split <;> omega
theorem blk_cases {a : Nat} {k : List Nat} {h : Nat} {r : List Int} (m : r ∈ blk n a k h) : r = eR n a ∨ (k = PL ∧ (r = eR n (a + 1) ∨ r = eRR n a)) := by
  unfold blk at m
  split at m
  · rename_i e
    split at m
    · exact .inl (List.mem_singleton.mp m)
    · split at m
      · exact .inr ⟨e, .inl (List.mem_singleton.mp m)⟩
      · exact .inr ⟨e, .inr (List.mem_singleton.mp m)⟩
  · split at m
    · exact .inl (List.mem_singleton.mp m)
    · exact nomatch m
theorem blk_len {a : Nat} {k : List Nat} {h : Nat} : Len n (blk n a k h) := fun r m => by
  rcases blk_cases m with rfl | ⟨_, rfl | rfl⟩ <;> simp [eR, eRR]
theorem rows_len : ∀ {ks : List (List Nat)} {a h : Nat}, Len n (rowsOf n a ks h)
  | [], _, _, _, m => nomatch m
  | _ :: _, _, _, r, m => (List.mem_append.mp m).elim (blk_len r) (rows_len r)
theorem blk_from {a : Nat} {k : List Nat} {h : Nat} : ∀ r ∈ blk n a k h, From a r := fun r m i hi => by
  rcases blk_cases m with rfl | ⟨_, rfl | rfl⟩
  · rw [at0_eR, if_neg (by omega)]
  · rw [at0_eR, if_neg (by omega)]
  · rw [at0_eRR, if_neg (by omega)]
theorem rows_from : ∀ {ks : List (List Nat)} {a h : Nat}, ∀ r ∈ rowsOf n a ks h, From a r
  | [], _, _, _, m => nomatch m
  | k :: ks, a, h, r, m => (List.mem_append.mp m).elim (blk_from r) fun m i hi => rows_from r m i (by omega)
theorem blk_zero {a : Nat} {k : List Nat} {h : Nat} : ∀ r ∈ blk n a k h, zeroTo (a + kLen k) r = List.replicate n 0 := fun r m => by
  refine ext0 (by rw [zeroTo_len, blk_len r m, List.length_replicate]) fun i _ => ?_
  rw [at0_zeroTo, at0_rep]
  split
  · rfl
  · rename_i hi
    rcases blk_cases m with rfl | ⟨e, rfl | rfl⟩
    · rw [at0_eR, if_neg (by rcases kLen_two (k := k) with e | e <;> omega)]
    · have : kLen k = 2 := if_pos e
      rw [at0_eR, if_neg (by omega)]
    · have : kLen k = 2 := if_pos e
      rw [at0_eRR, if_neg (by omega)]
end RX

set_option linter.all false
/-! # a triple made of kinds, one after the other: within there is within on each of them (plain mathematics, no Python) -/
namespace RX
open KW
variable {p : Int} {inv : Int → Int} {n : Nat}
theorem row01 {r : List Int} (I : Inv p inv) (hl : r.length = n) (h : ∀ x ∈ r, x = 0 ∨ x = 1) : Row p n r := ⟨hl, fun x hx => by have := I.two; rcases h x hx with rfl | rfl <;> omega⟩
theorem eR_row (I : Inv p inv) {j : Nat} : Row p n (eR n j) := row01 I (by simp [eR]) fun x hx => by
  simp only [eR, List.mem_map] at hx
  obtain ⟨i, _, rfl⟩ := hx
  split <;> simp
theorem at0_mul {f : Int} {r : List Int} (hl : r.length = n) (i : Nat) : at0 (addR p (List.replicate n 0) f r) i = f * at0 r i % p := by
  rw [at0_addR (by rw [hl, List.length_replicate]), at0_rep, Int.zero_add]
/-- the part between two places -/
def Mid (I : Inv p inv) (n a b : Nat) (v : Rw p n) : Prop := From a v.1 ∧ cutAt I.pos b v = (rowVS I n).z
theorem mid_at {I : Inv p inv} {a b : Nat} {v : Rw p n} (h : Mid I n a b v) (i : Nat) (hi : i < a ∨ b ≤ i) : at0 v.1 i = 0 := by
  rcases hi with hi | hi
  · exact h.1 i hi
  · have e := congrArg (fun w : Rw p n => at0 w.1 i) h.2
    have e' : at0 (zeroTo b v.1) i = at0 (List.replicate n 0) i := e
    rw [at0_zeroTo, if_neg (by omega), at0_rep] at e'
    exact e'
theorem blk_line (I : Inv p inv) {a : Nat} (ha : a < n) {k : List Nat} (np : k ≠ PL) : DX.Line (rowVS I n) (Mid I n a (a + 1)) (inP (blk n a k 97)) (inP (blk n a k 98)) (inP (blk n a k 99)) ⟨eR n a, eR_row I⟩ k := by
  have h2 := I.two
  have one : at0 (eR n a) a = 1 := by rw [at0_eR, if_pos ⟨ha, rfl⟩]
  have nz : eR n a ≠ List.replicate n 0 := fun e => by rw [e, at0_rep] at one; cases one
  have hand : ∀ h, h ∈ k ↔ inP (p := p) (blk n a k h) (⟨eR n a, eR_row I⟩ : Rw p n) := fun h => by
    show h ∈ k ↔ InS p n (blk n a k h) (eR n a)
    unfold blk
    rw [if_neg np]
    by_cases m : h ∈ k
    · rw [if_pos m]
      exact ⟨fun _ => .self h2 (eR_row I) (List.mem_singleton.mpr rfl), fun _ => m⟩
    · rw [if_neg m, in_nil]
      exact ⟨fun z => (m z).elim, fun z => (nz z).elim⟩
  refine ⟨⟨fun i hi => by rw [at0_eR, if_neg (by omega)], Subtype.ext (ext0 (by show (zeroTo _ _).length = _; rw [zeroTo_len]; simp [eR, rowVS]) fun i _ => ?_)⟩, fun e => nz (congrArg Subtype.val e), fun {v} hv => ⟨at0 v.1 a, Subtype.ext (ext0 ?_ fun i _ => ?_)⟩, np, hand 97, hand 98, hand 99⟩
  · show at0 (zeroTo (a + 1) (eR n a)) i = at0 (List.replicate n 0) i
    rw [at0_zeroTo, at0_eR, at0_rep]
    split
    · rfl
    · rw [if_neg (by omega)]
  · show v.1.length = (addR p (List.replicate n 0) _ (eR n a)).length
    rw [addR_len (n := n) (by simp) (by simp [eR]), v.2.1]
  · show at0 v.1 i = at0 (addR p (List.replicate n 0) (at0 v.1 a) (eR n a)) i
    rw [at0_mul (by simp [eR]), at0_eR]
    by_cases e : i = a
    · subst e
      rw [if_pos ⟨ha, rfl⟩, Int.mul_one, v.2.emod I.pos]
    · rw [if_neg (fun z => e z.2), Int.mul_zero, Int.zero_emod, mid_at hv i (by omega)]
end RX

set_option linter.all false
/-! # the plane part; the whole (plain mathematics, no Python) -/
namespace RX
open KW
variable {p : Int} {inv : Int → Int} {n : Nat}
theorem eRR_row (I : Inv p inv) {j : Nat} : Row p n (eRR n j) := row01 I (by simp [eRR]) fun x hx => by
  simp only [eRR, List.mem_map] at hx
  obtain ⟨i, _, rfl⟩ := hx
  split <;> simp
theorem in_e (I : Inv p inv) {r : List Int} (hl : r.length = n) {v : Rw p n} (h : inP [r] v) : ∃ f, ∀ i, at0 v.1 i = f * at0 r i % p := by
  obtain ⟨f, e⟩ := (in_single I.pos hl).mp h
  exact ⟨f, fun i => by rw [e, at0_mul hl]⟩
theorem e_in (I : Inv p inv) {r : List Int} (hl : r.length = n) {v : Rw p n} (f : Int) (h : ∀ i, at0 v.1 i = f * at0 r i % p) : inP [r] v :=
  (in_single I.pos hl).mpr ⟨f, ext0 (by rw [addR_len (n := n) (by simp) hl, v.2.1]) fun i _ => by rw [at0_mul hl, h i]⟩
theorem blk_plane (I : Inv p inv) {a : Nat} (ha : a + 1 < n) : DX.Plane (rowVS I n) (Mid I n a (a + 2)) (inP [eR n a]) (inP [eR n (a + 1)]) (inP [eRR n a]) := by
  have l1 : (eR n a).length = n := by simp [eR]
  have l2 : (eR n (a + 1)).length = n := by simp [eR]
  have l3 : (eRR n a).length = n := by simp [eRR]
  have zero : ∀ {v : Rw p n}, (∀ i, at0 v.1 i = 0) → v = (rowVS I n).z := fun {v} h => Subtype.ext (ext0 (by rw [v.2.1]; simp [rowVS]) fun i _ => by
    rw [h i]
    exact at0_rep.symm)
  have mk : ∀ (f : Int) {r : List Int}, r.length = n → ∃ w : Rw p n, (∀ i, at0 w.1 i = f * at0 r i % p) := fun f {r} hl => ⟨⟨addR p (List.replicate n 0) f r, addR_row I.pos (by simp) hl⟩, fun i => at0_mul hl i⟩
  have sum : ∀ {v x y : Rw p n}, (∀ i, at0 v.1 i = (at0 x.1 i + at0 y.1 i) % p) → v = (rowVS I n).c x 1 y := fun {v x y} h => Subtype.ext (ext0 (by rw [v.2.1]; exact ((rowVS I n).c x 1 y).2.1.symm) fun i _ => by
    rw [h i]
    show _ = at0 (addR p x.1 1 y.1) i
    rw [at0_addR (by rw [x.2.1, y.2.1]), Int.one_mul])
  refine ⟨fun {v} hA hB => zero fun i => ?_, fun {v} hA hC => zero fun i => ?_, fun {v} hB hC => zero fun i => ?_, fun {v} hv => ?_, fun {v} hv => ?_, fun {v} hv => ?_⟩
  · obtain ⟨f, hf⟩ := in_e I l1 hA
    obtain ⟨g, hg⟩ := in_e I l2 hB
    by_cases e : i = a
    · rw [hg i, at0_eR, if_neg (by omega)]; simp
    · rw [hf i, at0_eR, if_neg (by omega)]; simp
  · obtain ⟨f, hf⟩ := in_e I l1 hA
    obtain ⟨g, hg⟩ := in_e I l3 hC
    by_cases e : i = a
    · have h1 := hf (a + 1)
      have h2 := hg (a + 1)
      rw [at0_eR, if_neg (by omega)] at h1
      rw [at0_eRR, if_pos (by omega), h1] at h2
      rw [hg i, at0_eRR, if_pos (by omega), ← h2]
      simp
    · rw [hf i, at0_eR, if_neg (by omega)]; simp
  · obtain ⟨f, hf⟩ := in_e I l2 hB
    obtain ⟨g, hg⟩ := in_e I l3 hC
    by_cases e : i = a + 1
    · have h1 := hf a
      have h2 := hg a
      rw [at0_eR, if_neg (by omega)] at h1
      rw [at0_eRR, if_pos (by omega), h1] at h2
      rw [hg i, at0_eRR, if_pos (by omega), ← h2]
      simp
    · rw [hf i, at0_eR, if_neg (by omega)]; simp
  · obtain ⟨x, hx⟩ := mk (at0 v.1 a) l1
    obtain ⟨y, hy⟩ := mk (at0 v.1 (a + 1)) l2
    refine ⟨x, y, e_in I l1 _ hx, e_in I l2 _ hy, sum fun i => ?_⟩
    rw [hx i, hy i, at0_eR, at0_eR]
    by_cases e1 : i = a
    · subst e1
      rw [if_pos ⟨by omega, rfl⟩, if_neg (by omega)]
      simp [v.2.emod I.pos]
    · by_cases e2 : i = a + 1
      · subst e2
        rw [if_neg (by omega), if_pos ⟨by omega, rfl⟩]
        simp [v.2.emod I.pos]
      · rw [if_neg (by omega), if_neg (by omega), mid_at hv i (by omega)]
        simp
  · obtain ⟨x, hx⟩ := mk (at0 v.1 a - at0 v.1 (a + 1)) l1
    obtain ⟨y, hy⟩ := mk (at0 v.1 (a + 1)) l3
    refine ⟨x, y, e_in I l1 _ hx, e_in I l3 _ hy, sum fun i => ?_⟩
    rw [hx i, hy i, at0_eR, at0_eRR]
    by_cases e1 : i = a
    · subst e1
      rw [if_pos ⟨by omega, rfl⟩, if_pos (by omega), Int.mul_one, Int.mul_one, ← Int.add_emod, show at0 v.1 i - at0 v.1 (i + 1) + at0 v.1 (i + 1) = at0 v.1 i by omega, v.2.emod I.pos]
    · by_cases e2 : i = a + 1
      · subst e2
        rw [if_neg (by omega), if_pos (by omega)]
        simp [v.2.emod I.pos]
      · rw [if_neg (by omega), if_neg (by omega), mid_at hv i (by omega)]
        simp
  · obtain ⟨x, hx⟩ := mk (at0 v.1 (a + 1) - at0 v.1 a) l2
    obtain ⟨y, hy⟩ := mk (at0 v.1 a) l3
    refine ⟨x, y, e_in I l2 _ hx, e_in I l3 _ hy, sum fun i => ?_⟩
    rw [hx i, hy i, at0_eR, at0_eRR]
    by_cases e1 : i = a
    · subst e1
      rw [if_neg (by omega), if_pos (by omega)]
      simp [v.2.emod I.pos]
    · by_cases e2 : i = a + 1
      · subst e2
        rw [if_pos ⟨by omega, rfl⟩, if_pos (by omega), Int.mul_one, Int.mul_one, ← Int.add_emod, show at0 v.1 (a + 1) - at0 v.1 a + at0 v.1 a = at0 v.1 (a + 1) by omega, v.2.emod I.pos]
      · rw [if_neg (by omega), if_neg (by omega), mid_at hv i (by omega)]
        simp
end RX

set_option linter.all false
/-! # a triple made of kinds: within there is within on each of them (plain mathematics, no Python) -/
namespace RX
open KW
variable {p : Int} {inv : Int → Int} {n : Nat}
def total : List (List Nat) → Nat
  | [] => 0
  | k :: ks => kLen k + total ks
/-- all from a place on -/
def Back (p : Int) (n a : Nat) (v : Rw p n) : Prop := From a v.1
theorem rows_cut (I : Inv p inv) (a b : Nat) {A B C A' B' C' : List (List Int)} (hab : a ≤ b) (la : Len n A) (lb : Len n B) (lc : Len n C) (la' : Len n A') (lb' : Len n B') (lc' : Len n C')
    (za : ∀ r ∈ A, zeroTo b r = List.replicate n 0) (zb : ∀ r ∈ B, zeroTo b r = List.replicate n 0) (zc : ∀ r ∈ C, zeroTo b r = List.replicate n 0) (fa : ∀ r ∈ A', From b r) (fb : ∀ r ∈ B', From b r) (fc : ∀ r ∈ C', From b r) :
    DX.Cut (rowVS I n) (Back p n a) (inP (A ++ A')) (inP (B ++ B')) (inP (C ++ C')) (cutAt I.pos b) where
  lin v g u := Subtype.ext (zeroTo_add I.pos v.2 u.2)
  id v := Subtype.ext (zeroTo_from from_zeroTo)
  v {v} h := fun i hi => by
    show at0 (zeroTo b v.1) i = 0
    rw [at0_zeroTo, if_pos (by omega)]
  a {v} h := (cut_hand I la la' za fa h).mono fun r m => List.mem_append_right _ m
  b {v} h := (cut_hand I lb lb' zb fb h).mono fun r m => List.mem_append_right _ m
  c {v} h := (cut_hand I lc lc' zc fc h).mono fun r m => List.mem_append_right _ m
theorem back_trip (I : Inv p inv) {a : Nat} {A B C : List (List Int)} (la : Len n A) (lb : Len n B) (lc : Len n C) (fa : ∀ r ∈ A, From a r) (fb : ∀ r ∈ B, From a r) (fc : ∀ r ∈ C, From a r) : DX.Trip (rowVS I n) (Back p n a) (inP A) (inP B) (inP C) :=
  ⟨from_sub I a, inP_sub I la, inP_sub I lb, inP_sub I lc, fun h => in_from I la fa h, fun h => in_from I lb fb h, fun h => in_from I lc fc h⟩
theorem fix_back (I : Inv p inv) {a b : Nat} (hab : a ≤ b) : DX.fixd (cutAt I.pos b) (Back p n a) = Back p n b := funext fun v => propext ⟨fun ⟨_, h⟩ i hi => by
  have e : zeroTo b v.1 = v.1 := congrArg Subtype.val h
  rw [← e]
  exact from_zeroTo i hi, fun h => ⟨fun i hi => h i (by omega), Subtype.ext (zeroTo_from h)⟩⟩
theorem kill_back (I : Inv p inv) {a b : Nat} : DX.kill (rowVS I n) (cutAt I.pos b) (Back p n a) = Mid I n a b := rfl
/-- within on a triple of kinds, one after the other: within on each -/
theorem kinds_iff (I : Inv p inv) {s t : Tr} (hs : WF s = true) (ht : WF t = true) : ∀ (ks : List (List Nat)) (a : Nat), a + total ks = n →
    ((∀ v, DX.valP (rowVS I n) (Back p n a) (inP (rowsOf n a ks 97)) (inP (rowsOf n a ks 98)) (inP (rowsOf n a ks 99)) s v → DX.valP (rowVS I n) (Back p n a) (inP (rowsOf n a ks 97)) (inP (rowsOf n a ks 98)) (inP (rowsOf n a ks 99)) t v) ↔ ∀ k ∈ ks, isW (mk k s) (mk k t) = true)
  | [], a, h => by
    have T := back_trip I (a := a) (n := n) rows_len rows_len rows_len (rows_from (ks := []) (h := 97)) (rows_from (ks := []) (h := 98)) (rows_from (ks := []) (h := 99))
    refine ⟨(fun _ k h => nomatch h), fun _ v hv => ?_⟩
    have hb : From a v.1 := DX.val_in T s hv
    have e : v = (rowVS I n).z := Subtype.ext (ext0 (by rw [v.2.1]; simp [rowVS]) fun i hi => by
      have ha : a = n := by simpa [total] using h
      rw [hb i (by rw [v.2.1] at hi; omega)]
      exact at0_rep.symm)
    rw [e]
    exact (DX.val_sub T t).z
  | k :: ks, a, h => by
    have hk : a + kLen k + total ks = n := by simp only [total] at h; omega
    have le : a ≤ a + kLen k := by omega
    have T := back_trip I (a := a) (n := n) rows_len rows_len rows_len (rows_from (ks := k :: ks) (h := 97)) (rows_from (ks := k :: ks) (h := 98)) (rows_from (ks := k :: ks) (h := 99))
    have K : DX.Cut (rowVS I n) (Back p n a) (inP (rowsOf n a (k :: ks) 97)) (inP (rowsOf n a (k :: ks) 98)) (inP (rowsOf n a (k :: ks) 99)) (cutAt I.pos (a + kLen k)) :=
      rows_cut I a (a + kLen k) le blk_len blk_len blk_len rows_len rows_len rows_len blk_zero blk_zero blk_zero rows_from rows_from rows_from
    have TK := K.kill T
    have cu := DX.cut_iff K T (s := s) (t := t)
    rw [fix_back I le, kill_back I] at cu
    rw [kill_back I] at TK
    have f := fun h => fix_hand I (b := blk n a k h) (c := rowsOf n (a + kLen k) ks h) (a := a + kLen k) blk_len rows_len blk_zero rows_from
    have g := fun h => kill_hand I (b := blk n a k h) (c := rowsOf n (a + kLen k) ks h) (a := a + kLen k) blk_len rows_len blk_zero rows_from
    have f' : ∀ h, DX.fixd (cutAt I.pos (a + kLen k)) (inP (p := p) (rowsOf n a (k :: ks) h)) = inP (rowsOf n (a + kLen k) ks h) := f
    have g' : ∀ h, DX.kill (rowVS I n) (cutAt I.pos (a + kLen k)) (inP (rowsOf n a (k :: ks) h)) = inP (blk n a k h) := g
    rw [f' 97, f' 98, f' 99, g' 97, g' 98, g' 99] at cu
    rw [g' 97, g' 98, g' 99] at TK
    rw [cu, kinds_iff I hs ht ks (a + kLen k) hk, List.forall_mem_cons, and_comm]
    refine and_congr ?_ Iff.rfl
    by_cases np : k = PL
    · subst np
      have P := blk_plane I (n := n) (a := a) (by have : kLen PL = 2 := rfl; omega)
      have e : Mid I n a (a + kLen PL) = Mid I n a (a + 2) := rfl
      have w : Mid I n a (a + 2) ⟨eR n a, eR_row I⟩ := by
        rw [← e]
        exact TK.av (show InS p n [eR n a] (eR n a) from .self I.two (eR_row I) (List.mem_singleton.mpr rfl))
      refine DX.plane_iff TK P w (fun z => ?_) hs ht
      have z' : at0 (eR n a) a = at0 (List.replicate n 0) a := congrArg (fun v : Rw p n => at0 v.1 a) z
      rw [at0_eR, at0_rep, if_pos ⟨by have : kLen PL = 2 := rfl; omega, rfl⟩] at z'
      cases z'
    · have e1 : kLen k = 1 := if_neg np
      rw [e1] at TK hk ⊢
      exact DX.line_iff TK (blk_line I (by omega) np) hs ht
end RX

set_option linter.all false
/-! # the kinds that counts give, one after the other (plain mathematics, no Python) -/
namespace RX
open KW
variable {p : Int} {inv : Int → Int} {n : Nat}
theorem total_app : ∀ (ks js : List (List Nat)), total (ks ++ js) = total ks + total js
  | [], js => by simp [total]
  | k :: ks, js => by simp only [List.cons_append, total, total_app ks js]; omega
theorem rowsOf_app : ∀ (ks js : List (List Nat)) (a h : Nat), rowsOf n a (ks ++ js) h = rowsOf n a ks h ++ rowsOf n (a + total ks) js h
  | [], js, a, h => by simp [rowsOf, total]
  | k :: ks, js, a, h => by
    simp only [List.cons_append, rowsOf, rowsOf_app ks js, total, List.append_assoc, Nat.add_assoc]
theorem rowsOf_snoc (ks : List (List Nat)) (k : List Nat) (h : Nat) : rowsOf n 0 (ks ++ [k]) h = rowsOf n 0 ks h ++ blk n (total ks) k h := by
  rw [rowsOf_app]
  simp [rowsOf]
theorem total_snoc (ks : List (List Nat)) (k : List Nat) : total (ks ++ [k]) = total ks + kLen k := by
  rw [total_app]
  simp [total]
theorem blk_one {a : Nat} {k : List Nat} {h : Nat} : (blk n a k h).length ≤ 1 := by
  unfold blk
  split
  · split
    · exact Nat.le_refl _
    · split <;> exact Nat.le_refl _
  · split
    · exact Nat.le_refl _
    · exact Nat.zero_le _
theorem rowsOf_le : ∀ (ks : List (List Nat)) (a h : Nat), (rowsOf n a ks h).length ≤ ks.length
  | [], _, _ => Nat.le_refl _
  | k :: ks, a, h => by
    simp only [rowsOf, List.length_append, List.length_cons]
    have := blk_one (n := n) (a := a) (k := k) (h := h)
    have := rowsOf_le ks (a + kLen k) h
    omega
/-- the i-th kind -/
def kA (i : Nat) : List Nat := kinds.getD i []
/-- the kinds that the counts give, the first i of them -/
def kpre (cs : List Int) : Nat → List (List Nat)
  | 0 => []
  | i + 1 => kpre cs i ++ List.replicate (at0 cs i).toNat (kA i)
theorem rep_snoc {α : Type} (j : Nat) (x : α) : List.replicate (j + 1) x = List.replicate j x ++ [x] := List.replicate_succ'
theorem kpre_len {cs : List Int} {m : Nat} (h : ∀ i, (at0 cs i).toNat ≤ m) : ∀ i, (kpre cs i).length ≤ i * m
  | 0 => by simp [kpre]
  | i + 1 => by
    simp only [kpre, List.length_append, List.length_replicate, Nat.succ_mul]
    have := kpre_len h i
    have := h i
    omega
theorem kA_mem : ∀ i < 9, kA i ∈ kinds := by decide
theorem kpre_mem {cs : List Int} {k : List Nat} : ∀ {i : Nat}, k ∈ kpre cs i → ∃ j, j < i ∧ k = kA j ∧ 0 < at0 cs j
  | 0, h => nomatch h
  | i + 1, h => by
    rcases List.mem_append.mp h with h | h
    · obtain ⟨j, a, b, c⟩ := kpre_mem h
      exact ⟨j, by omega, b, c⟩
    · obtain ⟨h1, h2⟩ := List.mem_replicate.mp h
      exact ⟨i, by omega, h2, by omega⟩
theorem mem_kpre {cs : List Int} {j : Nat} (c : 0 < at0 cs j) : ∀ {i : Nat}, j < i → kA j ∈ kpre cs i
  | i + 1, h => by
    by_cases e : j = i
    · subst e
      exact List.mem_append_right _ (List.mem_replicate.mpr ⟨by omega, rfl⟩)
    · exact List.mem_append_left _ (mem_kpre c (by omega))
theorem total_rep (j : Nat) (k : List Nat) : total (List.replicate j k) = j * kLen k := by
  induction j with
  | zero => simp [total]
  | succ j ih => rw [List.replicate_succ, total, ih, Nat.succ_mul]; omega
theorem total_kpre {cs : List Int} : ∀ i, total (kpre cs (i + 1)) = total (kpre cs i) + (at0 cs i).toNat * kLen (kA i) := fun i => by
  rw [kpre, total_app, total_rep]
theorem kLen_kA : ∀ i < 9, kLen (kA i) = if i = 8 then 2 else 1 := by decide
end RX

set_option Elab.async false
set_option linter.all false
set_option maxRecDepth 100000
set_option maxHeartbeats 4000000
/-! # built, exactly -/
namespace KV
open PySem PySem.Spec PyProof.Rows L2 VX RX
section
variable {P : Program} {w : World} {K : PySem.W.Frag} {mg : Str → Option Value} {base : Heap} {f : Addr} {fd : FuncData}
open RX
theorem kz_at {i : Nat} (hi : i < 8) {z : Str} (h : atI [V.str "", .str "a", .str "b", .str "c", .str "ab", .str "ac", .str "bc", .str "abc"] (i : Int) = some (.str z)) : z = (["", "a", "b", "c", "ab", "ac", "bc", "abc"] : List Str).getD i "" := by
  match i, hi, h with
  | 0, _, h => exact (V.str.inj (Option.some.inj h)).symm
  | 1, _, h => exact (V.str.inj (Option.some.inj h)).symm
  | 2, _, h => exact (V.str.inj (Option.some.inj h)).symm
  | 3, _, h => exact (V.str.inj (Option.some.inj h)).symm
  | 4, _, h => exact (V.str.inj (Option.some.inj h)).symm
  | 5, _, h => exact (V.str.inj (Option.some.inj h)).symm
  | 6, _, h => exact (V.str.inj (Option.some.inj h)).symm
  | 7, _, h => exact (V.str.inj (Option.some.inj h)).symm
theorem ch_at {t : Nat} (ht : t < 3) {c : Nat} (h : atI ("abc" : Str).cps.toList (t : Int) = some c) : c = 97 + t := by
  match t, ht, h with
  | 0, _, h => exact (Option.some.inj h).symm
  | 1, _, h => exact (Option.some.inj h).symm
  | 2, _, h => exact (Option.some.inj h).symm
theorem cnt_all2 : ∀ i < 8, kA i ≠ KW.PL ∧ ∀ t < 3, decide (0 < Txt.count ((["", "a", "b", "c", "ab", "ac", "bc", "abc"] : List Str).getD i "") ⟨#[97 + t]⟩) = decide (97 + t ∈ kA i) := by decide +kernel
theorem cnt_blk {n m i t : Nat} (hi : i < 8) (ht : t < 3) {z : Str} {c : Nat} (hz : atI [V.str "", .str "a", .str "b", .str "c", .str "ab", .str "ac", .str "bc", .str "abc"] (i : Int) = some (.str z)) (hc : atI ("abc" : Str).cps.toList (t : Int) = some c) : (0 < Txt.count z ⟨#[c]⟩ → blk n m (kA i) (97 + t) = [eR n m]) ∧ (¬ 0 < Txt.count z ⟨#[c]⟩ → blk n m (kA i) (97 + t) = []) := by
  rw [kz_at hi hz, ch_at ht hc]
  obtain ⟨h1, h2⟩ := cnt_all2 i hi
  have h2 := h2 t ht
  unfold blk
  rw [if_neg h1]
  constructor
  · intro h
    rw [decide_eq_true h] at h2
    rw [if_pos (of_decide_eq_true h2.symm)]
  · intro h
    rw [decide_eq_false h] at h2
    rw [if_neg (of_decide_eq_false h2.symm)]
theorem Hx.eq {H : Hp} {l : Addr} {hs : List Addr} {R S : Nat → List (List Int)} (h : Hx H l hs R) (e : ∀ t, t < 3 → R t = S t) : Hx H l hs S :=
  ⟨h.ls, h.three, h.nd, h.lh, fun t x k => by
    have ht : t < 3 := by rw [← h.three]; exact (List.getElem?_eq_some_iff.mp k).1
    rw [← e t ht]
    exact h.rows t x k⟩
theorem eR_def {n m : Nat} : ((List.range ((n : Nat) : Int).toNat).map fun j => if j = m then (1 : Int) else 0) = eR n m := by
  rw [Int.toNat_natCast]
  rfl
theorem eRR_def {n m : Nat} : ((List.range ((n : Nat) : Int).toNat).map fun j => if j = m ∨ j = m + 1 then (1 : Int) else 0) = eRR n m := by
  rw [Int.toNat_natCast]
  rfl
def spBuiltX : Sp := fun vs H Q _ => ∃ (n : Nat) (c : Addr) (cs : List Int), vs = [.int (n : Nat), .ref c] ∧ n ≤ 12 ∧ H c = some (.lst (cs.map V.int)) ∧ cs.length = 9 ∧ (∀ x ∈ cs, 0 ≤ x ∧ x ≤ 6) ∧
  ∀ H' l hs, Same H H' → Hx H' l hs (fun t => rowsOf n 0 (kpre cs 9) (97 + t)) → Q (.ref l) H'
theorem blk_pl0 {n m : Nat} : blk n m (kA 8) (97 + 0) = [eR n m] := by unfold blk; rw [if_pos (by decide), if_pos rfl]
theorem blk_pl1 {n m : Nat} : blk n m (kA 8) (97 + 1) = [eR n (m + 1)] := by unfold blk; rw [if_pos (by decide), if_neg (by decide), if_pos rfl]
theorem blk_pl2 {n m : Nat} : blk n m (kA 8) (97 + 2) = [eRR n m] := by unfold blk; rw [if_pos (by decide), if_neg (by decide), if_neg (by decide)]
theorem g_builtX (T : TX K mg) : ∃ fd, FnP K "_law_built" iLBuilt (He.ga K "_law_built") fd ∧ FnOk P w K mg base CX0 1 (He.ga K "_law_built") fd ["_law_n", "_law_counts_here"] spBuiltX ∧ Binds K fd ["_law_n", "_law_counts_here"] [] := by
  obtain ⟨fd, F⟩ := T.def "_law_built" iLBuilt
  refine ⟨fd, F, F.ok sc_bu (fun vs H Q E h => ?_) (fun cdv A outer s H vs Q E hr h => ?_), F.bindsN fun _ _ _ _ _ _ us hl => match us, hl with | [_, _], _ => rfl⟩
  · obtain ⟨n, c, cs, rfl, _⟩ := h
    rfl
  · obtain ⟨n, c, cs, rfl, hn, hc, h9, hcs, k⟩ := h
    have nd := sc_bu.nd
    have hm : ∀ i, (at0 cs i).toNat ≤ 6 := fun i => by
      by_cases hi : i < cs.length
      · rw [at0_of hi]
        have := hcs _ (List.getElem_mem hi)
        omega
      · rw [at0_out (by omega)]
        decide
    refine ⟨_, PSs.nox (pss_cons (ps_set (i := 2) nd rfl (.inl rfl) (pe_lst (pa_cons (pe_lst pa_nil) (pa_cons (pe_lst pa_nil) (pa_cons (pe_lst pa_nil) pa_nil))))) (pss_cons (ps_set (i := 3) nd rfl (.inr rfl) pe_int) (pss_cons (ps_for PassesOwn.never rfl (pi_range1 (by rfl) (T.fr "range") (pa_cons pe_int pa_nil)) (pg_name (i := 4) nd rfl (.inl rfl)) (pss_one (ps_for PassesOwn.never rfl (pi_range1 (by rfl) (T.fr "range") (pa_cons (pe_ix ix_list (pv 1) (pv 4) (fun _ _ => rfl)) pa_nil)) (pg_name (i := 5) nd rfl (.inl rfl)) (pss_cons (ps_setLc (i := 6) (own := [("_law_k", 8)]) (g := gName 8) (by rfl) nd rfl rfl (sw_true rfl rfl rfl (by decide +kernel)) (pi_range1 (by rfl) (T.fr "range") (pa_cons (pv 0) pa_nil)) (blkOk_by (own := [("_law_k", 8)]) (N := nBu) (sc := defScope (top iLBuilt)) (by decide +kernel)) (fun _ _ _ _ _ => pg_name (i := 8) nd rfl (Or.inl rfl)) (fun _ _ _ _ _ => pts_nil) (fun _ _ _ _ _ => pe_callTy (r := fun xs H Q => (∃ i, xs = [.int i] ∧ Q (.int i) H) ∨ ∃ k, xs = [.bl k] ∧ Q (.int (if k then 1 else 0)) H) call_int1 (by rfl) (T.fr "int") boot_int (pa_cons (pe_cmpR op_eq (pv 8) (pv 3) (nomark _)) pa_nil))) (pss_cons (ps_cut (ps_if (pt_cmpR op_eq (pv 4) pe_int (nomark _)) (pss_cons (ps_expr (pe_bm PySem.F.plainAttrs_list PySem.F.slot_list_append PySem.F.type_list_append mt_append (pe_ix ix_list (pv 2) pe_int (fun _ _ => rfl)) (pa_cons (pv 6) pa_nil))) (pss_cons (ps_expr (pe_bm PySem.F.plainAttrs_list PySem.F.slot_list_append PySem.F.type_list_append mt_append (pe_ix ix_list (pv 2) pe_int (fun _ _ => rfl)) (pa_cons (pe_lc (own := [("_law_k", 8)]) (g := gName 8) (by rfl) nd (pi_range1 (by rfl) (T.fr "range") (pa_cons (pv 0) pa_nil)) (blkOk_by (own := [("_law_k", 8)]) (N := nBu) (sc := defScope (top iLBuilt)) (by decide +kernel)) (fun _ _ _ _ _ => pg_name (i := 8) nd rfl (Or.inl rfl)) (fun _ _ _ _ _ => pts_nil) (fun _ _ _ _ _ => pe_callTy (r := fun xs H Q => (∃ i, xs = [.int i] ∧ Q (.int i) H) ∨ ∃ k, xs = [.bl k] ∧ Q (.int (if k then 1 else 0)) H) call_int1 (by rfl) (T.fr "int") boot_int (pa_cons (pe_cmpR op_eq (pv 8) (pe_op op_add (pv 3) pe_int) (nomark _)) pa_nil))) pa_nil))) (pss_one (ps_expr (pe_bm PySem.F.plainAttrs_list PySem.F.slot_list_append PySem.F.type_list_append mt_append (pe_ix ix_list (pv 2) pe_int (fun _ _ => rfl)) (pa_cons (pe_lc (own := [("_law_k", 8)]) (g := gName 8) (by rfl) nd (pi_range1 (by rfl) (T.fr "range") (pa_cons (pv 0) pa_nil)) (blkOk_by (own := [("_law_k", 8)]) (N := nBu) (sc := defScope (top iLBuilt)) (by decide +kernel)) (fun _ _ _ _ _ => pg_name (i := 8) nd rfl (Or.inl rfl)) (fun _ _ _ _ _ => pts_nil) (fun _ _ _ _ _ => pe_callTy (r := fun xs H Q => (∃ i, xs = [.int i] ∧ Q (.int i) H) ∨ ∃ k, xs = [.bl k] ∧ Q (.int (if k then 1 else 0)) H) call_int1 (by rfl) (T.fr "int") boot_int (pa_cons ((pe_or (pe_cmpR op_eq (pv 8) (pv 3) (nomark _)) (pe_one (pe_cmpR op_eq (pv 8) (pe_op op_add (pv 3) pe_int) (nomark _))))) pa_nil))) pa_nil)))))) pss_nil)) (pss_cons (ps_for PassesOwn.never rfl (pi_range1 (by rfl) (T.fr "range") (pa_cons pe_int pa_nil)) (pg_name (i := 7) nd rfl (.inl rfl)) (pss_one (ps_cut (ps_if (PW.pt (pw_and (pt_cmpR op_lt (pv 4) pe_int (nomark _)) (pw_and1 (pt_cmpR op_gt (pe_bm PySem.F.plainAttrs_str PySem.F.slot_str_count PySem.F.type_str_count mt_count (pe_ix ix_list (pe_lst (pa_cons pe_str (pa_cons pe_str (pa_cons pe_str (pa_cons pe_str (pa_cons pe_str (pa_cons pe_str (pa_cons pe_str (pa_cons pe_str pa_nil))))))))) (pv 4) (fun _ _ => rfl)) (pa_cons (pe_ix ix_str pe_str (pv 7) (fun _ _ => rfl)) pa_nil)) pe_int (nomark _))))) (pss_one (ps_expr (pe_bm PySem.F.plainAttrs_list PySem.F.slot_list_append PySem.F.type_list_append mt_append (pe_ix ix_list (pv 2) (pv 7) (fun _ _ => rfl)) (pa_cons (pv 6) pa_nil)))) pss_nil)))) (pss_one (ps_set (i := 3) nd rfl (.inr rfl) (pe_op op_add (pe_op op_add (pv 3) pe_int) (pe_callTy (r := fun xs H Q => (∃ i, xs = [.int i] ∧ Q (.int i) H) ∨ ∃ k, xs = [.bl k] ∧ Q (.int (if k then 1 else 0)) H) call_int1 (by rfl) (T.fr "int") boot_int (pa_cons (pe_cmpR op_eq (pv 4) pe_int (nomark _)) pa_nil))))))))))) (pss_one (ps_ret (pv 2)))))), ?_⟩
    refine ⟨(by show 0 ≤ sizeLine; decide), fun h0 hh0 => ⟨(by show 0 ≤ sizeLine; decide), fun h1 hh1 => ⟨(by show 0 ≤ sizeLine; decide), fun h2 hh2 => ⟨(by show 3 ≤ sizeLine; decide), fun l hl => ?_⟩⟩⟩⟩
    have a0 : H h0 = none := hh0
    have a1 : H h1 = none := none_of hh1
    have a2 : H h2 = none := none_of (none_of hh2)
    have al : H l = none := none_of (none_of (none_of hl))
    have n01 : h0 ≠ h1 := fun e => by rw [← e, upd_same] at hh1; cases hh1
    have n12 : h1 ≠ h2 := fun e => by rw [← e, upd_same] at hh2; cases hh2
    have n02 : h0 ≠ h2 := fun e => by rw [← e, upd_ne n01, upd_same] at hh2; cases hh2
    have n2l : h2 ≠ l := fun e => by rw [← e, upd_same] at hl; cases hl
    have n1l : h1 ≠ l := fun e => by rw [← e, upd_ne n12, upd_same] at hl; cases hl
    have n0l : h0 ≠ l := fun e => by rw [← e, upd_ne n02, upd_ne n01, upd_same] at hl; cases hl
    have s0 : Same H (upd (upd (upd (upd H h0 (.lst [])) h1 (.lst [])) h2 (.lst [])) l (.lst [.ref h0, .ref h1, .ref h2])) := ((same_new (o := .lst []) hh0).trans (same_new (o := .lst []) hh1)).trans ((same_new (o := .lst []) hh2).trans (same_new hl))
    obtain ⟨hs, ehs⟩ : ∃ hs, hs = [h0, h1, h2] := ⟨_, rfl⟩
    have L0 : Hx (upd (upd (upd (upd H h0 (.lst [])) h1 (.lst [])) h2 (.lst [])) l (.lst [.ref h0, .ref h1, .ref h2])) l hs (fun _ => []) := by
      subst ehs
      refine ⟨upd_same, rfl, by simp [n01, n02, n12], by simp [Ne.symm n0l, Ne.symm n1l, Ne.symm n2l], fun t x hx => ⟨[], ?_, .nil⟩⟩
      rcases (show x = h0 ∨ x = h1 ∨ x = h2 by simpa using List.mem_of_getElem? hx) with rfl | rfl | rfl
      · rw [upd_ne n0l, upd_ne n02, upd_ne n01, upd_same]; rfl
      · rw [upd_ne n1l, upd_ne n12, upd_same]; rfl
      · rw [upd_ne n2l, upd_same]; rfl
    generalize upd (upd (upd (upd H h0 (.lst [])) h1 (.lst [])) h2 (.lst [])) l (.lst [.ref h0, .ref h1, .ref h2]) = H1 at s0 L0 ⊢
    have hsn : ∀ x ∈ hs, H x = none := fun x hx => by
      subst ehs
      rcases (show x = h0 ∨ x = h1 ∨ x = h2 by simpa using hx) with rfl | rfl | rfl
      · exact a0
      · exact a1
      · exact a2
    have hat : ∀ t : Nat, t < 3 → ∃ x, hs[t]? = some x ∧ x ∈ hs ∧ atI (hs.map V.ref) (t : Int) = some (.ref x) := fun t ht => by
      subst ehs
      match t, ht with
      | 0, _ => exact ⟨h0, rfl, by simp, rfl⟩
      | 1, _ => exact ⟨h1, rfl, by simp, rfl⟩
      | 2, _ => exact ⟨h2, rfl, by simp, rfl⟩
    clear ehs n01 n12 n02 n2l n1l n0l
    refine ⟨9, rfl, by omega, by omega, for_range (lo := 0) (n := (9 : Int).toNat) (fun i σ H' => ∃ (z4 z5 z6 z7 : Option V), σ = [some (.int (n : Nat)), some (.ref c), some (.ref l), some (.int (total (kpre cs i) : Nat)), z4, z5, z6, z7, none] ∧ Same H H' ∧ Hx H' l hs (fun t => rowsOf n 0 (kpre cs i) (97 + t))) ⟨none, none, none, none, rfl, s0, L0⟩ ?_ ?_⟩
    · rintro i σ H2 hi ⟨z4, z5, z6, z7, rfl, s2, L2⟩
      have hi9 : i < 9 := hi
      have c2 := s2 _ _ hc
      have zi : (0 : Int) + (i : Int) = (i : Nat) := by omega
      have zn : ((0 : Int) + (i : Int)).toNat = i := by rw [zi, Int.toNat_natCast]
      have b0 : 0 ≤ at0 cs i ∧ at0 cs i ≤ 6 := by rw [at0_of (by omega)]; exact hcs _ (List.getElem_mem _)
      refine ⟨_, rfl, _, rfl, c, _, _, _, rfl, rfl, SqL.of c2, atI_int (by omega) (by omega), _, rfl, by rw [zn]; omega, by rw [zn]; omega, for_range (lo := 0) (n := (at0 cs ((0 : Int) + (i : Int)).toNat).toNat) (fun j σ H' => ∃ (z5 z6 z7 : Option V), σ = [some (.int (n : Nat)), some (.ref c), some (.ref l), some (.int (total (kpre cs i ++ List.replicate j (kA i)) : Nat)), some (.int (0 + (i : Int))), z5, z6, z7, none] ∧ Same H H' ∧ Hx H' l hs (fun t => rowsOf n 0 (kpre cs i ++ List.replicate j (kA i)) (97 + t))) ⟨z5, z6, z7, by simp, s2, L2.eq (fun t _ => by simp)⟩ ?_ ?_⟩
      · rintro j σ H3 hj ⟨z5, z6, z7, rfl, s3, L3⟩
        rw [zn] at hj
        have j6 : j < 6 := by have := hm i; omega
        have len : ∀ t, (rowsOf n 0 (kpre cs i ++ List.replicate j (kA i)) (97 + t)).length ≤ 60 := fun t => by
          refine Nat.le_trans (rowsOf_le _ _ _) ?_
          rw [List.length_append, List.length_replicate]
          have := kpre_len (m := 6) hm i
          omega
        have snoc : ∀ t, rowsOf n 0 (kpre cs i ++ List.replicate (j + 1) (kA i)) (97 + t) = rowsOf n 0 (kpre cs i ++ List.replicate j (kA i)) (97 + t) ++ blk n (total (kpre cs i ++ List.replicate j (kA i))) (kA i) (97 + t) := fun t => by
          rw [rep_snoc, ← List.append_assoc, rowsOf_snoc]
        have tsn : total (kpre cs i ++ List.replicate (j + 1) (kA i)) = total (kpre cs i ++ List.replicate j (kA i)) + (if i = 8 then 2 else 1) := by
          rw [rep_snoc, ← List.append_assoc, total_snoc, kLen_kA i hi9]
        generalize rowsOf n 0 (kpre cs i ++ List.replicate (j + 1) (kA i)) = R' at snoc ⊢
        generalize total (kpre cs i ++ List.replicate (j + 1) (kA i)) = m' at tsn ⊢
        generalize rowsOf n 0 (kpre cs i ++ List.replicate j (kA i)) = R at snoc len L3
        generalize total (kpre cs i ++ List.replicate j (kA i)) = m at snoc tsn ⊢
        refine ⟨_, rfl, n, rfl, by omega, by omega, fun D hD => lc_it (walk_range (lo := 0) (n := ((n : Nat) : Int).toNat)) (fun t H' => H' = upd H3 D (.lst (((List.range t).map fun j => if j = m then (1 : Int) else 0).map V.int))) rfl (fun _ _ _ _ => trivial) ?_ ?_⟩
        · rintro t v Ha Hb ht rfl ⟨rfl, rfl⟩
          refine ⟨rfl, yes_if ?_⟩
          refine ⟨_, rfl, _, rfl, rfl, .inr ⟨_, rfl, _, upd_same, lt_line (by rw [List.length_map, List.length_map, List.length_range]; omega), ?_⟩⟩
          rw [upd_upd, List.range_succ, List.map_append, List.map_append]
          have := unit_at (t := t) (i := m)
          rw [show V.int (0 + ((m : Nat) : Int)) = V.int (m : Nat) by rw [Int.zero_add]] at this
          rw [this]
          rfl
        rintro _ rfl
        rw [eR_def]
        have sD := same_new (o := .lst ((eR n m).map V.int)) hD
        have dn := L3.fresh hD
        have iD : upd H3 D (.lst ((eR n m).map V.int)) D = some (.lst ((eR n m).map V.int)) := upd_same
        have L4 := L3.same sD
        have s4 := s3.trans sD
        generalize upd H3 D (.lst ((eR n m).map V.int)) = H4 at sD iD L4 s4 ⊢
        have e8 : ∀ {i : Nat}, V.int (0 + (i : Int)) = V.int 8 ↔ i = 8 := fun {i} => ⟨fun h => by have := V.int.inj h; omega, fun h => by subst h; rfl⟩
        -- the planes
        refine ⟨fun σ H' => σ = [some (.int (n : Nat)), some (.ref c), some (.ref l), some (.int (m : Nat)), some (.int (0 + (i : Int))), some (.int (0 + (j : Int))), some (.ref D), z7, none] ∧ Same H H' ∧ Hx H' l hs (fun t => if i = 8 then R' (97 + t) else R (97 + t)) ∧ H' D = some (.lst ((eR n m).map V.int)), ?_, ?_⟩
        · refine ⟨_, rfl, rfl, _, rfl, ite2 (fun e => ?_) (fun e => ⟨rfl, s4, L4.eq fun t _ => (if_neg (fun z => e (decide_eq_true (e8.mpr z)))).symm, iD⟩)⟩
          have i8 : i = 8 := e8.mp (of_decide_eq_true e)
          subst i8
          obtain ⟨x0, p0, m0, e0⟩ := hat 0 (by omega)
          obtain ⟨x1, p1, m1, e1⟩ := hat 1 (by omega)
          obtain ⟨x2, p2, m2, e2⟩ := hat 2 (by omega)
          have nD : ∀ {x}, x ∈ hs → D ≠ x := fun hx z => dn (by rw [z]; exact .tail _ hx)
          obtain ⟨as0, g0, r0⟩ := L4.rows 0 x0 p0
          have q0 : as0.length ≤ 60 := by rw [r0.length]; exact len 0
          refine ⟨_, rfl, l, _, 0, .ref x0, rfl, rfl, SqL.of L4.ls, e0, .inl ⟨rfl, _, SqL.of g0⟩, _, rfl, x0, _, _, rfl, rfl, g0, lt_line (by rw [List.length_map]; omega), ?_⟩
          have L5 := L4.app p0 g0 r0 iD dn
          have s5 := same_upd (o := .lst (as0.map V.ref ++ [V.ref D])) s4 (hsn x0 m0)
          have i5 : upd H4 x0 (.lst (as0.map V.ref ++ [V.ref D])) D = some (.lst ((eR n m).map V.int)) := by rw [upd_ne (nD m0)]; exact iD
          generalize upd H4 x0 (.lst (as0.map V.ref ++ [V.ref D])) = H5 at L5 s5 i5 ⊢
          obtain ⟨as1, g1, r1⟩ := L5.rows 1 x1 p1
          have q1 : as1.length ≤ 60 := by rw [r1.length]; exact len 1
          refine ⟨_, rfl, l, _, 1, .ref x1, rfl, rfl, SqL.of L5.ls, e1, .inl ⟨rfl, _, SqL.of g1⟩, ?_⟩
          refine ⟨_, rfl, n, rfl, by omega, by omega, fun D1 hD1 => lc_it (walk_range (lo := 0) (n := ((n : Nat) : Int).toNat)) (fun t H' => H' = upd H5 D1 (.lst (((List.range t).map fun j => if j = m + 1 then (1 : Int) else 0).map V.int))) rfl (fun _ _ _ _ => trivial) ?_ ?_⟩
          · rintro t v Ha Hb ht rfl ⟨rfl, rfl⟩
            refine ⟨rfl, yes_if ?_⟩
            refine ⟨_, rfl, _, rfl, _, _, rfl, rfl, rfl, .inr ⟨_, rfl, _, upd_same, lt_line (by rw [List.length_map, List.length_map, List.length_range]; omega), ?_⟩⟩
            rw [upd_upd, List.range_succ, List.map_append, List.map_append]
            have := unit_at (t := t) (i := m + 1)
            rw [show V.int (0 + ((m + 1 : Nat) : Int)) = V.int ((m : Int) + 1) by rw [Int.zero_add]; rfl] at this
            rw [this]
            rfl
          rintro _ rfl
          rw [eR_def]
          have t1 := same_new (o := .lst ((eR n (m + 1)).map V.int)) hD1
          have dn1 := L5.fresh hD1
          have j1 : upd H5 D1 (.lst ((eR n (m + 1)).map V.int)) D1 = some (.lst ((eR n (m + 1)).map V.int)) := upd_same
          have L6 := L5.same t1
          have s6 := s5.trans t1
          have i6 := t1 _ _ i5
          have g1' := t1 _ _ g1
          have r1' := r1.same t1
          generalize upd H5 D1 (.lst ((eR n (m + 1)).map V.int)) = H6 at t1 j1 L6 s6 i6 g1' r1' ⊢
          refine ⟨x1, _, _, rfl, rfl, g1', lt_line (by rw [List.length_map]; omega), ?_⟩
          have L7 := L6.app p1 g1' r1' j1 dn1
          have s7 := same_upd (o := .lst (as1.map V.ref ++ [V.ref D1])) s6 (hsn x1 m1)
          have i7 : upd H6 x1 (.lst (as1.map V.ref ++ [V.ref D1])) D = some (.lst ((eR n m).map V.int)) := by rw [upd_ne (nD m1)]; exact i6
          generalize upd H6 x1 (.lst (as1.map V.ref ++ [V.ref D1])) = H7 at L7 s7 i7 ⊢
          obtain ⟨as2, g2, r2⟩ := L7.rows 2 x2 p2
          have q2 : as2.length ≤ 60 := by rw [r2.length]; exact len 2
          refine ⟨_, rfl, l, _, 2, .ref x2, rfl, rfl, SqL.of L7.ls, e2, .inl ⟨rfl, _, SqL.of g2⟩, ?_⟩
          refine ⟨_, rfl, n, rfl, by omega, by omega, fun D2 hD2 => lc_it (walk_range (lo := 0) (n := ((n : Nat) : Int).toNat)) (fun t H' => H' = upd H7 D2 (.lst (((List.range t).map fun j => if j = m ∨ j = m + 1 then (1 : Int) else 0).map V.int))) rfl (fun _ _ _ _ => trivial) ?_ ?_⟩
          · rintro t v Ha Hb ht rfl ⟨rfl, rfl⟩
            refine ⟨rfl, yes_if ?_⟩
            have hlt : (List.map V.int (List.map (fun j => if j = m ∨ j = m + 1 then (1 : Int) else 0) (List.range t))).length < sizeLine := lt_line (by rw [List.length_map, List.length_map, List.length_range]; omega)
            refine ⟨_, rfl, _, rfl, rfl, _, rfl, ite2 (fun z => ?_) (fun z => ?_)⟩
            · have tm : t = m := by
                have := V.int.inj (of_decide_eq_true z)
                omega
              refine .inr ⟨_, rfl, _, upd_same, hlt, ?_⟩
              rw [upd_upd, List.range_succ, List.map_append, List.map_append]
              simp only [List.map_cons, List.map_nil, tm, true_or, if_true]
            · have tm : t ≠ m := fun e => z (decide_eq_true (by rw [e]; show V.int (0 + (m : Int)) = V.int m; rw [Int.zero_add]))
              refine ⟨_, rfl, _, rfl, _, _, rfl, rfl, rfl, .inr ⟨_, rfl, _, upd_same, hlt, ?_⟩⟩
              rw [upd_upd, List.range_succ, List.map_append, List.map_append]
              have := unit_at (t := t) (i := m + 1)
              rw [show V.int (0 + ((m + 1 : Nat) : Int)) = V.int ((m : Int) + 1) by rw [Int.zero_add]; rfl] at this
              rw [this]
              simp only [List.map_cons, List.map_nil, tm, false_or]
          rintro _ rfl
          rw [eRR_def]
          have t2 := same_new (o := .lst ((eRR n m).map V.int)) hD2
          have dn2 := L7.fresh hD2
          have j2 : upd H7 D2 (.lst ((eRR n m).map V.int)) D2 = some (.lst ((eRR n m).map V.int)) := upd_same
          have L8 := L7.same t2
          have r2' := r2.same t2
          have s8 := s7.trans t2
          have i8 := t2 _ _ i7
          have g2' := t2 _ _ g2
          generalize upd H7 D2 (.lst ((eRR n m).map V.int)) = H8 at t2 j2 L8 r2' s8 i8 g2' ⊢
          refine ⟨x2, _, _, rfl, rfl, g2', lt_line (by rw [List.length_map]; omega), ?_⟩
          refine ⟨rfl, same_upd s8 (hsn x2 m2), (L8.app p2 g2' r2' j2 dn2).eq fun t ht => ?_, by rw [upd_ne (nD m2)]; exact i8⟩
          rw [if_pos rfl, snoc t]
          match t, ht with
          | 0, _ => rw [blk_pl0]; rfl
          | 1, _ => rw [blk_pl1]; rfl
          | 2, _ => rw [blk_pl2]; rfl
        rintro _ H5 ⟨rfl, s5, L5, iD5⟩
        refine ⟨3, rfl, by omega, by omega, for_range (lo := 0) (n := (3 : Int).toNat) (fun t σ H' => ∃ z7 : Option V, σ = [some (.int (n : Nat)), some (.ref c), some (.ref l), some (.int (m : Nat)), some (.int (0 + (i : Int))), some (.int (0 + (j : Int))), some (.ref D), z7, none] ∧ Same H H' ∧ Hx H' l hs (fun s => if i = 8 then R' (97 + s) else if s < t then R' (97 + s) else R (97 + s)) ∧ H' D = some (.lst ((eR n m).map V.int))) ⟨z7, rfl, s5, L5.eq (fun t _ => by simp), iD5⟩ ?_ ?_⟩
        · rintro t σ H6 ht ⟨z7', rfl, s6, L6, i6⟩
          have ht3 : t < 3 := ht
          have zt : (0 : Int) + (t : Int) = (t : Nat) := by omega
          refine ⟨fun σ H' => σ = [some (.int (n : Nat)), some (.ref c), some (.ref l), some (.int (m : Nat)), some (.int (0 + (i : Int))), some (.int (0 + (j : Int))), some (.ref D), some (.int (0 + (t : Int))), none] ∧ Same H H' ∧ Hx H' l hs (fun s => if i = 8 then R' (97 + s) else if s < t + 1 then R' (97 + s) else R (97 + s)) ∧ H' D = some (.lst ((eR n m).map V.int)), ?_, fun σ G h => ⟨_, h.1, h.2.1, h.2.2.1, h.2.2.2⟩⟩
          refine ⟨_, rfl, _, _, rfl, rfl, _, rfl, ite2 (fun e => ?_) (fun e => ⟨rfl, s6, L6.eq (fun s _ => ?_), i6⟩)⟩
          · have i8 : i < 8 := by
              have := of_decide_eq_true e
              omega
            obtain ⟨z, hz⟩ := strs8 i i8
            obtain ⟨ch, hch⟩ := abc3 t ht3
            refine ⟨(by show 8 ≤ sizeLine; decide), fun q hq => ⟨_, rfl, q, _, _, .str z, rfl, rfl, SqL.of upd_same, (by rw [zi]; exact hz), (show "str" = "str" from rfl), ?_⟩⟩
            have sq := same_new (o := .lst [V.str "", .str "a", .str "b", .str "c", .str "ab", .str "ac", .str "bc", .str "abc"]) hq
            have L7 := L6.same sq
            have s7 := s6.trans sq
            have i7 := sq _ _ i6
            refine ⟨_, rfl, "abc", _, _, rfl, rfl, (by show 3 ≤ sizeLine; decide), by rw [zt]; exact hch, _, _, rfl, rfl, _, _, rfl, rfl, _, rfl, ?_⟩
            have i8n : i ≠ 8 := by omega
            refine ite2 (fun e2 => ?_) (fun e2 => ⟨rfl, s7, L7.eq (fun s hs3 => ?_), i7⟩)
            · obtain ⟨x, px, mx, ex⟩ := hat t ht3
              obtain ⟨as, g, q1⟩ := L7.rows t x px
              have kt := (cnt_blk (n := n) (m := m) i8 ht3 hz hch).1 (of_decide_eq_true e2)
              have q0 : as.length ≤ 60 := by
                have e := q1.length
                simp only [i8n, if_false, Nat.lt_irrefl] at e
                rw [e]
                exact len t
              refine ⟨_, rfl, _, rfl, l, _, _, .ref x, rfl, rfl, SqL.of L7.ls, by rw [zt]; exact ex, .inl ⟨rfl, _, SqL.of g⟩, _, rfl, x, _, _, rfl, rfl, g, lt_line (by rw [List.length_map]; omega), ?_⟩
              refine ⟨rfl, same_upd s7 (hsn x mx), (L7.app px g q1 i7 dn).eq fun s hs3 => ?_, by rw [upd_ne (fun z => dn (by rw [z]; exact .tail _ mx))]; exact i7⟩
              simp only [i8n, if_false]
              by_cases hst : s = t
              · subst hst
                rw [if_pos rfl, if_neg (Nat.lt_irrefl _), if_pos (Nat.lt_succ_self _), snoc, kt]
              · rw [if_neg hst]
                by_cases h : s < t
                · rw [if_pos h, if_pos (by omega)]
                · rw [if_neg h, if_neg (by omega)]
            · have kt := (cnt_blk (n := n) (m := m) i8 ht3 hz hch).2 (fun h => e2 (decide_eq_true h))
              simp only [i8n, if_false]
              by_cases h : s < t
              · rw [if_pos h, if_pos (by omega)]
              · rw [if_neg h]
                by_cases hst : s = t
                · subst hst
                  rw [if_pos (by omega), snoc, kt, List.append_nil]
                · rw [if_neg (by omega)]
          · have i8 : i = 8 := by
              have : ¬ (0 + (i : Int) < 8) := fun h => e (decide_eq_true h)
              omega
            simp only [i8, if_true]
        · rintro σ H6 ⟨z7', rfl, s6, L6, i6⟩
          refine ⟨_, rfl, _, _, rfl, rfl, _, rfl, rfl, .inr ⟨_, rfl, _, _, rfl, rfl, ?_⟩⟩
          have em : (m : Int) + 1 + (if decide (V.int (0 + (i : Int)) = V.int 8) = true then 1 else 0) = (m' : Nat) := by
            rw [tsn]
            by_cases h : i = 8
            · rw [if_pos h, if_pos (decide_eq_true (e8.mpr h))]; omega
            · rw [if_neg h, if_neg (fun z => h (e8.mp (of_decide_eq_true z)))]; omega
          dsimp only
          rw [em]
          exact ⟨_, _, _, rfl, s6, L6.eq (fun s hs3 => by simp [show s < 3 from hs3])⟩
      · rintro σ H3 ⟨z5, z6, z7, rfl, s3, L3⟩
        rw [zn] at L3 ⊢
        exact ⟨_, _, _, _, rfl, s3, L3⟩
    · rintro σ H2 ⟨z4, z5, z6, z7, rfl, s2, L2⟩
      exact ⟨_, rfl, k H2 l hs s2 L2⟩
end
end KV

set_option Elab.async false
set_option linter.all false
set_option maxRecDepth 100000
set_option maxHeartbeats 4000000
/-! # a list == [] -/
namespace VX
open PySem PySem.Spec PyProof.Rows L2
def rEqLN (K : PySem.W.Frag) : R2 := fun x y H Q => ∃ p q xs, x = .ref p ∧ y = .ref q ∧ SqL K H p xs ∧ SqL K H q [] ∧ Q (.bl xs.isEmpty) H
theorem op_eqLN {X : Cx} (K : PySem.W.Frag) (hu : X.A.units < cLine) (hK : X.K = K := by rfl) : OpR X (compareOp .Eq) (rEqLN K) := by
  subst hK
  intro pins s σ H x y v u Q I rx ry h
  obtain ⟨p, q, xs, rfl, rfl, hp, hq, hQ⟩ := h
  cases (show v = Value.ref p from rx)
  cases (show u = Value.ref q from ry)
  obtain ⟨us, r1, p1, _⟩ := I.list hp
  obtain ⟨ws, r2, p2, _⟩ := I.list hq
  cases r2
  by_cases e : xs.length = 0
  · have e' : xs = [] := List.length_eq_zero_iff.mp e
    subst e'
    cases r1
    refine SeqAt.RcAt.lists (e := fun _ => true) p1.isList p2.isList rfl hu (fun j h1 h2 => absurd h2 (Nat.not_lt_zero j)) _ _ _ _ ?_
    exact ⟨.bl _, H, I, rfl, hQ⟩
  · refine SeqAt.RcAt.lists_lengths p1.isList p2.isList (by rw [List.size_toArray, List.size_toArray, ← r1.length]; simpa using e) hu _ _ _ _ ?_
    refine ⟨.bl _, H, I, ?_, hQ⟩
    cases xs with
    | nil => exact absurd rfl e
    | cons x xs => rfl
end VX

set_option Elab.async false
set_option linter.all false
set_option maxRecDepth 100000
set_option maxHeartbeats 4000000
/-! # inside -/
namespace KV
open PySem PySem.Spec PyProof.Rows L2 VX RX
section
variable {P : Program} {w : World} {K : PySem.W.Frag} {mg : Str → Option Value} {base : Heap} {f : Addr} {fd : FuncData}
theorem wtxt (T : TX K mg) : KX.Txt K mg := ⟨T.toTxt⟩
theorem two_pow : ∀ m ≤ 12, (2 : Int) ^ m ≤ 4096 := by decide
theorem two_P : isP 2 = true := by decide
theorem told_len4 {n : Nat} {b h : List (List Int)} (hn : n ≤ 12) (R1 : Rref 2 n b) (T1 : Told 2 n b h) : h.length ≤ 4096 := by
  have I := invF_ok two_P
  rw [T1.count I R1]
  have h1 := Nat.pow_le_pow_right (n := 2) (by omega) R1.card
  have h2 : ∀ m ≤ 12, (2 : Nat) ^ m ≤ 4096 := by decide
  exact Nat.le_trans h1 (h2 n hn)
/-- the first word's space lies within the second's -/
def Ins (p : Int) (n : Nat) (A B C : List (List Int)) (q : KW.Pr) : Prop := ∀ v, InS p n (valB p n A B C q.1) v → InS p n (valB p n A B C q.2) v
theorem emp_snoc {α : Type} {l : List α} {x : α} : (l ++ [x]).isEmpty = false := by cases l <;> rfl
theorem outs_all {h t : List (List Int)} : (h.filter fun v => decide (v ∉ t)).isEmpty = decide (∀ v ∈ h, v ∈ t) := by
  rw [Bool.eq_iff_iff, List.isEmpty_iff, List.filter_eq_nil_iff, decide_eq_true_iff]
  exact ⟨fun k v m => by simpa using k v m, fun k v m => by simpa using k v m⟩
/-- the five sets of a triple over 2 -/
structure S2 (H : Hp) (e : Addr) (m : Nat) (A B C : List (List Int)) : Prop where
  st : ∃ ds ls, Sets H e 2 m A B C ds ls
  hm : m ≤ 12
  RA : Rref 2 m A
  RB : Rref 2 m B
  RC : Rref 2 m C
theorem S2.same {H H' : Hp} (s : Same H H') {e : Addr} {m : Nat} {A B C : List (List Int)} (h : S2 H e m A B C) : S2 H' e m A B C :=
  ⟨let ⟨ds, ls, g⟩ := h.st; ⟨ds, ls, g.same s⟩, h.hm, h.RA, h.RB, h.RC⟩
def spIns : Sp := fun vs H Q _ => ∃ (e : Addr) (v : V) (q : KW.Pr) (m : Nat) (A B C : List (List Int)), vs = [.ref e, v] ∧ KX.IsTP H v q ∧ S2 H e m A B C ∧
  ∀ H' b, Same H H' → (b = true ↔ Ins 2 m A B C q) → Q (.bl b) H'
abbrev nIv : List Str := ["_law_sets_here", "_law_pair", "_law_low", "_law_high", "_law_vector_here"]
theorem sc_iv : FnScope nIv ["_law_sets_here", "_law_pair"] (defScope (top iLIn)) := ⟨rfl, rfl, rfl, by decide +kernel, rfl, by decide +kernel, by decide +kernel⟩
theorem g_ins (T : TX K mg) : ∃ fd, FnP K "_law_inside" iLIn (He.ga K "_law_inside") fd ∧ FnOk P w K mg base CX0 16 (He.ga K "_law_inside") fd ["_law_sets_here", "_law_pair"] spIns ∧ Binds K fd ["_law_sets_here", "_law_pair"] [] := by
  obtain ⟨fd, F⟩ := T.def "_law_inside" iLIn
  obtain ⟨fdLv, FLv⟩ := T.def "_law_value" iLValue
  have GLv : FnOk P w K mg base CX0 15 _ fdLv ["_law_p", "_law_sets_here", "_law_tree_here"] (spLV 10) := ok_lv FLv T 10
  have BLv : Binds K fdLv ["_law_p", "_law_sets_here", "_law_tree_here"] [] := FLv.bindsN fun _ _ _ _ _ _ us hl => match us, hl with | [_, _, _], _ => rfl
  refine ⟨fd, F, F.ok sc_iv (fun vs H Q E h => ?_) (fun cdv A outer s H vs Q E hr h => ?_), F.bindsN fun _ _ _ _ _ _ us hl => match us, hl with | [_, _], _ => rfl⟩
  · obtain ⟨e, v, q, m, A, B, C, rfl, _⟩ := h
    rfl
  · obtain ⟨e, v, q, m, A, B, C, rfl, htp, S, k⟩ := h
    obtain ⟨ta, u, z, rfl, hta, hu1, hz1, du, dz⟩ := htp
    have nd := sc_iv.nd
    have hu := hu_of hr
    have hu0 := hr.units0
    have hr15 : Room 15 _ := hr.mono (by decide)
    refine ⟨_, PSs.nox (pss_cons (ps_set (i := 2) nd rfl (.inl rfl) (pe_call GLv hr15 (by rfl) (T.df "_law_value" iLValue) FLv.kp BLv .nil pass0 (pa_cons pe_int (pa_cons (pv 0) (pa_cons (pe_ix ix_tup (pv 1) pe_int (fun _ _ => rfl)) pa_nil))))) (pss_cons (ps_set (i := 3) nd rfl (.inr rfl) (pe_call GLv hr15 (by rfl) (T.df "_law_value" iLValue) FLv.kp BLv .nil pass0 (pa_cons pe_int (pa_cons (pv 0) (pa_cons (pe_ix ix_tup (pv 1) pe_int (fun _ _ => rfl)) pa_nil))))) (pss_one (ps_ret (pe_cmpR (op_eqLN K hu0) (pe_lc (own := [("_law_vector_here", 4)]) (g := gName 4) (by rfl) nd (pi_list (pe_callTy (call_list_dT rfl) (by rfl) (T.fr "list") (by decide +kernel) (pa_cons (pv 2) pa_nil))) (blkOk_by (own := [("_law_vector_here", 4)]) (N := nIv) (sc := defScope (top iLIn)) (by decide +kernel)) (fun _ _ _ _ _ => pg_name (i := 4) nd rfl (Or.inl rfl)) (fun _ _ _ _ _ => pts_one (pt_cmp (pc_dnotin hu (pv 4) (pv 3)) rfl)) (fun _ _ _ _ _ => pv 4)) (pe_lst pa_nil) (nomark _)))))), ?_⟩
    obtain ⟨ds, ls, hS⟩ := S.st
    have II := invF_ok two_P
    have hp6 : (2 : Int) ^ m ≤ 1000000 := by have := two_pow m S.hm; omega
    refine ⟨_, rfl, _, rfl, ta, _, 0, _, rfl, rfl, SqT.of hta, rfl, e, u, q.1, 2, m, A, B, C, ds, ls, rfl, hu1, du, hS, two_P, S.hm, hp6, S.RA, S.RB, S.RC, fun H1 d1 hh s1 hd1 T1 => ?_⟩
    refine ⟨_, rfl, _, rfl, ta, _, 1, _, rfl, rfl, SqT.of (s1 _ _ hta), rfl, e, z, q.2, 2, m, A, B, C, ds, ls, rfl, hz1.same s1, dz, hS.same s1, two_P, S.hm, hp6, S.RA, S.RB, S.RC, fun H2 d2 t s2 hd2 T2 => ?_⟩
    have hsz := told_len4 S.hm (valB_rref two_P S.RA S.RB S.RC q.1) T1
    have hd1 := s2 _ _ hd1
    have s12 := s1.trans s2
    refine ⟨_, rfl, d1, kvsOf hh, rfl, Rd.of hd1, fun q' bs hq hks => ?_⟩
    have hrows : AreRows H2 bs hh := rows_keys hks
    have sQ : Same H2 (upd H2 q' (.lst (bs.map V.ref))) := same_new hq
    have rQ := hrows.same sQ
    have qQ : upd H2 q' (.lst (bs.map V.ref)) q' = some (.lst (bs.map V.ref)) := upd_same
    generalize upd H2 q' (.lst (bs.map V.ref)) = G at sQ rQ qQ
    have hbl := rQ.length
    refine ⟨q', rfl, ⟨_, SqL.of qQ⟩, fun D hD => lc_it (walk_list (K := K) (a := q') (xs := bs.map V.ref)) (fun i H' => Same G H' ∧ ∃ zs : List V, H' D = some (.lst zs) ∧ zs.length ≤ i ∧ zs.isEmpty = ((hh.take i).filter fun v => decide (v ∉ t)).isEmpty) ⟨same_new hD, [], upd_same, Nat.le_refl _, rfl⟩ (fun i H' _ z => SqL.of (z.1 _ _ qQ)) ?_ ?_⟩
    · rintro i v Ha Hb hi ⟨sm, zs, hz, hzl, he⟩ ⟨rfl, hv⟩
      obtain ⟨b, hb, rfl⟩ := refs_at hv
      obtain ⟨r, hr', hrb⟩ := rQ.get hb
      have hi' : i < hh.length := (List.getElem?_eq_some_iff.mp hr').1
      refine ⟨rfl, _, rfl, _, rfl, d2, _, rfl, DGet.t (sm _ _ (sQ _ _ hd2)) (key_eq (sm _ _ hrb)), _, rfl, ?_⟩
      rw [valK_kvs]
      refine ite2 (fun c => ?_) (fun c => ?_)
      · have hin : r ∉ t := by simpa using c
        refine ⟨_, rfl, _, hz, lt_line (by omega), Same.grow sm hD, zs ++ [.ref b], by rw [upd_same], by rw [List.length_append, List.length_singleton]; omega, ?_⟩
        rw [filter_more hr', if_pos (decide_eq_true hin), emp_snoc, emp_snoc]
      · have hin : r ∈ t := by simpa using c
        refine ⟨sm, zs, hz, by omega, ?_⟩
        rw [filter_more hr', if_neg (by simpa using hin), List.append_nil]
        exact he
    · rintro H3 ⟨sm, zs, hz, hzl, he⟩
      rw [List.length_map, hbl, List.take_length, outs_all] at he
      refine ⟨(by show 0 ≤ sizeLine; decide), fun e he' => ⟨D, e, zs, rfl, rfl, SqL.of ((same_new he') _ _ hz), SqL.of upd_same, ?_⟩⟩
      rw [he]
      refine k _ _ (s12.trans ((sQ.trans sm).trans (same_new he'))) ?_
      rw [decide_eq_true_iff]
      exact ⟨fun h v i => (T2.mem v).mp (h v ((T1.mem v).mpr i)), fun h v i => (T2.mem v).mpr (h v ((T1.mem v).mp i))⟩
end
end KV

set_option Elab.async false
set_option linter.all false
set_option maxRecDepth 100000
set_option maxHeartbeats 4000000
/-! # facts, in a triple -/
namespace KV
open PySem PySem.Spec PyProof.Rows L2 VX RX
section
variable {P : Program} {w : World} {K : PySem.W.Frag} {mg : Str → Option Value} {base : Heap} {f : Addr} {fd : FuncData}
open RX KW
theorem mtp {x y : Str} {i : Nat} (e : ("Facts." : Str) ++ x = y) {f : Addr} (h : ∃ fd, FunD K x y (defArgs (KX.sF i)) (defBody (KX.sF i)) (defScope (KX.sF i)) [] [] f fd) : ∃ fd, KX.MtP K x i f fd := by
  subst e
  exact h
theorem al_mk (T : TX K mg) : KX.Al K where
  d := T.dd.d
  wi := by obtain ⟨⟨fd, F⟩, h⟩ := T.dd.Word_init; exact ⟨fd, _, F, h⟩
  wg := T.dd.Word_sign
  wp := T.dd.Word_parts
  fi := by obtain ⟨⟨fd, F⟩, h1, h2⟩ := T.dd.Facts_init; exact ⟨fd, _, _, F, h1, h2⟩
  m := fun p hp => by
    simp only [KX.fmets, List.mem_cons, List.not_mem_nil, or_false] at hp
    rcases hp with rfl | rfl | rfl | rfl | rfl | rfl | rfl | rfl | rfl | rfl | rfl | rfl
    · exact ⟨T.m_Facts_kinds, mtp (by decide +kernel) T.dd.Facts_kinds⟩
    · exact ⟨T.m_Facts_clashes, mtp (by decide +kernel) T.dd.Facts_clashes⟩
    · exact ⟨T.m_Facts_verdict, mtp (by decide +kernel) T.dd.Facts_verdict⟩
    · exact ⟨T.m_Facts_model, mtp (by decide +kernel) T.dd.Facts_model⟩
    · exact ⟨T.m_Facts_reason, mtp (by decide +kernel) T.dd.Facts_reason⟩
    · exact ⟨T.m_Facts_clash_reason, mtp (by decide +kernel) T.dd.Facts_clash_reason⟩
    · exact ⟨T.m_Facts_shows, mtp (by decide +kernel) T.dd.Facts_shows⟩
    · exact ⟨T.m_Facts__supposed, mtp (by decide +kernel) T.dd.Facts__supposed⟩
    · exact ⟨T.m_Facts__check, mtp (by decide +kernel) T.dd.Facts__check⟩
    · exact ⟨T.m_Facts__paper, mtp (by decide +kernel) T.dd.Facts__paper⟩
    · exact ⟨T.m_Facts__is_paper, mtp (by decide +kernel) T.dd.Facts__is_paper⟩
    · exact ⟨T.m_Facts__is_never, mtp (by decide +kernel) T.dd.Facts__is_never⟩
theorem tt_wf {H : Hp} : ∀ {t : Tr} {v : V}, KX.IsTT H v t → WF t = true
  | .lf c, _, h => h.1
  | .nd c l r, _, h => by
    obtain ⟨j, a, u, z, _, _, h2, h3⟩ := h
    simp only [WF, j, tt_wf h2, tt_wf h3, Bool.and_self]
/-- both words are words -/
def WFp (q : Pr) : Prop := WF q.1 = true ∧ WF q.2 = true
theorem tp_wf {H : Hp} {v : V} {q : Pr} (h : KX.IsTP H v q) : WFp q := by
  obtain ⟨a, u, z, _, _, h1, h2, _⟩ := h
  exact ⟨tt_wf h1, tt_wf h2⟩
theorem tps_wf {H : Hp} {vs : List V} {ps : List Pr} (h : KX.IsTPs H vs ps) : ∀ q ∈ ps, WFp q := fun q hq => by
  obtain ⟨i, hi⟩ := List.mem_iff_getElem?.mp hq
  have hi' : i < vs.length := by rw [h.1]; exact (List.getElem?_eq_some_iff.mp hi).1
  exact tp_wf (h.2 i _ q (List.getElem?_eq_getElem hi') hi)
section
variable {n : Nat} {A B C : List (List Int)}
theorem mem_op {ps : List Pr} {k : List Nat} : k ∈ opK ps ↔ k ∈ kinds ∧ ∀ q ∈ ps, won k q = true := by
  unfold opK okK
  rw [List.mem_filter, List.all_eq_true]
theorem all_won {ks : List (List Nat)} {q : Pr} : allW ks q = true ↔ ∀ k ∈ ks, won k q = true := by
  unfold allW
  rw [List.all_eq_true]
/-- within on all kinds where facts that hold here hold: within here -/
theorem open_ins (RA : Rref 2 n A) (RB : Rref 2 n B) (RC : Rref 2 n C) {ps : List Pr} {q : Pr} (hps : ∀ x ∈ ps, WFp x) (hq : WFp q) (near : ∀ x ∈ ps, Ins 2 n A B C x) (h : allW (opK ps) q = true) : Ins 2 n A B C q := fun v i => by
  have I := invF_ok two_P
  have h := all_won.mp h
  rw [valB_I] at i ⊢
  refine words_leF (F := ps) I (fun v r => units_all two_P r) (wholeB_rref two_P) RA RB RC ⟨hq.1, hq.2, hps, fun k hk f => h k (mem_op.mpr ⟨(by decide : ∀ k ∈ DX.K8, k ∈ kinds) k hk, f⟩), fun f => h PL (mem_op.mpr ⟨by decide, f⟩)⟩ (fun x hx w hw => ?_) v i
  have := near x hx w
  rw [valB_I, valB_I] at this
  exact this hw
theorem no_clash (RA : Rref 2 n A) (RB : Rref 2 n B) (RC : Rref 2 n C) {ps qs : List Pr} (hps : ∀ x ∈ ps, WFp x) (hqs : ∀ x ∈ qs, WFp x) (near : ∀ x ∈ ps, Ins 2 n A B C x) (far : ∀ x ∈ qs, ¬ Ins 2 n A B C x) : clB ps qs = false := by
  rw [Bool.eq_false_iff]
  intro h
  obtain ⟨q, hq, hw⟩ := List.any_eq_true.mp h
  exact far q hq (open_ins RA RB RC hps (hqs q hq) near hw)
theorem vd_ok (RA : Rref 2 n A) (RB : Rref 2 n B) (RC : Rref 2 n C) {ps qs : List Pr} {p : Pr} (hps : ∀ x ∈ ps, WFp x) (hqs : ∀ x ∈ qs, WFp x) (hp : WFp p) (near : ∀ x ∈ ps, Ins 2 n A B C x) (far : ∀ x ∈ qs, ¬ Ins 2 n A B C x) :
    (vd ps qs p = .sure → Ins 2 n A B C p) ∧ (vd ps qs p = .barred → ¬ Ins 2 n A B C p) := by
  have nc := no_clash RA RB RC hps hqs near far
  constructor
  · intro h
    have e := vd_out (p := p) nc
    rw [clB_out, nc, Bool.false_or, h, decide_eq_true rfl] at e
    exact open_ins RA RB RC hps hp near e
  · intro h i
    have e := vd_in (p := p) nc
    rw [h, decide_eq_true rfl] at e
    have := no_clash RA RB RC (ps := ps ++ [p]) (qs := qs) (fun x hx => (List.mem_append.mp hx).elim (hps x) fun m => by rw [List.mem_singleton.mp m]; exact hp) hqs (fun x hx => (List.mem_append.mp hx).elim (near x) fun m => by rw [List.mem_singleton.mp m]; exact i) far
    rw [this] at e
    cases e
end
theorem eR_01 {n j : Nat} : ∀ x ∈ eR n j, x = 0 ∨ x = 1 := fun x hx => by
  obtain ⟨i, _, rfl⟩ := List.mem_map.mp hx
  split
  · exact .inr rfl
  · exact .inl rfl
theorem eRR_01 {n j : Nat} : ∀ x ∈ eRR n j, x = 0 ∨ x = 1 := fun x hx => by
  obtain ⟨i, _, rfl⟩ := List.mem_map.mp hx
  split
  · exact .inr rfl
  · exact .inl rfl
theorem blk_01 {n a : Nat} {k : List Nat} {h : Nat} {r : List Int} (m : r ∈ blk n a k h) : ∀ x ∈ r, x = 0 ∨ x = 1 := by
  rcases blk_cases m with rfl | ⟨_, rfl | rfl⟩
  · exact eR_01
  · exact eR_01
  · exact eRR_01
theorem rows_01 {n : Nat} : ∀ {ks : List (List Nat)} {a h : Nat}, ∀ r ∈ rowsOf n a ks h, ∀ x ∈ r, x = 0 ∨ x = 1
  | [], _, _, _, m => nomatch m
  | _ :: _, _, _, _, m => (List.mem_append.mp m).elim (fun q => blk_01 q) fun q => rows_01 _ q
theorem rows_mod {n a h : Nat} {ks : List (List Nat)} : (rowsOf n a ks h).map (modR 2) = rowsOf n a ks h := by
  refine (List.map_congr_left fun r hr => ?_).trans (List.map_id _)
  unfold modR
  refine (List.map_congr_left fun x hx => ?_).trans (List.map_id _)
  rcases rows_01 r hr x hx with rfl | rfl <;> rfl
theorem rows_span {n h : Nat} {ks : List (List Nat)} (v : List Int) : InS 2 n (Bs 2 (rowsOf n 0 ks h)) v ↔ InS 2 n (rowsOf n 0 ks h) v := by
  have I := invF_ok two_P
  have rows := modR_rows I.pos (rows := rowsOf n 0 ks h) (fun r m => rows_len r m)
  unfold Bs
  rw [reduced_span I rows v, rows_mod]
theorem rows_rref {n h : Nat} {ks : List (List Nat)} : Rref 2 n (Bs 2 (rowsOf n 0 ks h)) := reduced_ok (invF_ok two_P) (modR_rows (invF_ok two_P).pos (fun r m => rows_len r m))
/-- in a triple made of kinds: within is within on each of them -/
theorem built_ins {n : Nat} {ks : List (List Nat)} (hn : total ks = n) {q : Pr} (hq : WFp q) : Ins 2 n (Bs 2 (rowsOf n 0 ks 97)) (Bs 2 (rowsOf n 0 ks 98)) (Bs 2 (rowsOf n 0 ks 99)) q ↔ ∀ k ∈ ks, won k q = true := by
  have I := invF_ok two_P
  have RW := wholeB_rref (n := n) two_P
  have RA := rows_rref (n := n) (h := 97) (ks := ks)
  have RB := rows_rref (n := n) (h := 98) (ks := ks)
  have RC := rows_rref (n := n) (h := 99) (ks := ks)
  have eW : (inP (wholeB 2 n) : Rw 2 n → Prop) = Back 2 n 0 := funext fun v => propext ⟨fun _ i hi => absurd hi (Nat.not_lt_zero _), fun _ => units_all two_P v.2⟩
  have eR : ∀ h, (inP (Bs 2 (rowsOf n 0 ks h)) : Rw 2 n → Prop) = inP (rowsOf n 0 ks h) := fun h => funext fun v => propext (rows_span v.1)
  refine Iff.trans ?_ (kinds_iff (n := n) I hq.1 hq.2 ks 0 (by omega))
  rw [← eW, ← eR 97, ← eR 98, ← eR 99]
  unfold Ins
  rw [valB_I, valB_I]
  constructor
  · intro h v hv
    exact (valI_iff I RW RA RB RC q.2 v).mp (h v.1 ((valI_iff I RW RA RB RC q.1 v).mpr hv))
  · intro h v i
    have r := i.row I.pos (valI_rref I RW RA RB RC q.1).len
    exact (valI_iff I RW RA RB RC q.2 ⟨v, r⟩).mpr (h ⟨v, r⟩ ((valI_iff I RW RA RB RC q.1 ⟨v, r⟩).mp i))
/-- the counts that a model tells -/
def csOf (r : List Pr) : List Int := kinds.map fun k => if okK r k = true then 1 else 0
theorem csOf_at {r : List Pr} : ∀ j < 9, at0 (csOf r) j = if okK r (kA j) = true then 1 else 0 := fun j hj => by
  match j, hj with
  | 0, _ => rfl
  | 1, _ => rfl
  | 2, _ => rfl
  | 3, _ => rfl
  | 4, _ => rfl
  | 5, _ => rfl
  | 6, _ => rfl
  | 7, _ => rfl
  | 8, _ => rfl
theorem csOf_mem {r : List Pr} {k : List Nat} : k ∈ kpre (csOf r) 9 ↔ k ∈ opK r := by
  constructor
  · intro h
    obtain ⟨j, hj, rfl, c⟩ := kpre_mem h
    rw [csOf_at j hj] at c
    unfold opK
    refine List.mem_filter.mpr ⟨kA_mem j hj, ?_⟩
    by_cases e : okK r (kA j) = true
    · exact e
    · rw [if_neg e] at c; exact absurd c (by decide)
  · intro h
    obtain ⟨h1, h2⟩ := List.mem_filter.mp h
    obtain ⟨j, hj⟩ := List.mem_iff_getElem?.mp h1
    have j9 : j < 9 := (List.getElem?_eq_some_iff.mp hj).1
    have e : kA j = k := by unfold kA; rw [List.getD_eq_getElem?_getD, hj]; rfl
    subst e
    refine mem_kpre ?_ j9
    rw [csOf_at j j9, if_pos h2]
    decide
theorem csOf_won {r : List Pr} {q : Pr} : (∀ k ∈ kpre (csOf r) 9, won k q = true) ↔ allW (opK r) q = true := by
  rw [all_won]
  exact ⟨fun h k hk => h k (csOf_mem.mpr hk), fun h k hk => h k (csOf_mem.mp hk)⟩
theorem csOf_total {r : List Pr} : (csOf r).sum + at0 (csOf r) 8 = (total (kpre (csOf r) 9) : Nat) ∧ total (kpre (csOf r) 9) ≤ 12 := by
  have e : ∀ j < 9, ∃ b : Bool, at0 (csOf r) j = if b = true then 1 else 0 := fun j hj => ⟨_, csOf_at j hj⟩
  obtain ⟨b0, h0⟩ := e 0 (by omega)
  obtain ⟨b1, h1⟩ := e 1 (by omega)
  obtain ⟨b2, h2⟩ := e 2 (by omega)
  obtain ⟨b3, h3⟩ := e 3 (by omega)
  obtain ⟨b4, h4⟩ := e 4 (by omega)
  obtain ⟨b5, h5⟩ := e 5 (by omega)
  obtain ⟨b6, h6⟩ := e 6 (by omega)
  obtain ⟨b7, h7⟩ := e 7 (by omega)
  obtain ⟨b8, h8⟩ := e 8 (by omega)
  have es : (csOf r).sum = at0 (csOf r) 0 + (at0 (csOf r) 1 + (at0 (csOf r) 2 + (at0 (csOf r) 3 + (at0 (csOf r) 4 + (at0 (csOf r) 5 + (at0 (csOf r) 6 + (at0 (csOf r) 7 + (at0 (csOf r) 8 + 0)))))))) := rfl
  rw [es, total_kpre, total_kpre, total_kpre, total_kpre, total_kpre, total_kpre, total_kpre, total_kpre, total_kpre, h0, h1, h2, h3, h4, h5, h6, h7, h8]
  simp only [kLen_kA 0 (by omega), kLen_kA 1 (by omega), kLen_kA 2 (by omega), kLen_kA 3 (by omega), kLen_kA 4 (by omega), kLen_kA 5 (by omega), kLen_kA 6 (by omega), kLen_kA 7 (by omega), kLen_kA 8 (by omega), kpre, total]
  have z : ∀ b : Bool, (if b = true then (1 : Int) else 0).toNat ≤ 1 ∧ (if b = true then (1 : Int) else 0) = ((if b = true then (1 : Int) else 0).toNat : Nat) := by decide
  have z0 := z b0
  have z1 := z b1
  have z2 := z b2
  have z3 := z b3
  have z4 := z b4
  have z5 := z b5
  have z6 := z b6
  have z7 := z b7
  have z8 := z b8
  generalize (if b0 = true then (1 : Int) else 0) = c0 at *
  generalize (if b1 = true then (1 : Int) else 0) = c1 at *
  generalize (if b2 = true then (1 : Int) else 0) = c2 at *
  generalize (if b3 = true then (1 : Int) else 0) = c3 at *
  generalize (if b4 = true then (1 : Int) else 0) = c4 at *
  generalize (if b5 = true then (1 : Int) else 0) = c5 at *
  generalize (if b6 = true then (1 : Int) else 0) = c6 at *
  generalize (if b7 = true then (1 : Int) else 0) = c7 at *
  generalize (if b8 = true then (1 : Int) else 0) = c8 at *
  constructor <;> simp <;> omega
end
end KV

set_option Elab.async false
set_option linter.all false
set_option maxRecDepth 100000
set_option maxHeartbeats 4000000
/-! # model right -/
namespace KV
open PySem PySem.Spec PyProof.Rows L2 VX RX
section
variable {P : Program} {w : World} {K : PySem.W.Frag} {mg : Str → Option Value} {base : Heap} {f : Addr} {fd : FuncData}
open RX KW
theorem near_all {r ps : List Pr} (h : ∀ q ∈ ps, q ∈ r) : ∀ q ∈ ps, allW (opK r) q = true := fun q hq => all_won.mpr fun k hk => (mem_op.mp hk).2 q (h q hq)
theorem far_all {ks : List (List Nat)} {qs : List Pr} (h : qs.any (allW ks) = false) : ∀ q ∈ qs, allW ks q = false := fun q hq => by
  rw [Bool.eq_false_iff]
  intro e
  have := List.any_eq_true.mpr ⟨q, hq, e⟩
  rw [h] at this
  cases this
theorem sup_in {ps : List Pr} {p : Pr} {b : Bool} : ∀ q ∈ ps, q ∈ KX.supP ps p b := fun q hq => by
  cases b with
  | true => exact List.mem_append_left _ hq
  | false => exact hq
theorem Hx.tab3 {H : Hp} {l : Addr} {hs : List Addr} {R : Nat → List (List Int)} {n : Nat} (h : Hx H l hs R) (hl : ∀ t < 3, Len n (R t)) : TabI H n hs [R 0, R 1, R 2] := by
  have h3 := h.three
  match hs, h3, h with
  | [x, y, z], _, h =>
    obtain ⟨as, h1, h2⟩ := h.rows 0 x rfl
    obtain ⟨bs, g1, g2⟩ := h.rows 1 y rfl
    obtain ⟨cs, f1, f2⟩ := h.rows 2 z rfl
    exact .cons h1 h2.ints (hl 0 (by decide)) (.cons g1 g2.ints (hl 1 (by decide)) (.cons f1 f2.ints (hl 2 (by decide)) .nil))
def spMr : Sp := fun vs H Q _ => ∃ (l lf d : Addr) (v : V) (b : Bool) (xs us : List V) (ps qs r : List Pr) (p : Pr), vs = [.ref l, .ref lf, v, .ref d, .bl b] ∧ H l = some (.lst xs) ∧ KX.IsTPs H xs ps ∧ H lf = some (.lst us) ∧ KX.IsTPs H us qs ∧ KX.IsTP H v p ∧ H d = some (.dK (KX.dictK (KX.modK r))) ∧
  (∀ q ∈ ps, q ∈ r) ∧ qs.any (allW (opK r)) = false ∧ allW (opK r) p = b ∧ ∀ H', Same H H' → Q (.bl true) H'
abbrev nMr : List Str := ["_law_near", "_law_far", "_law_pair", "_law_told", "_law_side", "_law_counts_here", "_law_size_here", "_law_sets_here", "_law_kind", "_law_one"]
theorem sc_mr : FnScope nMr ["_law_near", "_law_far", "_law_pair", "_law_told", "_law_side"] (defScope (top iLMr)) := ⟨rfl, rfl, rfl, by decide +kernel, rfl, by decide +kernel, by decide +kernel⟩
theorem g_mr (T : TX K mg) : ∃ fd, FnP K "_law_model_right" iLMr (He.ga K "_law_model_right") fd ∧ FnOk P w K mg base CX0 17 (He.ga K "_law_model_right") fd ["_law_near", "_law_far", "_law_pair", "_law_told", "_law_side"] spMr ∧ Binds K fd ["_law_near", "_law_far", "_law_pair", "_law_told", "_law_side"] [] := by
  obtain ⟨fd, F⟩ := T.def "_law_model_right" iLMr
  obtain ⟨_, FSe, GSe, BSe⟩ := g_sets (P := P) (w := w) (base := base) T
  obtain ⟨_, FBu, GBu, BBu⟩ := g_builtX (P := P) (w := w) (base := base) T
  obtain ⟨_, FIn, GIn, BIn⟩ := g_ins (P := P) (w := w) (base := base) T
  refine ⟨fd, F, F.ok sc_mr (fun vs H Q E h => ?_) (fun cdv A outer s H vs Q E hr h => ?_), F.bindsN fun _ _ _ _ _ _ us hl => match us, hl with | [_, _, _, _, _], _ => rfl⟩
  · obtain ⟨l, lf, d, v, b, xs, us, ps, qs, r, p, rfl, _⟩ := h
    rfl
  · obtain ⟨l, lf, d, v, b, xs, us, ps, qs, r, p, rfl, hl, hps, hlf, hqs, hp, hd, hin, hno, hpb, k⟩ := h
    have nd := sc_mr.nd
    have hu := hu_of hr
    have hu0 := hr.units0
    have hr1 : Room 1 _ := hr.mono (by decide)
    have hr4 : Room 4 _ := hr.mono (by decide)
    refine ⟨_, PSs.nox (pss_cons (ps_setLc (i := 5) (own := [("_law_kind", 8)]) (g := gName 8) (by rfl) nd rfl rfl (sw_true rfl rfl rfl (by decide +kernel)) (pi_list (pe_lst (pa_cons pe_str (pa_cons pe_str (pa_cons pe_str (pa_cons pe_str (pa_cons pe_str (pa_cons pe_str (pa_cons pe_str (pa_cons pe_str (pa_cons pe_str pa_nil))))))))))) (blkOk_by (own := [("_law_kind", 8)]) (N := nMr) (sc := defScope (top iLMr)) (by decide +kernel)) (fun _ _ _ _ _ => pg_name (i := 8) nd rfl (Or.inl rfl)) (fun _ _ _ _ _ => pts_nil) (fun _ _ _ _ _ => pe_dget hu (pv 3) (pv 8) (fun _ _ => rfl))) (pss_cons (ps_set (i := 6) nd rfl (.inl rfl) (pe_op op_add (pe_callB (cr_sum rfl) (by rfl) (T.fr "sum") (by decide +kernel) (pa_cons (pv 5) pa_nil)) (pe_ix ix_list (pv 5) pe_int (fun _ _ => rfl)))) (pss_cons (ps_set (i := 7) nd rfl (.inr rfl) (pe_call GSe hr4 (by rfl) (T.df "_law_sets" iLSets) FSe.kp BSe .nil pass0 (pa_cons pe_int (pa_cons (pv 6) (pa_cons (pe_call GBu hr1 (by rfl) (T.df "_law_built" iLBuilt) FBu.kp BBu .nil pass0 (pa_cons (pv 6) (pa_cons (pv 5) pa_nil))) pa_nil))))) (pss_cons (ps_if (pt_cmpR (op_neN K hu0) (pe_lc (own := [("_law_one", 9)]) (g := gName 9) (by rfl) nd (pi_list (pv 0)) (blkOk_by (own := [("_law_one", 9)]) (N := nMr) (sc := defScope (top iLMr)) (by decide +kernel)) (fun _ _ _ _ _ => pg_name (i := 9) nd rfl (Or.inl rfl)) (fun _ _ _ _ _ => pts_one (pt_not (pt_val (pe_call GIn hr (by rfl) (T.df "_law_inside" iLIn) FIn.kp BIn .nil pass0 (pa_cons (pv 7) (pa_cons (pv 9) pa_nil)))))) (fun _ _ _ _ _ => pv 9)) (pe_lst pa_nil) (nomark _)) (pss_one (ps_ret pe_bl)) pss_nil) (pss_cons (ps_if (pt_cmpR (op_neN K hu0) (pe_lc (own := [("_law_one", 9)]) (g := gName 9) (by rfl) nd (pi_list (pv 1)) (blkOk_by (own := [("_law_one", 9)]) (N := nMr) (sc := defScope (top iLMr)) (by decide +kernel)) (fun _ _ _ _ _ => pg_name (i := 9) nd rfl (Or.inl rfl)) (fun _ _ _ _ _ => pts_one (pt_val (pe_call GIn hr (by rfl) (T.df "_law_inside" iLIn) FIn.kp BIn .nil pass0 (pa_cons (pv 7) (pa_cons (pv 9) pa_nil))))) (fun _ _ _ _ _ => pv 9)) (pe_lst pa_nil) (nomark _)) (pss_one (ps_ret pe_bl)) pss_nil) (pss_one (ps_ret (pe_cmpR op_eq (pe_call GIn hr (by rfl) (T.df "_law_inside" iLIn) FIn.kp BIn .nil pass0 (pa_cons (pv 7) (pa_cons (pv 2) pa_nil))) (pv 4) (nomark _))))))))), ?_⟩
    refine ⟨(by show 9 ≤ sizeLine; decide), fun q hq => ⟨q, rfl, ⟨_, SqL.of upd_same⟩, fun D hD => lc_it (walk_list (K := K) (a := q) (xs := KX.kindV)) (fun i H' => Same (upd H q (.lst KX.kindV)) H' ∧ H' D = some (.lst (((csOf r).take i).map V.int))) ⟨same_new hD, upd_same⟩ (fun i H' _ z => SqL.of (z.1 _ _ upd_same)) ?_ ?_⟩⟩
    · rintro i v Ha Hb hi ⟨sm, hz⟩ ⟨rfl, hv⟩
      obtain ⟨kd, hk, rfl⟩ := KX.kind_at hv
      refine ⟨rfl, yes_if ?_⟩
      have hd' := sm _ _ (same_new (o := .lst KX.kindV) hq _ _ hd)
      have hci : (csOf r)[i]? = some (if okK r kd = true then 1 else 0) := by unfold csOf; rw [List.getElem?_map, hk]; rfl
      refine ⟨_, rfl, _, rfl, d, _, rfl, KX.get_of hd' hk, _, hz, lt_line (by rw [List.length_map, List.length_take]; have : (csOf r).length = 9 := rfl; omega), Same.grow sm hD, ?_⟩
      rw [upd_same, List.take_succ, hci, List.map_append]
      rfl
    rintro H1 ⟨s1, hc⟩
    have s1 := (same_new (o := .lst KX.kindV) hq).trans s1
    have hc : H1 D = some (.lst ((csOf r).map V.int)) := hc
    obtain ⟨en, hn⟩ := csOf_total (r := r)
    refine ⟨_, rfl, D, csOf r, rfl, SqL.of hc, _, rfl, D, _, 8, _, rfl, rfl, SqL.of hc, atI_int (by omega) (by show (8 : Int) < ((9 : Nat) : Int); decide), _, _, rfl, rfl, ?_⟩
    dsimp only
    rw [show (csOf r).sum + at0 (csOf r) (8 : Int).toNat = ((total (kpre (csOf r) 9) : Nat) : Int) from en]
    have hcs : ∀ x ∈ csOf r, 0 ≤ x ∧ x ≤ 6 := fun x hx => by
      obtain ⟨k, _, rfl⟩ := List.mem_map.mp hx
      split <;> decide
    refine ⟨_, rfl, _, rfl, _, rfl, total (kpre (csOf r) 9), D, csOf r, rfl, hn, hc, rfl, hcs, fun H2 hl2 hs s2 hx => ?_⟩
    have bi := fun q hq => (built_ins (ks := kpre (csOf r) 9) (n := total (kpre (csOf r) 9)) rfl (q := q) hq).trans csOf_won
    have hrl : ∀ t, Len (total (kpre (csOf r) 9)) (rowsOf (total (kpre (csOf r) 9)) 0 (kpre (csOf r) 9) (97 + t)) := fun t => rows_len
    clear en
    generalize kpre (csOf r) 9 = ks at bi hn hrl hx ⊢
    have hn6 : (2 : Int) ^ total ks ≤ 1000000 := by have := two_pow _ hn; omega
    refine ⟨2, total ks, hl2, hs, _, rfl, hx.ls, hx.tab3 (fun t _ => hrl t), (by show 3 ≤ 100; decide), two_P, hn, hn6, fun H3 e ds s3 he hds => ?_⟩
    have S := sets_of two_P (hrl 0) (hrl 1) (hrl 2) he hds
    have S3 : S2 H3 e (total ks) (Bs 2 (rowsOf (total ks) 0 ks 97)) (Bs 2 (rowsOf (total ks) 0 ks 98)) (Bs 2 (rowsOf (total ks) 0 ks 99)) := ⟨⟨_, _, S⟩, hn, rows_rref, rows_rref, rows_rref⟩
    clear S hds he hx
    generalize Bs 2 (rowsOf (total ks) 0 ks 97) = A' at S3 bi
    generalize Bs 2 (rowsOf (total ks) 0 ks 98) = B' at S3 bi
    generalize Bs 2 (rowsOf (total ks) 0 ks 99) = C' at S3 bi
    have s13 := s1.trans (s2.trans s3)
    have hl3 := s13 _ _ hl
    have hlf3 := s13 _ _ hlf
    have hps3 := hps.same s13
    have hqs3 := hqs.same s13
    have hp3 := hp.same s13
    have nall := near_all hin
    have fall := far_all hno
    -- the facts that hold
    refine ⟨_, rfl, l, rfl, ⟨_, SqL.of hl3⟩, fun D2 hD2 => lc_it (walk_list (K := K) (a := l) (xs := xs)) (fun i H' => Same H3 H' ∧ H' D2 = some (.lst [])) ⟨same_new hD2, upd_same⟩ (fun i H' _ z => SqL.of (z.1 _ _ hl3)) ?_ ?_⟩
    · rintro i w Ha Hb hi ⟨sm, hz⟩ ⟨rfl, hw⟩
      obtain ⟨x, hx, htx⟩ := hps3.at hw
      refine ⟨rfl, _, rfl, _, rfl, e, w, x, _, A', B', C', rfl, htx.same sm, S3.same sm, fun Hc b' sc hb' => ⟨_, rfl, ?_⟩⟩
      have bt : b' = true := hb'.mpr ((bi x (tp_wf htx)).mpr (nall x (List.mem_of_getElem? hx)))
      rw [bt]
      exact iteF ⟨sm.trans sc, sc _ _ hz⟩
    rintro H4 ⟨s4, hz4⟩
    refine ⟨(by show 0 ≤ sizeLine; decide), fun e4 he4 => ⟨D2, e4, [], rfl, rfl, SqL.of ((same_new he4) _ _ hz4), SqL.of upd_same, _, rfl, iteF ?_⟩⟩
    have s34 := s4.trans (same_new (o := .lst []) he4)
    generalize upd H4 e4 (.lst []) = H5 at s34 ⊢
    -- the others
    have hlf5 := s34 _ _ hlf3
    have hqs5 := hqs3.same s34
    have S5 := S3.same s34
    refine ⟨_, rfl, lf, rfl, ⟨_, SqL.of hlf5⟩, fun D3 hD3 => lc_it (walk_list (K := K) (a := lf) (xs := us)) (fun i H' => Same H5 H' ∧ H' D3 = some (.lst [])) ⟨same_new hD3, upd_same⟩ (fun i H' _ z => SqL.of (z.1 _ _ hlf5)) ?_ ?_⟩
    · rintro i w Ha Hb hi ⟨sm, hz⟩ ⟨rfl, hw⟩
      obtain ⟨x, hx, htx⟩ := hqs5.at hw
      refine ⟨rfl, _, rfl, _, rfl, e, w, x, _, A', B', C', rfl, htx.same sm, S5.same sm, fun Hc b' sc hb' => ⟨_, rfl, ?_⟩⟩
      have bt : b' = false := by
        rw [Bool.eq_false_iff]
        intro z
        have := (bi x (tp_wf htx)).mp (hb'.mp z)
        rw [fall x (List.mem_of_getElem? hx)] at this
        cases this
      rw [bt]
      exact iteF ⟨sm.trans sc, sc _ _ hz⟩
    rintro H6 ⟨s6, hz6⟩
    refine ⟨(by show 0 ≤ sizeLine; decide), fun e6 he6 => ⟨D3, e6, [], rfl, rfl, SqL.of ((same_new he6) _ _ hz6), SqL.of upd_same, _, rfl, iteF ?_⟩⟩
    have s56 := s6.trans (same_new (o := .lst []) he6)
    generalize upd H6 e6 (.lst []) = H7 at s56 ⊢
    have s37 := s34.trans s56
    refine ⟨_, rfl, _, rfl, e, v, p, _, A', B', C', rfl, hp3.same s37, S5.same s56, fun H8 b' s8 hb' => ⟨_, rfl, rfl, ?_⟩⟩
    have bt : b' = b := by
      rw [Bool.eq_iff_iff, ← hpb]
      exact hb'.trans (bi p (tp_wf hp3))
    rw [bt, decide_eq_true rfl]
    exact k _ (s13.trans (s37.trans s8))
end
end KV

set_option Elab.async false
set_option linter.all false
set_option maxRecDepth 100000
set_option maxHeartbeats 4000000
/-! # the law -/
namespace KV
open PySem PySem.Spec PyProof.Rows L2 VX RX
section
variable {P : Program} {w : World} {K : PySem.W.Frag} {mg : Str → Option Value} {base : Heap} {f : Addr} {fd : FuncData}
open RX KW
theorem cxE0 {X : Cx} : Passes (L2.CX X.prog X.w) X E0 := passes_call takes0 (fun _ _ _ _ h => h)
/-- what the law knows while it draws pairs -/
structure Lw (H : Hp) (b e ln lf : Addr) (N n : Nat) (A B C : List (List Int)) (xs us : List V) (ps qs : List Pr) : Prop where
  bx : BoxK H b N
  s2 : S2 H e n A B C
  hn : H ln = some (.lst xs)
  hps : KX.IsTPs H xs ps
  hf : H lf = some (.lst us)
  hqs : KX.IsTPs H us qs
  near : ∀ x ∈ ps, Ins 2 n A B C x
  far : ∀ x ∈ qs, ¬ Ins 2 n A B C x
  nf : ln ≠ lf
  nb : ln ≠ b
  fb : lf ≠ b
  eb : e ≠ b
  en : e ≠ ln
  ef : e ≠ lf
theorem S2.kept {H H' : Hp} {b e : Addr} {m : Nat} {A B C : List (List Int)} (h : S2 H e m A B C) (k : Kept b H H') (hb : ∃ xs, H b = some (.lst xs)) (ne : e ≠ b) : S2 H' e m A B C :=
  ⟨let ⟨ds, ls, g⟩ := h.st; ⟨ds, ls, k _ _ g.he ne, g.dt.kept k hb, g.five, g.told⟩, h.hm, h.RA, h.RB, h.RC⟩
section
variable {H H' : Hp} {b e ln lf : Addr} {N n : Nat} {A B C : List (List Int)} {xs us : List V} {ps qs : List Pr}
theorem Lw.same (h : Lw H b e ln lf N n A B C xs us ps qs) (s : Same H H') : Lw H' b e ln lf N n A B C xs us ps qs :=
  ⟨h.bx.same s, h.s2.same s, s _ _ h.hn, h.hps.same s, s _ _ h.hf, h.hqs.same s, h.near, h.far, h.nf, h.nb, h.fb, h.eb, h.en, h.ef⟩
theorem Lw.kept (h : Lw H b e ln lf N n A B C xs us ps qs) (k : Kept b H H') {N' : Nat} (bx : BoxK H' b N') : Lw H' b e ln lf N' n A B C xs us ps qs := by
  obtain ⟨ys, hy⟩ := h.bx.at
  exact ⟨bx, h.s2.kept k ⟨_, hy⟩ h.eb, k _ _ h.hn h.nb, h.hps.keep hy (.lst _) k, k _ _ h.hf h.fb, h.hqs.keep hy (.lst _) k, h.near, h.far, h.nf, h.nb, h.fb, h.eb, h.en, h.ef⟩
theorem Lw.mono (h : Lw H b e ln lf N n A B C xs us ps qs) {N' : Nat} (le : N ≤ N') : Lw H b e ln lf N' n A B C xs us ps qs :=
  ⟨h.bx.mono le, h.s2, h.hn, h.hps, h.hf, h.hqs, h.near, h.far, h.nf, h.nb, h.fb, h.eb, h.en, h.ef⟩
theorem box_upd (h : BoxK H b N) {x : Addr} {o : HO} (ne : x ≠ b) : BoxK (upd H x o) b N := by
  obtain ⟨x', y, z, h1, r⟩ := h
  exact ⟨x', y, z, by rw [upd_ne (Ne.symm ne)]; exact h1, r⟩
theorem Lw.pushN (h : Lw H b e ln lf N n A B C xs us ps qs) {v : V} {p : Pr} (hv : KX.IsTP H v p) (i : Ins 2 n A B C p) : Lw (upd H ln (.lst (xs ++ [v]))) b e ln lf N n A B C (xs ++ [v]) us (ps ++ [p]) qs := by
  have k : Kept ln H (upd H ln (.lst (xs ++ [v]))) := fun c o q ne => by rw [upd_ne ne]; exact q
  exact ⟨box_upd h.bx h.nb, h.s2.kept k ⟨_, h.hn⟩ h.en, upd_same, (h.hps.add hv).keep h.hn (.lst _) k, by rw [upd_ne (Ne.symm h.nf)]; exact h.hf, h.hqs.keep h.hn (.lst _) k, fun x hx => (List.mem_append.mp hx).elim (h.near x) (fun m => by rw [List.mem_singleton.mp m]; exact i), h.far, h.nf, h.nb, h.fb, h.eb, h.en, h.ef⟩
theorem Lw.pushF (h : Lw H b e ln lf N n A B C xs us ps qs) {v : V} {p : Pr} (hv : KX.IsTP H v p) (i : ¬ Ins 2 n A B C p) : Lw (upd H lf (.lst (us ++ [v]))) b e ln lf N n A B C xs (us ++ [v]) ps (qs ++ [p]) := by
  have k : Kept lf H (upd H lf (.lst (us ++ [v]))) := fun c o q ne => by rw [upd_ne ne]; exact q
  exact ⟨box_upd h.bx h.fb, h.s2.kept k ⟨_, h.hf⟩ h.ef, by rw [upd_ne h.nf]; exact h.hn, h.hps.keep h.hf (.lst _) k, upd_same, (h.hqs.add hv).keep h.hf (.lst _) k, h.near, fun x hx => (List.mem_append.mp hx).elim (h.far x) (fun m => by rw [List.mem_singleton.mp m]; exact i), h.nf, h.nb, h.fb, h.eb, h.en, h.ef⟩
end
theorem at_n {d : Int} (d0 : 0 ≤ d) (d1 : d < 8) : ∃ n : Nat, n ≤ 6 ∧ atI [V.int 5, .int 4, .int 6, .int 3, .int 2, .int 1, .int 0, .int 4] d = some (.int (n : Nat)) := by
  obtain ⟨e, rfl⟩ := Int.eq_ofNat_of_zero_le d0
  have h : e < 8 := by omega
  match e, h with
  | 0, _ => exact ⟨5, by decide, rfl⟩
  | 1, _ => exact ⟨4, by decide, rfl⟩
  | 2, _ => exact ⟨6, by decide, rfl⟩
  | 3, _ => exact ⟨3, by decide, rfl⟩
  | 4, _ => exact ⟨2, by decide, rfl⟩
  | 5, _ => exact ⟨1, by decide, rfl⟩
  | 6, _ => exact ⟨0, by decide, rfl⟩
  | 7, _ => exact ⟨4, by decide, rfl⟩
theorem fa_kept {H H' : Hp} {b x : Addr} {N : Nat} {ps qs : List Pr} (k : Kept b H H') (hb : BoxK H b N) (h : KX.IsFa K H x ps qs) : KX.IsFa K H' x ps qs := by
  obtain ⟨ys, hy⟩ := hb.at
  exact h.keep hy (.lst _) k
def spLaw (K : PySem.W.Frag) : Sp := fun vs H Q _ => ∃ (l : Addr) (ns : List Int), vs = [.ref l] ∧ SqL K H l (ns.map V.int) ∧ ∀ H', Q (.bl true) H'
abbrev nLa : List Str := ["_law_script", "_law_box_here", "_law_n", "_law_sets_here", "_law_near", "_law_far", "_law_k", "_law_pair", "_law_facts", "_law_turn", "_law_first", "_law_second", "_law_verdict", "_law_reason", "_law_side", "_law_told"]
theorem sc_la : FnScope nLa ["_law_script"] (defScope (top iLaw)) := ⟨rfl, rfl, rfl, by decide +kernel, rfl, by decide +kernel, by decide +kernel⟩
theorem ok_law (F : FnP K "law" iLaw f fd) (T : TX K mg) : FnOk P w K mg base CX0 40 f fd ["_law_script"] (spLaw K) := by
  have TW : KX.Txt K mg := wtxt T
  have AL : KX.Al K := al_mk T
  obtain ⟨_, FC⟩ := T.def "_law_cell" iLCell
  obtain ⟨fdBx, FBx⟩ := T.def "_law_box" iLBox
  obtain ⟨fdT, FT, GT, BT⟩ := g_take (P := P) (w := w) (base := base) T
  have GBx : FnOk P w K mg base CX0 2 _ fdBx ["_law_script", "_law_k"] (spBox K) := ok_box FBx T FC
  have BBx : Binds K fdBx ["_law_script", "_law_k"] [] := FBx.bindsN fun _ _ _ _ _ _ us hl => match us, hl with | [_, _], _ => rfl
  obtain ⟨_, FHa, GHa, BHa⟩ := g_hands (P := P) (w := w) (base := base) T
  obtain ⟨_, FSe, GSe, BSe⟩ := g_sets (P := P) (w := w) (base := base) T
  obtain ⟨fdTr, FTr⟩ := T.def "_law_tree" iTree
  have GTr : FnOk P w K mg base CX0 7 _ fdTr ["_law_box_here", "_law_size_here"] (KX.spTree 5) := KX.ok_tree FTr TW FT 5
  have BTr : Binds K fdTr ["_law_box_here", "_law_size_here"] [] := FTr.bindsN fun _ _ _ _ _ _ us hl => match us, hl with | [_, _], _ => rfl
  obtain ⟨_, FWo, GWo, BWo⟩ := KX.g_lword (P := P) (w := w) (base := base) TW AL
  obtain ⟨_, FWs, GWs, BWs⟩ := KX.g_wo (P := P) (w := w) (base := base) TW AL
  obtain ⟨_, FIn, GIn, BIn⟩ := g_ins (P := P) (w := w) (base := base) T
  obtain ⟨_, FMr, GMr, BMr⟩ := g_mr (P := P) (w := w) (base := base) T
  obtain ⟨fdF, GF', KB, _, _⟩ := KX.fa_kb AL
  have GF : FnOk P w K mg base CX0 1 (He.ma K (KX.fC K) "__init__") fdF ["self", "within", "not_within"] (KX.spFI K) := GF' TW
  obtain ⟨MCl, _, GCl, BCl⟩ := KX.g_cl (P := P) (w := w) (base := base) TW AL
  obtain ⟨MCr, _, GCr, BCr⟩ := KX.g_cr (P := P) (w := w) (base := base) TW AL
  obtain ⟨MVd, _, GVd, BVd⟩ := KX.g_vd (P := P) (w := w) (base := base) TW AL
  obtain ⟨MRe, _, GRe, BRe⟩ := KX.g_re (P := P) (w := w) (base := base) TW AL
  obtain ⟨MSh, _, _, GSh, BSh⟩ := KX.g_sh (P := P) (w := w) (base := base) TW AL
  obtain ⟨MMo, _, _, GMo, BMo⟩ := KX.g_mo (P := P) (w := w) (base := base) TW AL
  refine F.ok sc_la (fun vs H Q E h => ?_) (fun cdv A0 outer s H vs Q E hr h => ?_)
  · obtain ⟨l, ns, rfl, _⟩ := h
    rfl
  · obtain ⟨l, ns, rfl, hs, k⟩ := h
    have nd := sc_la.nd
    have hu0 := hr.units0
    have hr1 : Room 1 _ := hr.mono (by decide)
    have hr2 : Room 2 _ := hr.mono (by decide)
    have hr4 : Room 4 _ := hr.mono (by decide)
    have hr7 : Room 7 _ := hr.mono (by decide)
    have hr16 : Room 16 _ := hr.mono (by decide)
    have hr17 : Room 17 _ := hr.mono (by decide)
    have hr24 : Room 24 _ := hr.mono (by decide)
    have hr25 : Room 25 _ := hr.mono (by decide)
    have hr28 : Room 28 _ := hr.mono (by decide)
    have hr29 : Room 29 _ := hr.mono (by decide)
    have hr31 : Room 31 _ := hr.mono (by decide)
    have hr32 : Room 32 _ := hr.mono (by decide)
    refine ⟨_, PSs.nox (pss_cons (ps_set (i := 1) nd rfl (.inl rfl) (pe_call GBx hr2 (by rfl) (T.df "_law_box" iLBox) FBx.kp BBx .nil pass0 (pa_cons (pv 0) (pa_cons pe_int pa_nil)))) (pss_cons (ps_set (i := 2) nd rfl (.inl rfl) (pe_ix ix_list (pe_lst (pa_cons pe_int (pa_cons pe_int (pa_cons pe_int (pa_cons pe_int (pa_cons pe_int (pa_cons pe_int (pa_cons pe_int (pa_cons pe_int pa_nil))))))))) (pe_call GT hr1 (by rfl) (T.df "_law_take" iLTake) FT.kp BT .nil pass0 (pa_cons (pv 1) (pa_cons pe_int pa_nil))) (fun _ _ => rfl))) (pss_cons (ps_set (i := 3) nd rfl (.inl rfl) (pe_call GSe hr4 (by rfl) (T.df "_law_sets" iLSets) FSe.kp BSe .nil pass0 (pa_cons pe_int (pa_cons (pv 2) (pa_cons (pe_call GHa hr4 (by rfl) (T.df "_law_hands" iLHands) FHa.kp BHa .nil pass0 (pa_cons (pv 1) (pa_cons pe_int (pa_cons (pv 2) pa_nil)))) pa_nil))))) (pss_cons (ps_set (i := 4) nd rfl (.inl rfl) (pe_lst pa_nil)) (pss_cons (ps_set (i := 5) nd rfl (.inl rfl) (pe_lst pa_nil)) (pss_cons (ps_for PassesOwn.never rfl (pi_range1 (by rfl) (T.fr "range") (pa_cons (pe_call GT hr1 (by rfl) (T.df "_law_take" iLTake) FT.kp BT .nil pass0 (pa_cons (pv 1) (pa_cons pe_int pa_nil))) pa_nil)) (pg_name (i := 6) nd rfl (.inl rfl)) (pss_cons (ps_set (i := 7) nd rfl (.inl rfl) (pe_tup (pa_cons (pe_call GTr hr7 (by rfl) (T.df "_law_tree" iTree) FTr.kp BTr .nil pass0 (pa_cons (pv 1) (pa_cons (pe_op op_add pe_int (pe_call GT hr1 (by rfl) (T.df "_law_take" iLTake) FT.kp BT .nil pass0 (pa_cons (pv 1) (pa_cons pe_int pa_nil)))) pa_nil))) (pa_cons (pe_call GTr hr7 (by rfl) (T.df "_law_tree" iTree) FTr.kp BTr .nil pass0 (pa_cons (pv 1) (pa_cons (pe_op op_add pe_int (pe_call GT hr1 (by rfl) (T.df "_law_take" iLTake) FT.kp BT .nil pass0 (pa_cons (pv 1) (pa_cons pe_int pa_nil)))) pa_nil))) pa_nil)))) (pss_one (ps_cut (ps_if (pt_val (pe_call GIn hr16 (by rfl) (T.df "_law_inside" iLIn) FIn.kp BIn .nil pass0 (pa_cons (pv 3) (pa_cons (pv 7) pa_nil)))) (pss_one (ps_expr (pe_bm PySem.F.plainAttrs_list PySem.F.slot_list_append PySem.F.type_list_append mt_append (pv 4) (pa_cons (pv 7) pa_nil)))) (pss_one (ps_expr (pe_bm PySem.F.plainAttrs_list PySem.F.slot_list_append PySem.F.type_list_append mt_append (pv 5) (pa_cons (pv 7) pa_nil))))))))) (pss_cons (ps_set (i := 8) nd rfl (.inl rfl) (pe_makeK0 TW.fmk GF hr2 (by rfl) TW.facts KB pass0 (pk_cons (pe_call GWs hr25 (by rfl) (T.df "_law_words" iWords) FWs.kp BWs .nil pass0 (pa_cons (pv 4) pa_nil)) (pk_cons (pe_call GWs hr25 (by rfl) (T.df "_law_words" iWords) FWs.kp BWs .nil pass0 (pa_cons (pv 5) pa_nil)) pk_nil)))) (pss_cons (ps_if (PW.pt (pw_or (pt_cmpR op_notBl (pe_meth0 (pv 8) TW.fcls MCl GCl hr29 BCl .nil pass0) pe_bl (nomark _)) (pw_or1 (pt_cmpR op_notN (pe_meth0 (pv 8) TW.fcls MCr GCr hr28 BCr .nil pass0) pe_non (nomark _))))) (pss_one (ps_ret pe_bl)) pss_nil) (pss_cons (ps_for PassesOwn.never rfl (pi_range1 (by rfl) (T.fr "range") (pa_cons pe_int pa_nil)) (pg_name (i := 9) nd rfl (.inl rfl)) (pss_cons (ps_set (i := 7) nd rfl (.inl rfl) (pe_tup (pa_cons (pe_call GTr hr7 (by rfl) (T.df "_law_tree" iTree) FTr.kp BTr .nil pass0 (pa_cons (pv 1) (pa_cons (pe_op op_add pe_int (pe_call GT hr1 (by rfl) (T.df "_law_take" iLTake) FT.kp BT .nil pass0 (pa_cons (pv 1) (pa_cons pe_int pa_nil)))) pa_nil))) (pa_cons (pe_call GTr hr7 (by rfl) (T.df "_law_tree" iTree) FTr.kp BTr .nil pass0 (pa_cons (pv 1) (pa_cons (pe_op op_add pe_int (pe_call GT hr1 (by rfl) (T.df "_law_take" iLTake) FT.kp BT .nil pass0 (pa_cons (pv 1) (pa_cons pe_int pa_nil)))) pa_nil))) pa_nil)))) (pss_cons (ps_par (i := 10) (j := 11) (by rfl) nd rfl rfl (by decide) rfl rfl (pa_cons (pe_call GWo hr24 (by rfl) (T.df "_law_word" iLWord) FWo.kp BWo .nil pass0 (pa_cons (pe_ix ix_tup (pv 7) pe_int (fun _ _ => rfl)) pa_nil)) (pa_cons (pe_call GWo hr24 (by rfl) (T.df "_law_word" iLWord) FWo.kp BWo .nil pass0 (pa_cons (pe_ix ix_tup (pv 7) pe_int (fun _ _ => rfl)) pa_nil)) pa_nil)) (by rfl)) (pss_cons (ps_set (i := 12) nd rfl (.inl rfl) (pe_meth (pv 8) TW.fcls MVd GVd hr32 BVd .nil cxE0 (pa_cons (pv 10) (pa_cons (pv 11) pa_nil)))) (pss_cons (ps_cut (ps_if (PW.pt (pw_and (pt_cmpR op_ne (pv 12) pe_str (nomark _)) (pw_and1 (pt_cmpR op_ne (pe_cmpR op_eq (pv 12) pe_str (nomark _)) (pe_call GIn hr16 (by rfl) (T.df "_law_inside" iLIn) FIn.kp BIn .nil pass0 (pa_cons (pv 3) (pa_cons (pv 7) pa_nil))) (nomark _))))) (pss_one (ps_ret pe_bl)) pss_nil)) (pss_cons (ps_set (i := 13) nd rfl (.inl rfl) (pe_meth (pv 8) TW.fcls MRe GRe hr31 BRe .nil cxE0 (pa_cons (pv 10) (pa_cons (pv 11) pa_nil)))) (pss_cons (ps_cut (ps_if (PW.pt (pw_or (PW.pt (pw_and (pt_cmpR op_eq (pv 12) pe_str (nomark _)) (pw_and1 (pt_cmpR op_notN (pv 13) pe_non (nomark _))))) (pw_or1 (PW.pt (pw_and (pt_cmpR op_ne (pv 12) pe_str (nomark _)) (pw_and1 (pt_not (pt_val (pe_meth (pv 8) TW.fcls MSh GSh hr28 BSh .nil pass0 (pa_cons (pv 10) (pa_cons (pv 11) (pa_cons (pv 13) pa_nil)))))))))))) (pss_one (ps_ret pe_bl)) pss_nil)) (pss_one (ps_for PassesOwn.never rfl (pi_list (pe_lst (pa_cons pe_bl (pa_cons pe_bl pa_nil)))) (pg_name (i := 14) nd rfl (.inl rfl)) (pss_cons (ps_set (i := 15) nd rfl (.inl rfl) (pe_meth (pv 8) TW.fcls MMo GMo hr31 BMo .nil cxE0 (pa_cons (pv 10) (pa_cons (pv 11) (pa_cons (pv 14) pa_nil))))) (pss_cons (ps_cut (ps_if (PW.pt (pw_and (pt_cmpR op_isN (pv 15) pe_non (nomark _)) (pw_and1 (pt_cmpR (op_notInK K) (pv 12) (pe_lst (pa_cons (pe_ix ix_list (pe_lst (pa_cons pe_str (pa_cons pe_str pa_nil))) (pe_callTy (r := fun xs H Q => (∃ i, xs = [.int i] ∧ Q (.int i) H) ∨ ∃ k, xs = [.bl k] ∧ Q (.int (if k then 1 else 0)) H) call_int1 (by rfl) (T.fr "int") boot_int (pa_cons (pe_not (pv 14)) pa_nil)) (fun _ _ => rfl)) pa_nil)) (by rfl))))) (pss_one (ps_ret pe_bl)) pss_nil)) (pss_one (ps_if (PW.pt (pw_and (pt_cmpR op_notN (pv 15) pe_non (nomark _)) (pw_and1 (pt_not (pt_val (pe_call GMr hr17 (by rfl) (T.df "_law_model_right" iLMr) FMr.kp BMr .nil pass0 (pa_cons (pv 4) (pa_cons (pv 5) (pa_cons (pv 7) (pa_cons (pv 15) (pa_cons (pv 14) pa_nil))))))))))) (pss_one (ps_ret pe_bl)) pss_nil))))))))))))) (pss_one (ps_ret pe_bl))))))))))), ?_⟩
    refine ⟨_, rfl, l, ns, 0, rfl, hs, fun b hb => ?_⟩
    have bx2 : BoxK (upd H b (.lst [.int (cellOf ns 0).natAbs, .int 0, .int (40503 * ((0 : Nat) : Int) + 911)])) b 0 := ⟨_, _, _, upd_same, by omega, by omega, by omega, by omega, by omega⟩
    generalize upd H b (.lst [.int (cellOf ns 0).natAbs, .int 0, .int (40503 * ((0 : Nat) : Int) + 911)]) = H2 at bx2 ⊢
    -- the size
    refine ⟨(by show 8 ≤ sizeLine; decide), fun q8 hq8 => ?_⟩
    have c8 : upd H2 q8 (.lst [.int 5, .int 4, .int 6, .int 3, .int 2, .int 1, .int 0, .int 4]) q8 = some (.lst [.int 5, .int 4, .int 6, .int 3, .int 2, .int 1, .int 0, .int 4]) := upd_same
    have bx3 := bx2.same (same_new (o := .lst [V.int 5, .int 4, .int 6, .int 3, .int 2, .int 1, .int 0, .int 4]) hq8)
    have n8 : q8 ≠ b := fun z => by obtain ⟨ys, hy⟩ := bx2.at; rw [z, hy] at hq8; cases hq8
    refine ⟨_, rfl, take_use2 (m := 8) bx3 (by omega) (by decide) (by decide) fun d H3 d0 d1 k3 b3 _ => ?_⟩
    obtain ⟨n, hn, hat⟩ := at_n d0 d1
    refine ⟨q8, _, d, _, rfl, rfl, SqL.of (k3 _ _ c8 n8), hat, ?_⟩
    refine ⟨_, rfl, _, rfl, _, rfl, b, _, n, 2, rfl, b3, by omega, two_P, hn, fun H5 l1 hs1 Rs k5 b5 hl1 nl1 tb1 len1 => ?_⟩
    obtain ⟨h0', h1', h2', R0, R1, R2, rfl, rfl⟩ := tabs3 tb1 len1
    obtain ⟨as0, _, hR0, c01, c02, c03, c04, c05⟩ := tb1.get (i := 0) rfl
    obtain ⟨as1, _, hR1, c11, c12, c13, c14, c15⟩ := tb1.get (i := 1) rfl
    obtain ⟨as2, _, hR2, c21, c22, c23, c24, c25⟩ := tb1.get (i := 2) rfl
    obtain rfl := Option.some.inj hR0
    obtain rfl := Option.some.inj hR1
    obtain rfl := Option.some.inj hR2
    have hn12 : n ≤ 12 := by omega
    have hpn : (2 : Int) ^ n ≤ 1000000 := by have := two_pow n hn12; omega
    have II := invF_ok two_P
    refine ⟨2, n, l1, _, _, rfl, hl1, tb1.tabI, (by show 3 ≤ 100; decide), two_P, hn12, hpn, fun H6 e ds s6 he hds => ?_⟩
    have S6 := sets_of two_P c04 c14 c24 he hds
    have neb : e ≠ b := fun z => by
      obtain ⟨x1, y1, z1, hx1, _⟩ := b5.same s6
      rw [z, hx1] at he
      have := congrArg (fun o : Option HO => match o with | some (.lst (.int _ :: _)) => 1 | _ => 0) he
      have h5 := S6.five
      match ds, h5, this with
      | _ :: _, _, this => cases this
    have S2' : S2 H6 e n (Bs 2 R0) (Bs 2 R1) (Bs 2 R2) := ⟨⟨_, _, S6⟩, hn12, reduced_ok II (modR_rows II.pos c04), reduced_ok II (modR_rows II.pos c14), reduced_ok II (modR_rows II.pos c24)⟩
    have b6 := b5.same s6
    clear S6 hds he c01 c02 c03 c05 c11 c12 c13 c15 c21 c22 c23 c25 tb1 s6
    generalize Bs 2 R0 = A at S2'
    generalize Bs 2 R1 = B at S2'
    generalize Bs 2 R2 = C at S2'
    -- the two lists
    refine ⟨(by show 0 ≤ sizeLine; decide), fun ln hln => ?_⟩
    refine ⟨(by show 0 ≤ sizeLine; decide), fun lf hlf => ?_⟩
    have t1 := same_new (o := .lst []) hln
    have t2 := same_new (o := .lst []) hlf
    have alf : H6 lf = none := none_of hlf
    have nnf : ln ≠ lf := fun z => by rw [← z, upd_same] at hlf; cases hlf
    have old : ∀ {x : Addr} {o : HO}, H6 x = some o → x ≠ ln ∧ x ≠ lf := fun {x o} hx => And.intro (fun z => by rw [z, hln] at hx; cases hx) (fun z => by rw [z, alf] at hx; cases hx)
    obtain ⟨ys, hys⟩ := b6.at
    obtain ⟨ds', ls', hS'⟩ := id S2'.st
    have L0 : Lw (upd (upd H6 ln (.lst [])) lf (.lst [])) b e ln lf 1001 n A B C [] [] [] [] :=
      ⟨((b6.same t1).same t2).mono (by omega), (S2'.same t1).same t2, by rw [upd_ne nnf, upd_same], KX.IsTPs.nil, upd_same, KX.IsTPs.nil, (fun _ h => nomatch h), (fun _ h => nomatch h), nnf, Ne.symm (old hys).1, Ne.symm (old hys).2, neb, (old hS'.he).1, (old hS'.he).2⟩
    clear t1 t2 S2' hS' b6 hln hlf alf
    generalize upd (upd H6 ln (.lst [])) lf (.lst []) = H7 at L0
    -- the pairs
    refine ⟨_, rfl, take_use2 (m := 7) L0.bx (by omega) (by decide) (by decide) fun d H8 d0 d1 k8 b8 _ => ?_⟩
    have L8 := L0.kept k8 b8
    refine ⟨d, rfl, by omega, by omega, for_range (lo := 0) (n := d.toNat) (fun i σ H' => ∃ (z6 z7 : Option V) (xs us : List V) (ps qs : List Pr), σ = [some (.ref l), some (.ref b), some (.int (n : Nat)), some (.ref e), some (.ref ln), some (.ref lf), z6, z7, none, none, none, none, none, none, none, none] ∧ Lw H' b e ln lf (1002 + 40 * i) n A B C xs us ps qs ∧ ps.length ≤ i ∧ qs.length ≤ i) ⟨none, none, [], [], [], [], rfl, L8, Nat.le_refl _, Nat.le_refl _⟩ ?_ ?_⟩
    · rintro i σ Ha hi ⟨z6, z7, xs, us, ps, qs, rfl, L, lp, lq⟩
      have hi7 : i < 7 := by omega
      refine ⟨_, rfl, _, rfl, take_use2 (m := 4) L.bx (by omega) (by decide) (by decide) fun d1 Hb d10 d11 kb bb _ => ?_⟩
      obtain ⟨e1, rfl⟩ := Int.eq_ofNat_of_zero_le d10
      have l_e1 : e1 < 4 := by omega
      have Lb := L.kept kb bb
      refine ⟨_, _, rfl, rfl, b, (1002 + 40 * i) + 1, e1 + 1, (by rw [show ((e1 + 1 : Nat) : Int) = 1 + (e1 : Int) by omega]; rfl), bb, by omega, by omega, by omega, by omega, fun Hc ta t kc' bc' htt1 hdep1 => ?_⟩
      have kc : Kept b Hb Hc := kc'
      have bc : BoxK Hc b ((1002 + 40 * i) + 15) := BoxK.mono (show BoxK Hc b _ from bc') (by omega)
      have Lc := Lb.kept kc bc
      clear kb bb kc' bc' d10 d11
      refine ⟨_, rfl, _, rfl, take_use2 (m := 4) bc (by omega) (by decide) (by decide) fun d2 Hd d20 d21 kd bd _ => ?_⟩
      obtain ⟨e2, rfl⟩ := Int.eq_ofNat_of_zero_le d20
      have l_e2 : e2 < 4 := by omega
      have Ld := Lc.kept kd bd
      have htt1 := KX.IsTT.kept kd bc htt1
      refine ⟨_, _, rfl, rfl, b, (1002 + 40 * i) + 15 + 1, e2 + 1, (by rw [show ((e2 + 1 : Nat) : Int) = 1 + (e2 : Int) by omega]; rfl), bd, by omega, by omega, by omega, by omega, fun He tb s2 ke' be' htt2 hdep2 => ?_⟩
      have ke : Kept b Hd He := ke'
      have be : BoxK He b ((1002 + 40 * i) + 40) := BoxK.mono (show BoxK He b _ from be') (by omega)
      have Le := Ld.kept ke be
      have htt1 := KX.IsTT.kept ke bd htt1
      clear kd bd ke' be' d20 d21 Lb Lc Ld bc kc
      refine ⟨(by show 2 ≤ sizeLine; decide), fun pa hpa => ?_⟩
      have sp := same_new (o := .tup [.ref ta, .ref tb]) hpa
      have Lf := Le.same sp
      have tp : KX.IsTP (upd He pa (.tup [.ref ta, .ref tb])) (.ref pa) (t, s2) := ⟨pa, _, _, rfl, upd_same, htt1.same sp, htt2.same sp, by show KW.dep t ≤ 10; omega, by show KW.dep s2 ≤ 10; omega⟩
      clear Le hpa sp htt1 htt2 ke be
      generalize upd He pa (.tup [.ref ta, .ref tb]) = Hf at Lf tp ⊢
      refine ⟨fun σ H' => ∃ (xs us : List V) (ps qs : List Pr), σ = [some (.ref l), some (.ref b), some (.int (n : Nat)), some (.ref e), some (.ref ln), some (.ref lf), some (.int (0 + (i : Int))), some (.ref pa), none, none, none, none, none, none, none, none] ∧ Lw H' b e ln lf (1002 + 40 * i + 40) n A B C xs us ps qs ∧ ps.length ≤ i + 1 ∧ qs.length ≤ i + 1, ?_, ?_⟩
      · refine ⟨_, rfl, _, rfl, e, .ref pa, (t, s2), n, A, B, C, rfl, tp, Lf.s2, fun Hg b' sg hb' => ?_⟩
        have Lg := Lf.same sg
        have tg := tp.same sg
        have xl : xs.length ≤ i := by rw [L.hps.1]; exact lp
        have ul : us.length ≤ i := by rw [L.hqs.1]; exact lq
        refine ⟨_, rfl, ?_⟩
        cases b' with
        | true =>
          refine iteT ?_
          refine ⟨_, rfl, .inl ⟨rfl, _, SqL.of Lg.hn⟩, _, rfl, ln, _, _, rfl, rfl, Lg.hn, lt_line (by omega), ?_⟩
          exact ⟨_, _, _, _, rfl, Lg.pushN tg (hb'.mp rfl), by rw [List.length_append, List.length_singleton]; omega, by omega⟩
        | false =>
          refine iteF ?_
          refine ⟨_, rfl, .inl ⟨rfl, _, SqL.of Lg.hf⟩, _, rfl, lf, _, _, rfl, rfl, Lg.hf, lt_line (by omega), ?_⟩
          exact ⟨_, _, _, _, rfl, Lg.pushF tg (fun z => Bool.false_ne_true (hb'.mpr z)), by omega, by rw [List.length_append, List.length_singleton]; omega⟩
      · rintro _ Hg ⟨xs', us', ps', qs', rfl, Lg, lp', lq'⟩
        exact ⟨_, _, _, _, _, _, rfl, Lg, lp', lq'⟩
    rintro σ Ha ⟨z6, z7, xs, us, ps, qs, rfl, L, lp, lq⟩
    have lp := Nat.le_trans lp (show d.toNat ≤ 6 by omega)
    have lq := Nat.le_trans lq (show d.toNat ≤ 6 by omega)
    have L := L.mono (show 1002 + 40 * d.toNat ≤ 2000 by omega)
    have xl : xs.length ≤ 6 := by rw [L.hps.1]; exact lp
    have ul : us.length ≤ 6 := by rw [L.hqs.1]; exact lq
    have wps := tps_wf L.hps
    have wqs := tps_wf L.hqs
    have nc := no_clash L.s2.RA L.s2.RB L.s2.RC wps wqs L.near L.far
    -- the facts
    refine ⟨_, rfl, ln, xs, ps, rfl, L.hn, L.hps, by omega, fun H4 l1 ws1 s4 _ hl1 hw1 => ?_⟩
    refine ⟨_, rfl, lf, us, qs, rfl, s4 _ _ L.hf, L.hqs.same s4, by omega, fun H5 l2 ws2 s5 _ hl2 hw2 => ?_⟩
    refine ⟨rfl, rfl, fun x dx hx hdx ne => ?_⟩
    have s6 : Same H5 (upd (upd H5 dx (.own x)) x (.ins (KX.fC K) dx [])) := same_two hdx (by rw [upd_ne (Ne.symm ne)]; exact hx)
    refine ⟨x, l1, l2, dx, ws1, ws2, ps, qs, rfl, upd_same, .inl (SqL.of (s6 _ _ (s5 _ _ hl1))), (hw1.same s5).same s6, .inl (SqL.of (s6 _ _ hl2)), hw2.same s6, by omega, by omega, fun H6 k6 fa6 => ⟨rfl, ?_⟩⟩
    have s36 : Same Ha H6 := fun c o q => by
      have q5 := s5 _ _ (s4 _ _ q)
      exact k6 c o (s6 _ _ q5) (ne_of_none q5 hx)
    have L6 := L.same s36
    clear k6 s6 hw2 hl2 hw1 hl1 s5 s4 s36 hx hdx
    -- no clash
    obtain ⟨dx1, a1, b1', xs1, us1, hx1, _⟩ := id fa6
    refine ⟨_, rfl, x, dx1, _, rfl, hx1, rfl, x, ps, qs, rfl, fa6, fun H7 s7 => ?_⟩
    rw [nc]
    refine ⟨_, _, rfl, rfl, _, rfl, iteF ?_⟩
    obtain ⟨dx2, a2, b2', xs2, us2, hx2, _⟩ := id (fa6.same s7)
    refine ⟨_, rfl, x, dx2, _, rfl, hx2, rfl, x, ps, qs, rfl, fa6.same s7, fun H8 v8 s8 hv8 => ?_⟩
    have hk : clK ps qs = none := by
      have e := clK_none (ps := ps) (qs := qs)
      rw [nc] at e
      cases h : clK ps qs with
      | none => rfl
      | some i => rw [h] at e; cases e
    rw [hk] at hv8
    obtain rfl : v8 = .non := hv8
    refine ⟨rfl, _, rfl, iteF ?_⟩
    have LF0 := fa6.same (s7.trans s8)
    have L0 := L6.same (s7.trans s8)
    clear fa6 L6 s7 s8 hx1 hx2 L
    refine ⟨2, rfl, by omega, by omega, for_range (lo := 0) (n := (2 : Int).toNat) (fun i σ H' => ∃ (z6 z7 z9 z10 z11 z12 z13 z14 z15 : Option V), σ = [some (.ref l), some (.ref b), some (.int (n : Nat)), some (.ref e), some (.ref ln), some (.ref lf), z6, z7, some (.ref x), z9, z10, z11, z12, z13, z14, z15] ∧ Lw H' b e ln lf (2000 + 100 * i) n A B C xs us ps qs ∧ KX.IsFa K H' x ps qs) ⟨_, _, _, _, _, _, _, _, _, rfl, L0, LF0⟩ ?_ ?_⟩
    · rintro i σ Ha hi' ⟨z6, z7, z9, z10, z11, z12, z13, z14, z15, rfl, L, LF⟩
      have hi : i < 2 := hi'
      refine ⟨_, rfl, _, rfl, take_use2 (m := 4) L.bx (by omega) (by decide) (by decide) fun d1 Hb d10 d11 kb bb _ => ?_⟩
      obtain ⟨e1, rfl⟩ := Int.eq_ofNat_of_zero_le d10
      have l_e1 : e1 < 4 := by omega
      have Lb := L.kept kb bb
      refine ⟨_, _, rfl, rfl, b, (2000 + 100 * i) + 1, e1 + 1, (by rw [show ((e1 + 1 : Nat) : Int) = 1 + (e1 : Int) by omega]; rfl), bb, by omega, by omega, by omega, by omega, fun Hc ta t kc' bc' htt1 hdep1 => ?_⟩
      have kc : Kept b Hb Hc := kc'
      have bc : BoxK Hc b ((2000 + 100 * i) + 15) := BoxK.mono (show BoxK Hc b _ from bc') (by omega)
      have Lc := Lb.kept kc bc
      have Fc := fa_kept kc Lb.bx (fa_kept kb L.bx LF)
      clear kb bb kc' bc' d10 d11
      refine ⟨_, rfl, _, rfl, take_use2 (m := 4) bc (by omega) (by decide) (by decide) fun d2 Hd d20 d21 kd bd _ => ?_⟩
      obtain ⟨e2, rfl⟩ := Int.eq_ofNat_of_zero_le d20
      have l_e2 : e2 < 4 := by omega
      have Ld := Lc.kept kd bd
      have htt1 := KX.IsTT.kept kd bc htt1
      refine ⟨_, _, rfl, rfl, b, (2000 + 100 * i) + 15 + 1, e2 + 1, (by rw [show ((e2 + 1 : Nat) : Int) = 1 + (e2 : Int) by omega]; rfl), bd, by omega, by omega, by omega, by omega, fun He tb s2 ke' be' htt2 hdep2 => ?_⟩
      have ke : Kept b Hd He := ke'
      have be : BoxK He b ((2000 + 100 * i) + 40) := BoxK.mono (show BoxK He b _ from be') (by omega)
      have Le := Ld.kept ke be
      have htt1 := KX.IsTT.kept ke bd htt1
      have Fe := fa_kept ke Ld.bx (fa_kept kd Lc.bx Fc)
      clear kd bd ke' be' d20 d21 Lb Lc Ld bc kc
      refine ⟨(by show 2 ≤ sizeLine; decide), fun pa hpa => ?_⟩
      have sp := same_new (o := .tup [.ref ta, .ref tb]) hpa
      have Lf := Le.same sp
      have Ff := Fe.same sp
      have ha : upd He pa (.tup [.ref ta, .ref tb]) pa = some (.tup [.ref ta, .ref tb]) := upd_same
      have htt1 := htt1.same sp
      have htt2 := htt2.same sp
      clear Le hpa sp ke be Fc Fe
      generalize upd He pa (.tup [.ref ta, .ref tb]) = Hf at Lf Ff htt1 htt2 ha ⊢
      have wp : WFp (t, s2) := ⟨tt_wf htt1, tt_wf htt2⟩
      have vok := vd_ok L.s2.RA L.s2.RB L.s2.RC (ps := ps) (qs := qs) (p := (t, s2)) wps wqs wp L.near L.far
      have vnc : vd ps qs (t, s2) ≠ .clash := fun z => by rw [KW.vd_clash, nc] at z; cases z
      have dt : KW.dep t ≤ 10 := by omega
      have ds2 : KW.dep s2 ≤ 10 := by omega
      have tp : KX.IsTP Hf (.ref pa) (t, s2) := ⟨pa, _, _, rfl, ha, htt1, htt2, dt, ds2⟩
      -- the words
      refine ⟨_, rfl, pa, _, 0, _, rfl, rfl, SqT.of ha, rfl, .ref ta, t, rfl, htt1, by omega, fun Hg y sg ty => ?_⟩
      refine ⟨_, rfl, pa, _, 1, _, rfl, rfl, SqT.of (sg _ _ ha), rfl, .ref tb, s2, rfl, htt2.same sg, by omega, fun Hh z sh tz => ⟨_, _, rfl, ?_⟩⟩
      have ty := ty.same sh
      have Lh := Lf.same (sg.trans sh)
      have Fh := Ff.same (sg.trans sh)
      have tp := tp.same (sg.trans sh)
      clear L LF L0 LF0 Lf Ff htt1 htt2 ha sg sh
      -- the verdict
      obtain ⟨dx3, a3, b3', xs3, us3, hx3, _⟩ := id Fh
      refine ⟨_, rfl, x, dx3, _, rfl, hx3, rfl, _, rfl, _, rfl, x, y, z, ps, qs, (t, s2), rfl, Fh, ty, tz, by show KW.dep t ≤ 20; omega, by show KW.dep s2 ≤ 20; omega, by omega, by omega, fun q => absurd q (by rw [nc]; exact Bool.false_ne_true), fun _ Hi si => ?_⟩
      have Li := Lh.same si
      have Fi := Fh.same si
      have ty := ty.same si
      have tz := tz.same si
      have tp := tp.same si
      clear Lh Fh si hx3
      refine ⟨fun σ H' => σ = [some (.ref l), some (.ref b), some (.int (n : Nat)), some (.ref e), some (.ref ln), some (.ref lf), z6, some (.ref pa), some (.ref x), some (.int (0 + (i : Int))), some (.ref y), some (.ref z), some (.str (KX.vdS (vd ps qs (t, s2)))), z13, z14, z15] ∧ Same Hi H', ?_, ?_⟩
      · cases hvd : vd ps qs (t, s2) with
        | clash => exact absurd hvd vnc
        | opn => exact ⟨_, rfl, rfl, _, rfl, iteF ⟨rfl, Same.refl _⟩⟩
        | sure =>
          refine ⟨_, rfl, rfl, _, rfl, iteT ?_⟩
          refine ⟨_, rfl, rfl, _, rfl, _, rfl, e, .ref pa, (t, s2), n, A, B, C, rfl, tp, Li.s2, fun Hj b' sj hb' => ?_⟩
          rw [hb'.mpr (vok.1 hvd)]
          exact ⟨rfl, _, rfl, iteF ⟨rfl, sj⟩⟩
        | barred =>
          refine ⟨_, rfl, rfl, _, rfl, iteT ?_⟩
          refine ⟨_, rfl, rfl, _, rfl, _, rfl, e, .ref pa, (t, s2), n, A, B, C, rfl, tp, Li.s2, fun Hj b' sj hb' => ?_⟩
          have : b' = false := by rw [Bool.eq_false_iff]; exact fun q => vok.2 hvd (hb'.mp q)
          rw [this]
          exact ⟨rfl, _, rfl, iteF ⟨rfl, sj⟩⟩
      rintro _ Hj ⟨rfl, sj⟩
      have Lj := Li.same sj
      have Fj := Fi.same sj
      have ty := ty.same sj
      have tz := tz.same sj
      have tp := tp.same sj
      clear Li Fi sj
      -- the reason
      obtain ⟨dx4, a4, b4', xs4, us4, hx4, _⟩ := id Fj
      refine ⟨_, rfl, x, dx4, _, rfl, hx4, rfl, _, rfl, _, rfl, x, y, z, ps, qs, (t, s2), rfl, Fj, ty, tz, by show KW.dep t ≤ 20; omega, by show KW.dep s2 ≤ 20; omega, by omega, by omega, fun q => absurd q (by rw [nc]; exact Bool.false_ne_true), fun _ Hk v sk hv => ?_⟩
      have Lk := Lj.same sk
      have Fk := Fj.same sk
      have ty := ty.same sk
      have tz := tz.same sk
      have tp := tp.same sk
      clear Lj Fj hx4
      refine ⟨fun σ H' => σ = [some (.ref l), some (.ref b), some (.int (n : Nat)), some (.ref e), some (.ref ln), some (.ref lf), z6, some (.ref pa), some (.ref x), some (.int (0 + (i : Int))), some (.ref y), some (.ref z), some (.str (KX.vdS (vd ps qs (t, s2)))), some v, z14, z15] ∧ Same Hk H', ?_, ?_⟩
      · rcases hv with ⟨r, tt, dd, ho, rfl, htn, ht, hdn, hdd, htd⟩ | ⟨ha0, hk0, rfl⟩
        · obtain ⟨hvd, hsh⟩ := KX.rs_vd nc ho
          rw [hvd]
          have r1 : decide (V.str (KX.rsS r) = V.str "open") = false := by
            cases r with
            | sure => decide
            | barred n => show decide (V.str "barred" = V.str "open") = false; decide
          refine ⟨_, rfl, rfl, ?_⟩
          rw [r1]
          refine ⟨_, rfl, iteF ?_⟩
          refine iteF ?_
          refine ⟨_, rfl, rfl, ?_⟩
          rw [r1]
          refine ⟨_, rfl, iteT ?_⟩
          obtain ⟨dx6, a6, b6', xs6, us6, hx6, _⟩ := id Fk
          refine ⟨_, rfl, x, dx6, _, rfl, hx6, rfl, _, rfl, _, rfl, _, rfl, x, y, z, tt, dd, ps, qs, (t, s2), r, papP ps, rfl, Fk, ty, tz, by show KW.dep t ≤ 20; omega, by show KW.dep s2 ≤ 20; omega, ht, hdd, by have : (papP ps).length = 9 := (by unfold papP; rw [List.length_map]; rfl); omega, fun H9 s9 => ?_⟩
          rw [hsh]
          exact ⟨_, rfl, iteF ⟨rfl, s9⟩⟩
        · rw [KX.no_vd nc ha0 hk0]
          refine ⟨_, rfl, rfl, _, rfl, iteT ?_⟩
          refine ⟨_, rfl, rfl, _, rfl, ?_⟩
          refine iteF ?_
          exact ⟨_, rfl, rfl, _, rfl, iteF (iteF ⟨rfl, Same.refl _⟩)⟩
      rintro _ Hl ⟨rfl, sl⟩
      have Ll := Lk.same sl
      have Fl := Fk.same sl
      have ty := ty.same sl
      have tz := tz.same sl
      have tp := tp.same sl
      clear Lk Fk sl sk hv
      -- the models
      refine ⟨(by show 2 ≤ sizeLine; decide), fun q2 hq2 => ?_⟩
      have sq := same_new (o := .lst [V.bl true, .bl false]) hq2
      have c2 : upd Hl q2 (.lst [V.bl true, .bl false]) q2 = some (.lst [V.bl true, .bl false]) := upd_same
      have Lm := Ll.same sq
      have Fm := Fl.same sq
      have ty := ty.same sq
      have tz := tz.same sq
      have tp := tp.same sq
      clear Ll Fl sq hq2
      generalize upd Hl q2 (.lst [V.bl true, .bl false]) = Hm at c2 Lm Fm ty tz tp ⊢
      refine ⟨q2, rfl, ⟨_, SqL.of c2⟩, ?_⟩
      refine for_list (xs := [V.bl true, .bl false]) (fun j σ H' => ∃ z14 z15 : Option V, σ = [some (.ref l), some (.ref b), some (.int (n : Nat)), some (.ref e), some (.ref ln), some (.ref lf), z6, some (.ref pa), some (.ref x), some (.int (0 + (i : Int))), some (.ref y), some (.ref z), some (.str (KX.vdS (vd ps qs (t, s2)))), some v, z14, z15] ∧ Same Hm H') ⟨z14, z15, rfl, Same.refl _⟩ (fun j σ H' _ z => let ⟨_, _, _, k⟩ := z; SqL.of (k _ _ c2)) ?_ ?_
      · rintro j xv σ Hn hx ⟨z14', z15', rfl, sn⟩
        obtain ⟨c, rfl⟩ : ∃ c : Bool, xv = .bl c := by
          match j, hx with
          | 0, hx => exact ⟨true, (Option.some.inj hx).symm⟩
          | 1, hx => exact ⟨false, (Option.some.inj hx).symm⟩
        have Ln := Lm.same sn
        have Fn := Fm.same sn
        obtain ⟨dx5, a5, b5', xs5, us5, hx5, _⟩ := id Fn
        refine ⟨_, rfl, x, dx5, _, rfl, hx5, rfl, _, rfl, _, rfl, _, rfl, x, y, z, c, ps, qs, (t, s2), rfl, Fn, ty.same sn, tz.same sn, by show KW.dep t ≤ 20; omega, by show KW.dep s2 ≤ 20; omega, by omega, by omega, fun q => absurd q (by rw [nc]; exact Bool.false_ne_true), fun _ hcl Ho so => ?_, fun _ hcl Ho dd so hdn hdd => ?_⟩
        · have hvs : KX.vdS (vd ps qs (t, s2)) = if c = true then "barred" else "sure" := by
            cases c with
            | true => exact KX.vd_barred nc hcl
            | false => exact KX.vd_sure nc hcl
          refine ⟨fun σ H' => σ = [some (.ref l), some (.ref b), some (.int (n : Nat)), some (.ref e), some (.ref ln), some (.ref lf), z6, some (.ref pa), some (.ref x), some (.int (0 + (i : Int))), some (.ref y), some (.ref z), some (.str (KX.vdS (vd ps qs (t, s2)))), some v, some (.bl c), some .non] ∧ Same Ho H', ?_, ?_⟩
          · refine ⟨_, rfl, rfl, _, rfl, iteT ?_⟩
            refine ⟨_, rfl, (by show 2 ≤ sizeLine; decide), fun q3 hq3 => ?_⟩
            refine ⟨_, rfl, c, rfl, .inr ⟨_, rfl, ?_⟩⟩
            refine ⟨q3, _, (if (!c) = true then 1 else 0), .str (if c = true then "barred" else "sure"), rfl, rfl, SqL.of upd_same, (by cases c <;> rfl), (by show 1 ≤ sizeLine; decide), fun q4 hq4 => ?_⟩
            have s34 := (same_new (o := .lst [V.str "barred", .str "sure"]) hq3).trans (same_new (o := .lst [V.str (if c = true then "barred" else "sure")]) hq4)
            refine ⟨q4, _, rfl, .inl (SqL.of upd_same), rfl, rfl, ?_⟩
            have e1 : (if true = true then !inV (V.str (KX.vdS (vd ps qs (t, s2)))) [V.str (if c = true then "barred" else "sure")] else inV (V.str (KX.vdS (vd ps qs (t, s2)))) [V.str (if c = true then "barred" else "sure")]) = false := by
              rw [hvs]
              cases c <;> decide
            refine ⟨_, rfl, ?_⟩
            dsimp only
            rw [e1]
            exact iteF ⟨rfl, s34⟩
          rintro _ Hp ⟨rfl, sp⟩
          refine ⟨_, rfl, rfl, _, rfl, iteF ?_⟩
          exact ⟨_, _, rfl, sn.trans (so.trans sp)⟩
        · refine ⟨fun σ H' => σ = [some (.ref l), some (.ref b), some (.int (n : Nat)), some (.ref e), some (.ref ln), some (.ref lf), z6, some (.ref pa), some (.ref x), some (.int (0 + (i : Int))), some (.ref y), some (.ref z), some (.str (KX.vdS (vd ps qs (t, s2)))), some v, some (.bl c), some (.ref dd)] ∧ Same Ho H', ⟨_, rfl, rfl, _, rfl, iteF ⟨rfl, Same.refl _⟩⟩, ?_⟩
          rintro _ Hp ⟨rfl, sp⟩
          have sop := so.trans sp
          refine ⟨_, rfl, rfl, _, rfl, iteT ?_⟩
          have Lp := Ln.same sop
          refine ⟨_, rfl, _, rfl, _, rfl, _, rfl, _, rfl, ln, lf, dd, .ref pa, c, xs, us, ps, qs, KX.supP ps (t, s2) c, (t, s2), rfl, Lp.hn, Lp.hps, Lp.hf, Lp.hqs, tp.same (sn.trans sop), sp _ _ hdd, sup_in, KX.sup_no nc hcl, KX.sup_all hcl, fun Hq sq => ⟨_, rfl, iteF ?_⟩⟩
          exact ⟨_, _, rfl, sn.trans (sop.trans sq)⟩
      · rintro σ Hn ⟨z14', z15', rfl, sn⟩
        exact ⟨_, _, _, _, _, _, _, _, _, rfl, (Lm.same sn).mono (by omega), Fm.same sn⟩
    · rintro σ Ha ⟨z6, z7, z9, z10, z11, z12, z13, z14, z15, rfl, _⟩
      exact k _
end
end KV

set_option Elab.async false
set_option linter.all false
set_option maxRecDepth 100000
set_option maxHeartbeats 0
/-! ## the end -/
namespace KV
open PySem PySem.Spec PyProof.Rows L2 VX
theorem facts {P : Program} {w : World} {K : PySem.W.Frag} {h : Heap} {mg : Str → Option Value} {f : Addr} (X : K.In h) (G : h.Ns mainGlobals mg) (hfa : mg ("law" : Str) = some (.ref f)) (c : He5.SaysA fa fn K) (e : ex K = true) :
    ∃ fd : FuncData, (∀ (s : Shared) (v : Value), BindsTo s fd ⟨[v], []⟩ [("_law_script", v)]) ∧ ∀ base : Heap, K.In base → base.Ns mainGlobals mg → FnOk P w K mg base CX0 40 f fd ["_law_script"] (spLaw K) := by
  have T : Txt K mg := txt_mk X G c e
  have D : Dfs K := dfs_mk c e
  have ee := hfa.symm.trans (T.dfs ("law", iLaw) (by decide +kernel))
  cases ee
  obtain ⟨fd, F⟩ := D.def "law" iLaw
  have b := FunD.bindsA (ps := ["_law_script"]) F fun _ _ _ _ _ _ us hl => match us, hl with | [_], _ => rfl
  exact ⟨fd, fun s v => b s [v] rfl, fun base _ _ => ok_law F ⟨T, D⟩⟩
end KV
open PySem PySem.W PySem.Calls PyProof.Rows
set_option maxRecDepth 100000 in
set_option maxHeartbeats 0 in
theorem PySem.Challenge.cw_handspaces_k91_whole_facts_of_a_triple_holds : PySem.Challenge.rw_handspaces_k91_whole_facts_of_a_triple.Holds := by
  w_on; o_law
  refine HandSHeadRun.head_any (r := KV.R) (q := view KV.R.prog [66]) (H := KV.hk) (ob := KV.ob) (M := 60000) (loose := KV.loose) (d := HandSHeadRun.topDef KV.R.prog 66) (kwd := []) KV.ob_eq
    (by kernel_rfl) (fun s => by kernel_rfl) KV.run (by kernel_rfl) (by kernel_rfl) (by kernel_rfl) (by rfl) (by first | assumption | decide +kernel) (by decide +kernel) ⟨rfl, rfl, rfl, rfl, rfl, by decide +kernel⟩ ?hw ?hc
  case hw => w_witness2
  case hc =>
    refine L2.walk_ofE (l := PySem.Challenge.rw_handspaces_k91_whole_facts_of_a_triple) (n := 63) (k := 40) (CX := L2.CX0) (x := "_law_script") rfl (by decide) (by kernel_rfl) ⟨rfl, by decide, by decide⟩ ?F (fun _ _ _ _ h => h)
    intro w mg fa h Y G hmg0
    obtain ⟨K, KX, c, e⟩ := Y
    have hmg : mg ("law" : PySem.Str) = some (.ref fa) := by
      have q : (HandSHeadRun.topDef KV.R.prog 66).name = ("law" : PySem.Str) := by kernel_rfl
      rw [← q]
      exact hmg0
    obtain ⟨fd, hb, hF⟩ := KV.facts (P := (PySem.Challenge.rw_handspaces_k91_whole_facts_of_a_triple).prog) (w := w) KX G hmg c e
    exact ⟨K, fd, KV.spLaw K, KX, hb, fun H a ns hl _ hS => ⟨a, ns, rfl, hS, fun _ => rfl⟩, hF⟩
