/-
  What is true of lists of spans by themselves: which numbers they have, how many, where each stands; that numbers make one right list alone.
  What Right, Size, Place, Has and At of the program answer, at every list of spans that can be read.
  What Right, In, Size, Place and Same of the document's answers answer, at every list of spans that can be read.
  Models that may be, as plain data; sizes of domains in memory.
-/
import Derived.Test.YtkgieaoahijheaaGreatDoorRows
import Derived.WalkKit
import Derived.ProofKit
import Derived.OpenShut
import Derived.Outline
import Derived.WalkMore
import Derived.Lib.Hide
import Derived.BigGuardPart
import Derived.Deep.DeepCutAuto
import Derived.Deep.Light
import Derived.Deep.QuietTactic
import Derived.BigQuiet
import Derived.LoopTactic
import Derived.Laws.BitsAllLaws
import Derived.Laws.Bits64b
import Derived.Test.YtkgieaoahijheaaGreatDoorZYAE
import Derived.Test.YtkgieaoahijheaaGreatDoorZPRight
namespace Go.Proofs.YtkgieaoahijheaaGreatDoor

/-- right, where no number is below m -/
def rightF : Int → List (Int × Int) → Bool
  | _, [] => true
  | m, s :: r => decide (m ≤ s.1) && decide (s.1 ≤ s.2) && decide (s.2 ≤ 1048576) && rightF (s.2 + 2) r
def rightL (L : List (Int × Int)) : Bool := rightF (-1048576) L
def inL : List (Int × Int) → Int → Bool
  | [], _ => false
  | s :: r, v => (decide (s.1 ≤ v) && decide (v ≤ s.2)) || inL r v
def sizeL : List (Int × Int) → Int
  | [] => 0
  | s :: r => s.2 - s.1 + 1 + sizeL r
def atL : List (Int × Int) → Int → Option Int
  | [], _ => none
  | s :: r, k => if k < s.2 - s.1 + 1 then some (s.1 + k) else atL r (k - (s.2 - s.1 + 1))
def placeF : Int → List (Int × Int) → Int → Int
  | _, [], _ => -1
  | a, s :: r, v => if s.1 ≤ v ∧ v ≤ s.2 then a + v - s.1 else placeF (a + (s.2 - s.1 + 1)) r v
/-- the document's way to the place -/
def refF : Int → List (Int × Int) → Int → Int
  | a, [], _ => a
  | a, s :: r, v => if s.2 < v then refF (a + s.2 + 1 - s.1) r v else if s.1 ≤ v then refF (a + v - s.1) r v else refF a r v

theorem right_cons {m : Int} {s : Int × Int} {r : List (Int × Int)} : rightF m (s :: r) = true ↔ m ≤ s.1 ∧ s.1 ≤ s.2 ∧ s.2 ≤ 1048576 ∧ rightF (s.2 + 2) r = true := by
  simp [rightF, and_assoc]
theorem in_cons {s : Int × Int} {r : List (Int × Int)} {v : Int} : inL (s :: r) v = true ↔ (s.1 ≤ v ∧ v ≤ s.2) ∨ inL r v = true := by
  simp [inL]
theorem in_cons_false {s : Int × Int} {r : List (Int × Int)} {v : Int} : inL (s :: r) v = false ↔ (s.1 ≤ v → s.2 < v) ∧ inL r v = false := by
  simp [inL]

theorem in_low : ∀ {L : List (Int × Int)} {m v : Int}, rightF m L = true → inL L v = true → m ≤ v ∧ v ≤ 1048576
  | [], _, _, _, h => by simp [inL] at h
  | s :: r, m, v, hr, h => by
    obtain ⟨h1, h2, h3, h4⟩ := right_cons.1 hr
    rcases in_cons.1 h with h | h
    · omega
    · have := in_low h4 h
      omega
theorem in_out {L : List (Int × Int)} {m v : Int} (hr : rightF m L = true) (h : v < m ∨ 1048576 < v) : inL L v = false := by
  cases e : inL L v
  · rfl
  · have := in_low hr e
    omega

theorem size_bound : ∀ {L : List (Int × Int)} {m : Int}, rightF m L = true → 0 ≤ sizeL L ∧ (L = [] ∨ sizeL L ≤ 1048576 + 1 - m)
  | [], _, _ => by simp [sizeL]
  | s :: r, m, hr => by
    obtain ⟨h1, h2, h3, h4⟩ := right_cons.1 hr
    obtain ⟨i1, i2⟩ := size_bound h4
    refine ⟨by simp only [sizeL]; omega, .inr ?_⟩
    simp only [sizeL]
    rcases i2 with rfl | i2
    · simp only [sizeL]; omega
    · omega
theorem size_most {L : List (Int × Int)} (h : rightL L = true) : 0 ≤ sizeL L ∧ sizeL L ≤ 2097153 := by
  obtain ⟨h1, h2⟩ := size_bound h
  rcases h2 with rfl | h2
  · simp [sizeL]
  · omega

theorem uniq : ∀ {A B : List (Int × Int)} {m n : Int}, rightF m A = true → rightF n B = true → (∀ v, inL A v = inL B v) → A = B
  | [], [], _, _, _, _, _ => rfl
  | [], t :: q, _, _, _, hb, h => by
    obtain ⟨h1, h2, h3, h4⟩ := right_cons.1 hb
    have := h t.1
    have : inL (t :: q) t.1 = true := in_cons.2 (.inl ⟨by omega, h2⟩)
    simp_all [inL]
  | s :: r, [], _, _, ha, _, h => by
    obtain ⟨h1, h2, h3, h4⟩ := right_cons.1 ha
    have := h s.1
    have : inL (s :: r) s.1 = true := in_cons.2 (.inl ⟨by omega, h2⟩)
    simp_all [inL]
  | s :: r, t :: q, m, n, ha, hb, h => by
    obtain ⟨a1, a2, a3, a4⟩ := right_cons.1 ha
    obtain ⟨b1, b2, b3, b4⟩ := right_cons.1 hb
    have e1 : t.1 ≤ s.1 := by
      have h1 : inL (t :: q) s.1 = true := by rw [← h]; exact in_cons.2 (.inl ⟨by omega, a2⟩)
      rcases in_cons.1 h1 with h1 | h1
      · exact h1.1
      · have := in_low b4 h1; omega
    have e2 : s.1 ≤ t.1 := by
      have h1 : inL (s :: r) t.1 = true := by rw [h]; exact in_cons.2 (.inl ⟨by omega, b2⟩)
      rcases in_cons.1 h1 with h1 | h1
      · exact h1.1
      · have := in_low a4 h1; omega
    have e3 : t.2 ≤ s.2 := by
      have h0 : inL (s :: r) (s.2 + 1) = false := in_cons_false.2 ⟨fun _ => by omega, in_out a4 (by omega)⟩
      rw [h] at h0
      have := (in_cons_false.1 h0).1 (by omega)
      omega
    have e4 : s.2 ≤ t.2 := by
      have h0 : inL (t :: q) (t.2 + 1) = false := in_cons_false.2 ⟨fun _ => by omega, in_out b4 (by omega)⟩
      rw [← h] at h0
      have := (in_cons_false.1 h0).1 (by omega)
      omega
    have e : s = t := Prod.ext (by omega) (by omega)
    subst e
    have hr : r = q := by
      refine uniq a4 b4 fun v => ?_
      by_cases hv : v ≤ s.2
      · rw [in_out a4 (by omega), in_out b4 (by omega)]
      · have := h v
        simp only [inL] at this
        have hd : decide (v ≤ s.2) = false := by simp; omega
        simpa [hd] using this
    rw [hr]

theorem one {A B : List (Int × Int)} (ha : rightL A = true) (hb : rightL B = true) (h : ∀ v, inL A v = inL B v) : A = B := uniq ha hb h

/- places -/
theorem ref_low : ∀ {L : List (Int × Int)} {m a v : Int}, rightF m L = true → v < m → refF a L v = a
  | [], _, _, _, _, _ => rfl
  | s :: r, m, a, v, hr, hv => by
    obtain ⟨h1, h2, h3, h4⟩ := right_cons.1 hr
    rw [refF, if_neg (by omega), if_neg (by omega)]
    exact ref_low h4 (by omega)
theorem ref_place : ∀ {L : List (Int × Int)} {m a v : Int}, rightF m L = true → inL L v = true → refF a L v = placeF a L v
  | [], _, _, _, _, h => by simp [inL] at h
  | s :: r, m, a, v, hr, h => by
    obtain ⟨h1, h2, h3, h4⟩ := right_cons.1 hr
    rcases in_cons.1 h with h | h
    · rw [refF, placeF, if_neg (by omega), if_pos (by omega), if_pos (by omega)]
      exact ref_low h4 (by omega)
    · have := in_low h4 h
      rw [refF, placeF, if_pos (by omega), if_neg (by omega)]
      have e : a + s.2 + 1 - s.1 = a + (s.2 - s.1 + 1) := by omega
      rw [e]
      exact ref_place h4 h
theorem place_none : ∀ {L : List (Int × Int)} {a v : Int}, inL L v = false → placeF a L v = -1
  | [], _, _, _ => rfl
  | s :: r, a, v, h => by
    obtain ⟨h1, h2⟩ := in_cons_false.1 h
    rw [placeF, if_neg (by omega)]
    exact place_none h2
theorem place_some : ∀ {L : List (Int × Int)} {m a v : Int}, rightF m L = true → inL L v = true → a ≤ placeF a L v
  | [], _, _, _, _, h => by simp [inL] at h
  | s :: r, m, a, v, hr, h => by
    obtain ⟨h1, h2, h3, h4⟩ := right_cons.1 hr
    rw [placeF]
    split
    · omega
    · rename_i hn
      rcases in_cons.1 h with h | h
      · omega
      · have := place_some (a := a + (s.2 - s.1 + 1)) h4 h
        omega
theorem at_place : ∀ {L : List (Int × Int)} {m a k v : Int}, rightF m L = true → 0 ≤ k → atL L k = some v → inL L v = true ∧ placeF a L v = a + k
  | [], _, _, _, _, _, _, h => by simp [atL] at h
  | s :: r, m, a, k, v, hr, hk, h => by
    obtain ⟨h1, h2, h3, h4⟩ := right_cons.1 hr
    rw [atL] at h
    split at h
    · have e : s.1 + k = v := by simpa using h
      exact ⟨in_cons.2 (.inl (by omega)), by rw [placeF, if_pos (by omega)]; omega⟩
    · obtain ⟨i1, i2⟩ := at_place (a := a + (s.2 - s.1 + 1)) h4 (by omega) h
      have := in_low h4 i1
      exact ⟨in_cons.2 (.inr i1), by rw [placeF, if_neg (by omega), i2]; omega⟩
theorem at_some : ∀ {L : List (Int × Int)} {m k : Int}, rightF m L = true → 0 ≤ k → (atL L k).isSome = decide (k < sizeL L)
  | [], _, k, _, hk => by
    rw [atL, sizeL, decide_eq_false (by omega)]
    rfl
  | s :: r, m, k, hr, hk => by
    obtain ⟨h1, h2, h3, h4⟩ := right_cons.1 hr
    have hb := (size_bound h4).1
    rw [atL]
    split
    · rw [sizeL, decide_eq_true (by omega)]
      rfl
    · rw [at_some h4 (by omega), sizeL, Bool.eq_iff_iff]
      simp only [decide_eq_true_eq]
      omega

/- all numbers of a list -/
def run (a : Int) (n : Nat) : List Int := (List.range n).map fun k : Nat => a + k
def valuesL : List (Int × Int) → List Int
  | [] => []
  | s :: r => run s.1 (s.2 + 1 - s.1).toNat ++ valuesL r
theorem run_mem {a v : Int} {n : Nat} : v ∈ run a n ↔ a ≤ v ∧ v < a + n := by
  unfold run
  rw [List.mem_map]
  constructor
  · rintro ⟨k, hk, rfl⟩
    have := List.mem_range.1 hk
    omega
  · intro h
    exact ⟨(v - a).toNat, List.mem_range.2 (by omega), by omega⟩
theorem run_length (a : Int) (n : Nat) : (run a n).length = n := by simp [run]
theorem run_succ (a : Int) (n : Nat) : run a (n + 1) = run a n ++ [a + n] := by simp [run, List.range_succ]
theorem values_mem : ∀ {L : List (Int × Int)} {v : Int}, v ∈ valuesL L ↔ inL L v = true
  | [], v => by simp [valuesL, inL]
  | s :: r, v => by
    rw [valuesL, List.mem_append, run_mem, in_cons, values_mem]
    refine or_congr ?_ Iff.rfl
    omega
theorem values_length : ∀ {L : List (Int × Int)} {m : Int}, rightF m L = true → ((valuesL L).length : Int) = sizeL L
  | [], _, _ => rfl
  | s :: r, m, hr => by
    obtain ⟨h1, h2, h3, h4⟩ := right_cons.1 hr
    have := values_length h4
    rw [valuesL, List.length_append, run_length, sizeL]
    omega
theorem values_at : ∀ {L : List (Int × Int)} {m : Int} {k : Nat}, rightF m L = true → atL L k = (valuesL L)[k]?
  | [], _, _, _ => rfl
  | s :: r, m, k, hr => by
    obtain ⟨h1, h2, h3, h4⟩ := right_cons.1 hr
    rw [atL, valuesL]
    split
    · rw [List.getElem?_append_left (by rw [run_length]; omega), run, List.getElem?_map, List.getElem?_range (by omega)]
      rfl
    · rw [List.getElem?_append_right (by rw [run_length]; omega), run_length, ← values_at h4]
      congr 1
      omega

/- how many, counted -/
def cnt (p : Int → Bool) (lo : Int) : Nat → Int
  | 0 => 0
  | n + 1 => cnt p lo n + if p (lo + n) = true then 1 else 0
theorem cnt_none {p : Int → Bool} {lo : Int} : ∀ {n : Nat}, (∀ v, lo ≤ v → v < lo + n → p v = false) → cnt p lo n = 0
  | 0, _ => rfl
  | n + 1, h => by
    rw [cnt, cnt_none (fun v h1 h2 => h v h1 (by omega)), h (lo + n) (by omega) (by omega)]
    rfl
theorem cnt_all {p : Int → Bool} {lo : Int} : ∀ {n : Nat}, (∀ v, lo ≤ v → v < lo + n → p v = true) → cnt p lo n = n
  | 0, _ => rfl
  | n + 1, h => by
    rw [cnt, cnt_all (fun v h1 h2 => h v h1 (by omega)), h (lo + n) (by omega) (by omega)]
    simp
theorem cnt_same {p q : Int → Bool} {lo : Int} : ∀ {n : Nat}, (∀ v, lo ≤ v → v < lo + n → p v = q v) → cnt p lo n = cnt q lo n
  | 0, _ => rfl
  | n + 1, h => by
    rw [cnt, cnt, cnt_same (fun v h1 h2 => h v h1 (by omega)), h (lo + n) (by omega) (by omega)]
theorem cnt_add (p : Int → Bool) (lo : Int) (a : Nat) : ∀ b : Nat, cnt p lo (a + b) = cnt p lo a + cnt p (lo + a) b
  | 0 => by simp [cnt]
  | b + 1 => by
    rw [← Nat.add_assoc, cnt, cnt, cnt_add p lo a b]
    have e : lo + ((a + b : Nat) : Int) = lo + a + b := by omega
    rw [e]
    omega
theorem size_cnt : ∀ {L : List (Int × Int)} {m : Int} {n : Nat}, rightF m L = true → m + n = 1048577 → sizeL L = cnt (inL L) m n
  | [], m, n, _, _ => (cnt_none (p := inL []) (lo := m) (n := n) (fun v _ _ => rfl)).symm
  | s :: r, m, n, hr, hn => by
    obtain ⟨h1, h2, h3, h4⟩ := right_cons.1 hr
    obtain ⟨x, hx⟩ : ∃ x : Nat, m + x = s.1 := ⟨(s.1 - m).toNat, by omega⟩
    obtain ⟨y, hy⟩ : ∃ y : Nat, s.1 + y = s.2 + 1 := ⟨(s.2 + 1 - s.1).toNat, by omega⟩
    obtain ⟨z, hz⟩ : ∃ z : Nat, s.2 + 1 + z = 1048577 := ⟨(1048576 - s.2).toNat, by omega⟩
    have en : n = x + (y + z) := by omega
    subst en
    rw [cnt_add, cnt_add, hx, hy]
    have c1 : cnt (inL (s :: r)) m x = 0 := cnt_none fun v v1 v2 => in_cons_false.2 ⟨fun _ => by omega, in_out h4 (by omega)⟩
    have c2 : cnt (inL (s :: r)) s.1 y = y := cnt_all fun v v1 v2 => in_cons.2 (.inl (by omega))
    have c3 : cnt (inL (s :: r)) (s.2 + 1) z = sizeL r := by
      cases z with
      | zero =>
        cases r with
        | nil => rfl
        | cons t q =>
          obtain ⟨g1, g2, g3, g4⟩ := right_cons.1 h4
          omega
      | succ z =>
        rw [Nat.add_comm, cnt_add, cnt_none (n := 1) (fun v v1 v2 => in_cons_false.2 ⟨fun _ => by omega, in_out h4 (by omega)⟩)]
        have e : s.2 + 1 + ((1 : Nat) : Int) = s.2 + 2 := by omega
        rw [e, size_cnt (n := z) h4 (by omega), Int.zero_add]
        refine cnt_same fun v v1 v2 => ?_
        rw [Bool.eq_iff_iff, in_cons]
        constructor
        · rintro (h | h)
          · omega
          · exact h
        · exact .inr
    rw [c1, c2, c3, sizeL]
    omega
theorem size_sets {A B U N D : List (Int × Int)} (ha : rightL A = true) (hb : rightL B = true) (hu : rightL U = true) (hn : rightL N = true) (hd : rightL D = true)
    (iu : ∀ v, inL U v = (inL A v || inL B v)) (iN : ∀ v, inL N v = (inL A v && inL B v)) (id : ∀ v, inL D v = (inL A v && !inL B v)) :
    sizeL U = sizeL A + sizeL B - sizeL N ∧ sizeL D = sizeL A - sizeL N := by
  have hm : (-1048576 : Int) + (2097153 : Nat) = 1048577 := by omega
  rw [size_cnt ha hm, size_cnt hb hm, size_cnt hu hm, size_cnt hn hm, size_cnt hd hm]
  clear hm ha hb hu hn hd
  generalize (2097153 : Nat) = n
  induction n with
  | zero => exact ⟨rfl, rfl⟩
  | succ n ih =>
    simp only [cnt]
    generalize (-1048576 : Int) + (n : Int) = v
    obtain ⟨i1, i2⟩ := ih
    have h1 := iu v
    have h2 := iN v
    have h3 := id v
    rw [h1, h2, h3]
    cases inL A v <;> cases inL B v <;> simp <;> omega

/- a span more at the end -/
def lst : Int → List (Int × Int) → Int
  | m, [] => m
  | _, s :: r => lst (s.2 + 2) r
theorem lst_snoc : ∀ (A : List (Int × Int)) (m : Int) (s : Int × Int), lst m (A ++ [s]) = s.2 + 2
  | [], _, _ => rfl
  | _ :: r, _, s => lst_snoc r _ s
theorem right_snoc : ∀ {A : List (Int × Int)} {m : Int} {s : Int × Int}, rightF m (A ++ [s]) = true ↔ rightF m A = true ∧ lst m A ≤ s.1 ∧ s.1 ≤ s.2 ∧ s.2 ≤ 1048576
  | [], m, s => by
    rw [List.nil_append, right_cons]
    simp [rightF, lst]
  | t :: r, m, s => by
    rw [List.cons_append, right_cons, right_cons, right_snoc, lst]
    simp only [and_assoc]
theorem in_snoc : ∀ {A : List (Int × Int)} {s : Int × Int} {v : Int}, inL (A ++ [s]) v = (inL A v || (decide (s.1 ≤ v) && decide (v ≤ s.2)))
  | [], _, _ => by simp [inL]
  | t :: r, s, v => by rw [List.cons_append, inL, inL, in_snoc, Bool.or_assoc]
theorem in_lst : ∀ {A : List (Int × Int)} {m v : Int}, rightF m A = true → inL A v = true → v + 2 ≤ lst m A
  | [], _, _, _, h => by simp [inL] at h
  | s :: r, m, v, hr, h => by
    obtain ⟨h1, h2, h3, h4⟩ := right_cons.1 hr
    rw [lst]
    have mono : ∀ {A : List (Int × Int)} {m : Int}, rightF m A = true → m ≤ lst m A := by
      intro A
      induction A with
      | nil => intro m _; exact Int.le_refl _
      | cons t q ih =>
        intro m hq
        obtain ⟨g1, g2, g3, g4⟩ := right_cons.1 hq
        have := ih g4
        rw [lst]
        omega
    rcases in_cons.1 h with h | h
    · have := mono h4
      omega
    · exact in_lst h4 h

/-- one number more, where none that is there is greater -/
def step (A : List (Int × Int)) (v : Int) : List (Int × Int) :=
  match A.getLast? with
  | none => [(v, v)]
  | some s => if v ≤ s.2 + 1 then A.dropLast ++ [(s.1, v)] else A ++ [(v, v)]
theorem last_split {A : List (Int × Int)} (h : A ≠ []) : ∃ B s, A = B ++ [s] := ⟨A.dropLast, A.getLast h, (List.dropLast_concat_getLast h).symm⟩
theorem step_snoc (B : List (Int × Int)) (s : Int × Int) (v : Int) : step (B ++ [s]) v = if v ≤ s.2 + 1 then B ++ [(s.1, v)] else B ++ [s] ++ [(v, v)] := by
  unfold step
  rw [List.getLast?_append]
  simp
theorem step_nil (v : Int) : step [] v = [(v, v)] := rfl
/-- right; its numbers are those of which p tells; none is above t, and t is its last, if it has one -/
structure Built (A : List (Int × Int)) (p : Int → Prop) (t : Int) : Prop where
  right : rightL A = true
  has : ∀ v, inL A v = true ↔ p v
  last : ∀ B s, A = B ++ [s] → s.2 = t
theorem step_built {A : List (Int × Int)} {p q : Int → Prop} {t v : Int} (h : Built A p t) (hv : A ≠ [] → t ≤ v) (h1 : -1048576 ≤ v) (h2 : v ≤ 1048576) (hq : ∀ x, q x ↔ p x ∨ x = v) : Built (step A v) q v := by
  by_cases e : A = []
  · subst e
    refine ⟨?_, fun x => ?_, fun B s hs => ?_⟩
    · rw [step_nil, rightL, right_cons]
      exact ⟨h1, Int.le_refl _, h2, rfl⟩
    · rw [step_nil, in_cons, hq, ← h.has]
      simp [inL]
      omega
    · rw [step_nil] at hs
      have := congrArg List.getLast? hs
      simp at this
      rw [← this]
  · obtain ⟨B, s, rfl⟩ := last_split e
    have ht := h.last B s rfl
    have hr := h.right
    rw [rightL, right_snoc] at hr
    obtain ⟨r1, r2, r3, r4⟩ := hr
    have hv := hv e
    rw [step_snoc]
    split
    · rename_i hle
      refine ⟨?_, fun x => ?_, fun B' s' hs => ?_⟩
      · rw [rightL, right_snoc]
        exact ⟨r1, r2, by simp only []; omega, h2⟩
      · rw [hq, ← h.has, in_snoc, in_snoc]
        simp only [Bool.or_eq_true, Bool.and_eq_true, decide_eq_true_eq]
        constructor
        · rintro (h | h)
          · exact .inl (.inl h)
          · by_cases hx : x = v
            · exact .inr hx
            · exact .inl (.inr (by omega))
        · rintro ((h | h) | h)
          · exact .inl h
          · exact .inr (by omega)
          · exact .inr (by omega)
      · have := congrArg List.getLast? hs
        simp at this
        rw [← this]
    · rename_i hgt
      refine ⟨?_, fun x => ?_, fun B' s' hs => ?_⟩
      · rw [rightL, right_snoc, lst_snoc, right_snoc]
        exact ⟨⟨r1, r2, r3, r4⟩, by simp only []; omega, Int.le_refl _, h2⟩
      · rw [hq, ← h.has, in_snoc (s := (v, v))]
        simp only [Bool.or_eq_true, Bool.and_eq_true, decide_eq_true_eq]
        refine or_congr Iff.rfl ?_
        omega
      · have := congrArg List.getLast? hs
        simp at this
        rw [← this]

/- the ends of a list -/
def endL : List (Int × Int) → Nat → Int
  | [], _ => 9223372036854775807
  | s :: _, 0 => s.1
  | s :: _, 1 => s.2 + 1
  | _ :: r, i + 2 => endL r i
def odd (i : Nat) : Bool := i % 2 == 1
theorem end_eq : ∀ (L : List (Int × Int)) (i : Nat), endL L i = if i / 2 < L.length then (if odd i then (L.getD (i / 2) (0, 0)).2 + 1 else (L.getD (i / 2) (0, 0)).1) else 9223372036854775807
  | [], i => by simp [endL]
  | s :: r, 0 => by simp [endL, odd]
  | s :: r, 1 => by simp [endL, odd]
  | s :: r, i + 2 => by
    rw [endL, end_eq r i]
    have e : (i + 2) / 2 = i / 2 + 1 := by omega
    have o : odd (i + 2) = odd i := by unfold odd; congr 1; omega
    rw [e, o]
    simp
theorem end_low : ∀ {L : List (Int × Int)} {m : Int} {i : Nat}, rightF m L = true → m ≤ 1048578 → m ≤ endL L i
  | [], m, i, _, hm => by rw [endL]; omega
  | s :: r, m, 0, hr, hm => (right_cons.1 hr).1
  | s :: r, m, 1, hr, hm => by obtain ⟨h1, h2, h3, h4⟩ := right_cons.1 hr; rw [endL]; omega
  | s :: r, m, i + 2, hr, hm => by
    obtain ⟨h1, h2, h3, h4⟩ := right_cons.1 hr
    have := end_low (i := i) h4 (by omega)
    rw [endL]
    omega
theorem end_up : ∀ {L : List (Int × Int)} {m : Int} {i : Nat}, rightF m L = true → endL L i ≠ 9223372036854775807 → endL L i < endL L (i + 1) ∧ endL L i ≤ 1048577 ∧ i < 2 * L.length
  | [], m, i, _, h => absurd rfl h
  | s :: r, m, 0, hr, h => by obtain ⟨h1, h2, h3, h4⟩ := right_cons.1 hr; simp only [endL, List.length_cons]; omega
  | s :: r, m, 1, hr, h => by
    obtain ⟨h1, h2, h3, h4⟩ := right_cons.1 hr
    have := end_low (i := 0) h4 (by omega)
    simp only [endL, List.length_cons]
    omega
  | s :: r, m, i + 2, hr, h => by
    obtain ⟨h1, h2, h3, h4⟩ := right_cons.1 hr
    have := end_up (i := i) h4 h
    simp only [endL, List.length_cons]
    omega
theorem end_most {L : List (Int × Int)} {m : Int} {i : Nat} (hr : rightF m L = true) : endL L i ≤ 9223372036854775807 := by
  by_cases h : endL L i = 9223372036854775807
  · omega
  · have := (end_up hr h).2.1
    omega
theorem end_none : ∀ {L : List (Int × Int)} {i : Nat}, i = 2 * L.length → endL L i = 9223372036854775807
  | [], _, _ => rfl
  | s :: r, 0, h => by simp at h
  | s :: r, 1, h => by simp only [List.length_cons] at h; omega
  | s :: r, i + 2, h => by simp only [List.length_cons] at h; exact end_none (L := r) (i := i) (by omega)
theorem end_in : ∀ {L : List (Int × Int)} {m v : Int} {i : Nat}, rightF m L = true → (i = 0 ∨ ∃ j, i = j + 1 ∧ endL L j ≤ v) → v < endL L i → v < 9223372036854775807 → inL L v = odd i
  | [], m, v, i, _, h, _, hb => by
    rcases h with rfl | ⟨j, rfl, h⟩
    · rfl
    · rw [endL] at h; omega
  | s :: r, m, v, 0, hr, h, hv, hb => by
    obtain ⟨h1, h2, h3, h4⟩ := right_cons.1 hr
    rw [endL] at hv
    exact in_cons_false.2 ⟨fun _ => by omega, in_out h4 (by omega)⟩
  | s :: r, m, v, 1, hr, h, hv, hb => by
    obtain ⟨h1, h2, h3, h4⟩ := right_cons.1 hr
    rcases h with h | ⟨j, hj, h⟩
    · omega
    · obtain rfl : j = 0 := by omega
      have hv : v < s.2 + 1 := hv
      have h : s.1 ≤ v := h
      exact in_cons.2 (.inl (by omega))
  | s :: r, m, v, i + 2, hr, h, hv, hb => by
    obtain ⟨h1, h2, h3, h4⟩ := right_cons.1 hr
    rcases h with h | ⟨j, hj, h⟩
    · omega
    · obtain rfl : j = i + 1 := by omega
      have o : odd (i + 2) = odd i := by unfold odd; congr 1; omega
      rw [o]
      cases i with
      | zero =>
        have hv : v < endL r 0 := hv
        have h : s.2 + 1 ≤ v := h
        have := end_in (i := 0) h4 (.inl rfl) hv hb
        rw [← this, Bool.eq_iff_iff, in_cons]
        constructor
        · rintro (h | h)
          · omega
          · exact h
        · exact .inr
      | succ i =>
        have hv : v < endL r (i + 1) := hv
        have h : endL r i ≤ v := h
        have hl := end_low (i := i) h4 (by omega)
        have := end_in (i := i + 1) h4 (.inr ⟨i, rfl, h⟩) hv hb
        rw [← this, Bool.eq_iff_iff, in_cons]
        constructor
        · rintro (h | h)
          · omega
          · exact h
        · exact .inr
end Go.Proofs.YtkgieaoahijheaaGreatDoor
namespace Go.Proofs.YtkgieaoahijheaaGreatDoor
open Go.RowKit

/-- the cells of a list of spans, from an address on -/
def Cells (w : World) (b off : Nat) (L : List (Int × Int)) : Prop :=
  ∀ k, k < L.length → w.cell? ⟨b, off + k * 2, none⟩ = some (.int .i64 (L.getD k (0, 0)).1) ∧ w.cell? ⟨b, off + k * 2 + 1, none⟩ = some (.int .i64 (L.getD k (0, 0)).2)
/-- the slice value v reads as the spans L -/
def Sees (w : World) (v : Value) (L : List (Int × Int)) : Prop :=
  ∃ (p : Option Addr) (b off c : Nat), v = .slice p L.length c ∧ (0 < L.length → p = some ⟨b, off, none⟩) ∧ Cells w b off L

theorem cell_below {w wr : World} {p : Addr} {v : Value} (hB : Below w.heap.size w wr) (h : w.cell? p = some v) : wr.cell? p = some v := by
  have hlt : p.block < w.heap.size := by
    unfold World.cell? at h
    cases hh : w.heap[p.block]? with
    | none => simp [hh] at h
    | some q => exact (Array.getElem?_eq_some_iff.1 hh).1
  exact (hB.cell hlt).trans h
theorem cells_below {w wr : World} {b off : Nat} {L : List (Int × Int)} (h : Cells w b off L) (hB : Below w.heap.size w wr) : Cells wr b off L :=
  fun k hk => ⟨cell_below hB (h k hk).1, cell_below hB (h k hk).2⟩
theorem sees_below {w wr : World} {v : Value} {L : List (Int × Int)} (h : Sees w v L) (hB : Below w.heap.size w wr) : Sees wr v L := by
  obtain ⟨p, b, off, c, h1, h2, h3⟩ := h
  exact ⟨p, b, off, c, h1, h2, cells_below h3 hB⟩
theorem drop_cons {L : List (Int × Int)} {k : Nat} (h : k < L.length) : L.drop k = L.getD k (0, 0) :: L.drop (k + 1) := by
  rw [List.getD_eq_getElem?_getD, List.getElem?_eq_getElem h]
  exact List.drop_eq_getElem_cons h
theorem drop_end {L : List (Int × Int)} {k : Nat} (h : L.length ≤ k) : L.drop k = [] := List.drop_eq_nil_of_le h

set_option maxHeartbeats 400000 in
theorem width_any (a b : Int) (w : World) (h1 : -4000000 ≤ a) (h2 : a ≤ 4000000) (h3 : -4000000 ≤ b) (h4 : b ≤ 4000000) :
    Calls Tryz.prog 91 #[.agg #[.int .i64 a, .int .i64 b]] w fun e w' => e = .returned (.int .i64 (b - a + 1)) ∧ Below w.heap.size w w' := by
  go_enter Tryz.func91, Tryz.ntmps91
  go_wp2_with fail
  go_ret
  refine ⟨by go_num, (Below.refl _ w).alloc (Nat.le_refl _) _⟩

def RightRel (L : List (Int × Int)) (k : Nat) (z : Int) : Prop := rightL L = rightF z (L.drop k) ∧ -1048576 ≤ z ∧ z ≤ 1048578

set_option maxHeartbeats 400000 in
theorem right_cells (p : Option Addr) (b off c len : Nat) (L : List (Int × Int)) (hl : len = L.length) (w : World) (hm : len ≤ 1000000) (hp : 0 < len → p = some ⟨b, off, none⟩) (hx : Cells w b off L) :
    Calls Tryz.prog 90 #[.slice p len c] w fun e w' => e = .returned (.bool (rightL L)) ∧ Below w.heap.size w w' := by
  have HX := Lib.hid hx
  have HN := Lib.hid hl
  have HS := Lib.hid (show RightRel L 0 (-1048576) from ⟨rfl, by omega, by omega⟩)
  obtain ⟨R, hR⟩ : ∃ R, R = rightL L := ⟨_, rfl⟩
  rw [← hR]
  have HR := Lib.hid hR
  clear hx hl hR
  go_enter Tryz.func90, Tryz.ntmps90
  go_wp2
  go_loopw [3, 8] (fun v i wr => ∃ k : Nat, k ≤ len ∧ i = .int .i64 k ∧ ∃ z, v = .int .i64 z ∧ RightRel L k z ∧ Below w.heap.size w wr) (fun _ i _ => len - (intOf i).toNat)
  case atStart => exact ⟨0, by omega, rfl, _, rfl, HS.out, Below.refl _ w⟩
  case round =>
    obtain ⟨k, hk, rfl, z, rfl, hrel, hB⟩ := hrel
    by_cases hlt : k < len
    · obtain rfl := hp (by omega)
      have hlx : k < L.length := by have := HN.out; omega
      obtain ⟨c0, c1⟩ := HX.out k hlx
      have c0 := cell_below hB c0
      have c1 := cell_below hB c1
      have hd := drop_cons hlx
      obtain ⟨x, ex⟩ : ∃ x, x = (L.getD k (0, 0)).1 := ⟨_, rfl⟩
      obtain ⟨y, ey⟩ : ∃ y, y = (L.getD k (0, 0)).2 := ⟨_, rfl⟩
      rw [← ex] at c0
      rw [← ey] at c1
      have key : rightL L = (decide (z ≤ x) && decide (x ≤ y) && decide (y ≤ 1048576) && rightF (y + 2) (L.drop (k + 1))) := by
        rw [hrel.1, hd, rightF, ex, ey]
      have HK := Lib.hid key
      have hz := hrel.2
      have HB := Lib.hid (hB.alloc hB.size (.cells #[.int .i64 x, .int .i64 y] 71))
      clear ex ey hd hlx hB hrel key
      go_wp2_with fail
      · go_ret
        exact ⟨by rw [HR.out, HK.out, decide_eq_false (by omega)]; rfl, HB.out⟩
      · go_ret
        exact ⟨by rw [HR.out, HK.out, decide_eq_false (p := x ≤ y) (by omega)]; simp, HB.out⟩
      · go_ret
        exact ⟨by rw [HR.out, HK.out, decide_eq_false (p := y ≤ 1048576) (by omega)]; simp, HB.out⟩
      · go_roundw
        case rel => exact ⟨k + 1, by omega, by go_num, y + 2, by go_num, ⟨by rw [HK.out, decide_eq_true (by omega), decide_eq_true (p := x ≤ y) (by omega), decide_eq_true (p := y ≤ 1048576) (by omega)]; simp, by omega, by omega⟩, HB.out⟩
        case measure => simp [intOf]; omega
    · have hd : L.drop k = [] := drop_end (by have := HN.out; omega)
      have key : rightL L = true := by rw [hrel.1, hd]; rfl
      have HK := Lib.hid key
      have HB := Lib.hid hB
      clear hrel hB key hd hp
      go_wp2
      go_ret
      exact ⟨by rw [HR.out, HK.out]; rfl, HB.out⟩

theorem right_any {w : World} {v : Value} {L : List (Int × Int)} (h : Sees w v L) (hm : L.length ≤ 1000000) :
    Calls Tryz.prog 90 #[v] w fun e w' => e = .returned (.bool (rightL L)) ∧ Below w.heap.size w w' := by
  obtain ⟨p, b, off, c, rfl, hp, hx⟩ := h
  exact right_cells p b off c _ L rfl w hm hp hx

theorem below_two {w w1 w2 : World} (h1 : Below w.heap.size w w1) (h2 : Below w1.heap.size w1 w2) : Below w.heap.size w w2 := by
  exact h1.trans (h2.mono h1.size)

/-- behind the spans ahead of place k: what is left is right, from z on -/
def Rest (L : List (Int × Int)) (k : Nat) (z : Int) : Prop := rightF z (L.drop k) = true ∧ -1048576 ≤ z
theorem rest_start {L : List (Int × Int)} (h : rightL L = true) : Rest L 0 (-1048576) := ⟨h, by omega⟩
theorem rest_on {L : List (Int × Int)} {k : Nat} {z x y : Int} (h : Rest L k z) (hk : k < L.length) (ex : x = (L.getD k (0, 0)).1) (ey : y = (L.getD k (0, 0)).2) :
    Rest L (k + 1) (y + 2) ∧ z ≤ x ∧ x ≤ y ∧ y ≤ 1048576 ∧ -1048576 ≤ z ∧ 0 ≤ sizeL (L.drop (k + 1)) := by
  obtain ⟨h1, h2⟩ := h
  rw [drop_cons hk, right_cons, ← ex, ← ey] at h1
  obtain ⟨g1, g2, g3, g4⟩ := h1
  exact ⟨⟨g4, by omega⟩, g1, g2, g3, h2, (size_bound g4).1⟩

def SizeRel (L : List (Int × Int)) (k : Nat) (n : Int) : Prop := sizeL L = n + sizeL (L.drop k) ∧ 0 ≤ n ∧ ∃ z, Rest L k z
theorem size_on {L : List (Int × Int)} {k : Nat} {n x y : Int} (h : SizeRel L k n) (hk : k < L.length) (ex : x = (L.getD k (0, 0)).1) (ey : y = (L.getD k (0, 0)).2) : SizeRel L (k + 1) (n + (y - x + 1)) := by
  obtain ⟨h1, h2, z, h3⟩ := h
  obtain ⟨g1, g2⟩ := rest_on h3 hk ex ey
  refine ⟨?_, by omega, _, g1⟩
  rw [h1, drop_cons hk, sizeL, ex, ey]
  omega

set_option maxHeartbeats 400000 in
theorem size_cells (p : Option Addr) (b off c len : Nat) (L : List (Int × Int)) (hl : len = L.length) (w : World) (hm : len ≤ 1000000) (hp : 0 < len → p = some ⟨b, off, none⟩) (hx : Cells w b off L) :
    Calls Tryz.prog 76 #[.slice p len c] w fun e w' => e = .returned (.int .i64 (if rightL L = true then sizeL L else 0)) ∧ Below w.heap.size w w' := by
  have hc := right_cells p b off c len L hl w hm hp hx
  cases hR : rightL L
  · rw [hR] at hc
    rw [if_neg (by simp)]
    have C := Lib.hid hc
    clear hc hR hl hx hp
    go_enter Tryz.func76, Tryz.ntmps76
    go_wp2_with fail
    refine C.out.mono ?_
    rintro e w1 ⟨rfl, hB⟩
    have HB := Lib.hid hB
    clear hB
    go_wp2_with fail
    go_ret
    exact ⟨rfl, HB.out⟩
  · rw [hR] at hc
    rw [if_pos rfl]
    have hbd := size_most hR
    have HS := Lib.hid (show SizeRel L 0 0 from ⟨by simp, by omega, _, rest_start hR⟩)
    obtain ⟨R, eR⟩ : ∃ R, R = sizeL L := ⟨_, rfl⟩
    rw [← eR] at hbd ⊢
    have HR := Lib.hid eR
    have C := Lib.hid hc
    have HX := Lib.hid hx
    have HN := Lib.hid hl
    clear hc hR hl hx eR
    go_enter Tryz.func76, Tryz.ntmps76
    go_wp2_with fail
    refine C.out.mono ?_
    rintro e w1 ⟨rfl, hB1⟩
    have HB1 := Lib.hid hB1
    clear hB1
    go_wp2
    go_loopw [3, 11] (fun v i wr => ∃ k : Nat, k ≤ len ∧ i = .int .i64 k ∧ ∃ n, v = .int .i64 n ∧ SizeRel L k n ∧ Below w.heap.size w wr) (fun _ i _ => len - (intOf i).toNat)
    case atStart => exact ⟨0, by omega, rfl, 0, rfl, HS.out, HB1.out⟩
    case round =>
      obtain ⟨k, hk, rfl, n, rfl, hrel, hB⟩ := hrel
      by_cases hlt : k < len
      · obtain rfl := hp (by omega)
        have hlx : k < L.length := by have := HN.out; omega
        obtain ⟨c0, c1⟩ := HX.out k hlx
        have c0 := cell_below hB c0
        have c1 := cell_below hB c1
        obtain ⟨x, ex⟩ : ∃ x, x = (L.getD k (0, 0)).1 := ⟨_, rfl⟩
        obtain ⟨y, ey⟩ : ∃ y, y = (L.getD k (0, 0)).2 := ⟨_, rfl⟩
        rw [← ex] at c0
        rw [← ey] at c1
        have hon := size_on hrel hlx ex ey
        obtain ⟨q1, q2, z, q3⟩ := hrel
        obtain ⟨_, g1, g2, g3, g4, g5⟩ := rest_on q3 hlx ex ey
        have hn : n + (y - x + 1) ≤ R := by rw [HR.out, hon.1]; omega
        have HO := Lib.hid hon
        have HB := Lib.hid (hB.alloc hB.size (.cells #[.int .i64 x, .int .i64 y] 71))
        have W := Lib.hid (fun w => width_any x y w (by omega) (by omega) (by omega) (by omega))
        clear ex ey hlx hB q1 q3 hon
        go_wp2_with fail
        refine (W.out _).mono ?_
        rintro e w2 ⟨rfl, hB2⟩
        have HB2 := Lib.hid (below_two HB.out hB2)
        clear hB2
        go_wp2_with fail
        go_roundw
        case rel => exact ⟨k + 1, by omega, by go_num, n + (y - x + 1), by go_num, HO.out, HB2.out⟩
        case measure => simp [intOf]; omega
      · have hd : L.drop k = [] := drop_end (by have := HN.out; omega)
        have key : R = n := by rw [HR.out, hrel.1, hd, sizeL]; omega
        have HB := Lib.hid hB
        subst key
        clear hrel hB hd hp
        go_wp2
        go_ret
        exact ⟨rfl, HB.out⟩

theorem size_any {w : World} {v : Value} {L : List (Int × Int)} (h : Sees w v L) (hm : L.length ≤ 1000000) :
    Calls Tryz.prog 76 #[v] w fun e w' => e = .returned (.int .i64 (if rightL L = true then sizeL L else 0)) ∧ Below w.heap.size w w' := by
  obtain ⟨p, b, off, c, rfl, hp, hx⟩ := h
  exact size_cells p b off c _ L rfl w hm hp hx
end Go.Proofs.YtkgieaoahijheaaGreatDoor
namespace Go.Proofs.YtkgieaoahijheaaGreatDoor
open Go.RowKit


/-- as RightRel, with the last end -/
def RRel (L : List (Int × Int)) (k : Nat) : Prop :=
  ∃ z, RightRel L k z ∧ (k = 0 ∧ z = -1048576 ∨ 0 < k ∧ z = (L.getD (k - 1) (0, 0)).2 + 2)

end Go.Proofs.YtkgieaoahijheaaGreatDoor
namespace Go.Proofs.YtkgieaoahijheaaGreatDoor
open Go.RowKit
set_option maxRecDepth 100000

def szL (L : List (Int × Int)) : Int := if rightL L = true then sizeL L else 0
theorem sz_low (L : List (Int × Int)) : 0 ≤ szL L ∧ szL L ≤ 2097153 := by
  unfold szL
  by_cases h : rightL L = true
  · rw [if_pos h]
    exact size_most h
  · rw [if_neg h]
    omega
theorem sees_of {w : World} {v : Value} {L : List (Int × Int)} (h : Slc rSpan 2 w v L) : Sees w v L := by
  obtain ⟨p, b, off, c, len, rfl, _, hs⟩ := h
  have hl := hs.long
  subst hl
  exact ⟨p, b, off, c, rfl, hs.at_, fun k hk => span_at hs hk⟩
theorem psize_any {w : World} {v : Value} {L : List (Int × Int)} (h : Slc rSpan 2 w v L) (hm : L.length ≤ 1000000) :
    Calls Tryz.prog 76 #[v] w fun e w' => e = .returned (.int .i64 (szL L)) ∧ Below w.heap.size w w' := size_any (sees_of h) hm
def bigM (m : PModel) : Bool := decide (8 < m.blocks.length) || (decide (16 < m.goal.length) || (m.blocks.any (fun b => decide (16 < b.cons.length)) || decide (16 < (varsL m.blocks).length)))
def formM (m : PModel) : Bool := decide (m.blocks.length = 0) || m.blocks.any (fun b => decide (b.vars.length = 0))
def nameM (m : PModel) : Bool := (varsL m.blocks).any (fun d => !nameL d.name)
def names (L : List PDecl) : List (List UInt8) := L.map (·.name)
/-- do two of the first n have one name? -/
def TwiceTo (ns : List (List UInt8)) (n : Nat) : Prop := ∃ i j, j < i ∧ i < n ∧ ns.getD i [] = ns.getD j []
open Classical in
noncomputable def twiceM (m : PModel) : Bool := decide (TwiceTo (names (varsL m.blocks)) (names (varsL m.blocks)).length)
def domD (d : PDecl) : Bool := decide (szL d.dom < 1) || decide (64 < szL d.dom)
def domM (m : PModel) : Bool := (varsL m.blocks).any domD
noncomputable def wrongL (L : List PCon) (n : Nat) : Bool := L.any (fun c => !rightC c (n : Int))
noncomputable def conF (n : Nat) : List PBlock → Bool
  | [] => false
  | b :: r => wrongL b.cons (n + b.vars.length) || conF (n + b.vars.length) r
noncomputable def conM (m : PModel) : Bool := conF 0 m.blocks || wrongL m.goal (varsL m.blocks).length
/-- the first of some errors -/
def firstF : List (Bool × Int) → Int
  | [] => 0
  | (b, e) :: r => if b = true then e else firstF r
noncomputable def faultsM (m : PModel) : List (Bool × Int) := [(bigM m, 5), (formM m, 2), (nameM m, 7), (twiceM m, 8), (domM m, 1), (conM m, 12)]
noncomputable def checkM (m : PModel) : Int := firstF (faultsM m)

/-- the lists of a model are short -/
structure Few (m : PModel) : Prop where
  blocks : m.blocks.length ≤ 1000
  vars : ∀ b ∈ m.blocks, b.vars.length ≤ 1000
  wheres : ∀ b ∈ m.blocks, b.cons.length ≤ 1000 ∧ ∀ c ∈ b.cons, Short 1000 c
  goal : m.goal.length ≤ 1000 ∧ ∀ c ∈ m.goal, Short 1000 c
  decls : ∀ b ∈ m.blocks, ∀ d ∈ b.vars, d.name.length ≤ 1000 ∧ d.dom.length ≤ 1000
  few : (varsL m.blocks).length ≤ 1000
theorem vars_most (bs : List PBlock) (h : ∀ x ∈ bs, x.vars.length ≤ 30) : (varsL bs).length ≤ bs.length * 30 := by
  induction bs with
  | nil => simp [varsL]
  | cons x r ih =>
    have h1 := h x (by simp)
    have h2 := ih fun y hy => h y (by simp [hy])
    have e : varsL (x :: r) = x.vars ++ varsL r := by simp [varsL]
    rw [e, List.length_append, List.length_cons]
    omega
theorem short_up {c : PCon} (h : Short 150 c) : Short 1000 c := ⟨by have := h.1; omega, by have := h.2.1; omega, by have := h.2.2; omega⟩
theorem few_of {m : PModel} (h : largeB m = false) : Few m := by
  simp only [largeB, Bool.or_eq_false_iff, decide_eq_false_iff_not, List.any_eq_false] at h
  obtain ⟨h1, h2, h3⟩ := h
  have hb : ∀ b ∈ m.blocks, ¬ 30 < b.vars.length ∧ consB b.cons = false ∧ ∀ d ∈ b.vars, ¬ longD d = true := fun b hb => by
    have := h3 b hb
    rw [Bool.not_eq_true] at this
    simpa only [longB, Bool.or_eq_false_iff, decide_eq_false_iff_not, List.any_eq_false] using this
  have hd : ∀ b ∈ m.blocks, ∀ d ∈ b.vars, d.name.length ≤ 1000 ∧ d.dom.length ≤ 1000 := fun b q d r => by
    have := (hb b q).2.2 d r
    simp [longD] at this
    omega
  have hv : ∀ b ∈ m.blocks, b.vars.length ≤ 30 := fun b q => by have := (hb b q).1; omega
  have ht := vars_most m.blocks hv
  exact ⟨by omega, fun b q => by have := hv b q; omega, fun b q => ⟨by have := (cons_short (hb b q).2.1).1; omega, fun c hc => short_up ((cons_short (hb b q).2.1).2 c hc)⟩, ⟨by have := (cons_short h2).1; omega, fun c hc => short_up ((cons_short h2).2 c hc)⟩, hd, by omega⟩
theorem Few.decl {m : PModel} (h : Few m) : ∀ d ∈ varsL m.blocks, d.name.length ≤ 1000 ∧ d.dom.length ≤ 1000 := fun d hd => by
  obtain ⟨b, hb, hd⟩ := List.mem_flatMap.1 hd
  exact h.decls b hb d hd
theorem twice_yes {ns : List (List UInt8)} {n i j : Nat} (hj : j < i) (hi : i < n) (e : ns.getD i [] = ns.getD j []) : TwiceTo ns n := ⟨i, j, hj, hi, e⟩
theorem names_get {L : List PDecl} {k : Nat} {d : PDecl} (h : L[k]? = some d) : (names L).getD k [] = d.name := by
  simp [names, h]
theorem dom_is (d : PDecl) : domD d = (decide (szL d.dom = 0) || decide (64 < szL d.dom)) := by
  have := (sz_low d.dom).1
  unfold domD
  congr 1
  exact decide_eq_decide.2 (by omega)
theorem totals {bs : List PBlock} {k : Nat} {x : PBlock} (h : bs[k]? = some x) : (varsL (bs.take (k + 1))).length = (varsL (bs.take k)).length + x.vars.length := by
  obtain ⟨hk, e⟩ := List.getElem?_eq_some_iff.1 h
  rw [vars_drop (x := x) (by rw [← e]; exact List.drop_eq_getElem_cons hk), List.length_append]
theorem con_at_k {bs : List PBlock} {n k : Nat} {x : PBlock} (h : bs[k]? = some x) : conF n (bs.drop k) = (wrongL x.cons (n + x.vars.length) || conF (n + x.vars.length) (bs.drop (k + 1))) := by
  obtain ⟨hk, e⟩ := List.getElem?_eq_some_iff.1 h
  rw [List.drop_eq_getElem_cons hk, conF, e]
end Go.Proofs.YtkgieaoahijheaaGreatDoor
