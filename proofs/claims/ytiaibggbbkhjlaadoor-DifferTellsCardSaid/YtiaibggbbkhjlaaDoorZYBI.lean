/-
  A region that draws its order, by a relation between what has come up, the frame and the world: shown at the start, kept by each operation whose forerunners have come up, and enough at the end. Nothing of the program.
  What the closure of keeperOf of package linear for Iff answers.
-/
import Derived.Deep.RegionHeld3
import Derived.Test.YtiaibggbbkhjlaaDoorZYBE
import Derived.Test.YtiaibggbbkhjlaaDoorZVRholds
namespace Go.Proofs.YtiaibggbbkhjlaaDoor

/- how a store into a row in words is reckoned, under short names -/
theorem sA {α : Type} {l : List α} {i : Nat} {a : α} : l.toArray.setIfInBounds i a = (l.set i a).toArray := List.setIfInBounds_toArray ..
theorem sZ {α : Type} {a : α} {xs : List α} {b : α} : (a :: xs).set 0 b = b :: xs := rfl
theorem sS {α : Type} {a : α} {xs : List α} {i : Nat} {b : α} : (a :: xs).set (i + 1) b = a :: xs.set i b := rfl
/-- what has come up, one more -/
def upd (l : Nat → Bool) (i : Nat) : Nat → Bool := fun j => if j = i then true else l j
theorem upd_ne {l : Nat → Bool} {i j : Nat} (h : j ≠ i) : upd l i j = l j := if_neg h
theorem upd_old {l : Nat → Bool} {i j : Nat} (hne : j ≠ i) (h : upd l i j = true) : l j = true := by rw [upd_ne hne] at h; exact h
theorem upd_same (l : Nat → Bool) (i : Nat) : upd l i i = true := if_pos rfl

/-- does each operation wait for earlier ones alone, in whichever order? -/
def inOrder (ops : Array Oper) : Bool := (List.range ops.size).all fun i => ((ops[i]?).map fun o => o.after.all fun e => !Region.binds .any e || decide (e.on < i)).getD true

section
variable {P : Program} {ops : Array Oper} {Q : Exit → Act → World → Prop}

theorem none_ready (ho : inOrder ops = true) {listed : Array Bool} (hr : Region.ready .any ops listed = []) : ∀ n, n < ops.size → listed.getD n true = true := by
  intro n
  induction n using Nat.strongRecOn with
  | _ n ih =>
    intro hn
    cases h : listed.getD n true with
    | true => rfl
    | false =>
      have hs : n < listed.size := Nat.lt_of_not_le fun hle => by simp [Array.getElem?_eq_none hle] at h
      have hmem : n ∈ Region.ready .any ops listed := by
        rw [mem_ready]
        obtain ⟨o, hoo⟩ : ∃ o, ops[n]? = some o := ⟨ops[n], Array.getElem?_eq_getElem hn⟩
        refine ⟨h, o, hoo, fun e he hb => ?_⟩
        have h1 := List.all_eq_true.1 ho n (List.mem_range.2 hn)
        rw [hoo] at h1
        have h1' : o.after.all (fun e => !Region.binds .any e || decide (e.on < n)) = true := h1
        have h2 : e.on < n := by
          have h4 := Array.all_eq_true_iff_forall_mem.1 h1' e he
          rw [hb] at h4
          exact of_decide_eq_true h4
        have h3 := ih e.on h2 (by omega)
        have hlt : e.on < listed.size := by omega
        simpa [hlt] using h3
      rw [hr] at hmem
      cases hmem

/-- one step of each operation of a list, from number n on -/
def StepsOf (F : Nat → Oper → Prop) : Nat → List Oper → Prop
  | _, [] => True
  | n, o :: r => F n o ∧ StepsOf F (n + 1) r
theorem steps_at {F : Nat → Oper → Prop} : ∀ {n : Nat} {os : List Oper}, StepsOf F n os → ∀ i o, os[i]? = some o → F (n + i) o
  | _, [], _, i, o, h => by simp at h
  | n, p :: r, ⟨h1, h2⟩, i, o, h => by
    cases i with
    | zero =>
      obtain rfl : p = o := by simpa using h
      exact h1
    | succ i =>
      have := steps_at h2 i o (by simpa using h)
      rw [show n + (i + 1) = n + 1 + i by omega]
      exact this

/-- what one operation must do -/
def StepOk (P : Program) (ops : Array Oper) (Q : Exit → Act → World → Prop) (I : (Nat → Bool) → Act → World → Prop) (i : Nat) (o : Oper) : Prop :=
  ∀ (l : Nat → Bool) (a : Act) (w : World), l i = false → (∀ e ∈ o.after, Region.binds .any e = true → l e.on = true) → I l a w →
    ∀ K : Act → World → Prop, Shut (∀ a' w', I (upd l i) a' w' → K a' w') → if Region.wanted o (yielded ops a.tmps) = true then Oper.wp P o a w K Q else K (a.put o.dst undef) w

theorem wpAny_inv (I : (Nat → Bool) → Act → World → Prop) (ho : inOrder ops = true) (hstep : StepsOf (StepOk P ops Q I) 0 ops.toList)
    (hdone : ∀ (l : Nat → Bool) a w, (∀ i, i < ops.size → l i = true) → I l a w → Q .normal a w) :
    ∀ (fuel : Nat) (listed : Array Bool) (a : Act) (w : World), listed.size = ops.size → (∀ i, fuel = 0 → i < ops.size → listed.getD i false = true) → (fuel ≠ 0 → listed.toList.countP (fun b => !b) ≤ fuel) → I (fun j => listed.getD j false) a w → wpAny P .any ops Q fuel listed a w := by
  have same : ∀ (listed : Array Bool) (i : Nat), i < listed.size → (fun j => (listed.setIfInBounds i true).getD j false) = upd (fun j => listed.getD j false) i := by
    intro listed i hi
    funext j
    unfold upd
    by_cases h : j = i
    · subst h
      simp [hi]
    · rw [getD_set_ne false (Ne.symm h), if_neg h]
  have last : ∀ (listed : Array Bool), listed.size = ops.size → Region.ready .any ops listed = [] → ∀ i, i < ops.size → listed.getD i false = true := by
    intro listed hsz hr i hi
    have := none_ready ho hr i hi
    have hlt : i < listed.size := by omega
    simpa [hlt] using this
  have cnt : ∀ (l : List Bool) (i : Nat), i < l.length → l[i]? = some false → (l.set i true).countP (fun b => !b) + 1 = l.countP (fun b => !b) := by
    intro l
    induction l with
    | nil => intro i h; simp at h
    | cons b r ih =>
      intro i hi h
      cases i with
      | zero =>
        obtain rfl : b = false := by simpa using h
        simp
      | succ i =>
        have := ih i (by simpa using hi) (by simpa using h)
        simp only [List.set_cons_succ, List.countP_cons]
        omega
  intro fuel
  induction fuel with
  | zero =>
    intro listed a w hsz hall _ hI
    refine ⟨?_, hdone _ a w (fun i hi => hall i rfl hi) hI⟩
    apply List.eq_nil_iff_forall_not_mem.2
    intro i hi
    rw [mem_ready] at hi
    obtain ⟨h1, o, h2, _⟩ := hi
    have hlt : i < ops.size := (Array.getElem?_eq_some_iff.1 h2).1
    have h3 := hall i rfl hlt
    have h4 : i < listed.size := by omega
    simp [h4] at h1 h3
    rw [h1] at h3
    cases h3
  | succ fuel ih =>
    intro listed a w hsz _ hc hI
    refine ⟨fun hr => hdone _ a w (last listed hsz hr) hI, fun i hi => ?_⟩
    rw [mem_ready] at hi
    obtain ⟨h1, o, h2, h3⟩ := hi
    have hlt : i < ops.size := (Array.getElem?_eq_some_iff.1 h2).1
    have hls : i < listed.size := by omega
    have hf : listed.getD i false = false := by simpa [hls] using h1
    have hst : StepOk P ops Q I (0 + i) o := steps_at hstep i o (by simpa using h2)
    rw [Nat.zero_add] at hst
    refine wpOp_step h2 (fun K' hK => hst (fun j => listed.getD j false) a w hf h3 hI K' (fun a' w' hI' => hK a' w' (ih _ a' w' (by simpa using hsz) ?_ ?_ ?_)))
    · intro j hz hj
      subst hz
      have c := hc (by omega)
      have hset : (listed.setIfInBounds i true).toList.countP (fun b => !b) = 0 := by
        have := cnt listed.toList i (by simpa using hls) (by
          have := h1
          simp [hls] at this
          simp [hls, this])
        simp only [Array.toList_setIfInBounds]
        omega
      rw [List.countP_eq_zero] at hset
      have hj' : j < (listed.setIfInBounds i true).size := by simp; omega
      have := hset ((listed.setIfInBounds i true)[j]) (Array.getElem_mem_toList hj')
      simp only [Bool.not_eq_true', Bool.not_eq_false] at this
      simp only [Array.getD, hj', dif_pos]
      simpa using this
    · intro _
      have c := hc (by omega)
      have := cnt listed.toList i (by simpa using hls) (by
          have := h1
          simp [hls] at this
          simp [hls, this])
      simp only [Array.toList_setIfInBounds]
      omega
    · rw [same listed i hls]
      exact hI'

/-- **the region by a relation** -/
theorem wp_region_inv {id : Nat} {a : Act} {w : World} (I : (Nat → Bool) → Act → World → Prop) (hm : P.follows .mixedOrders = true) (ho : inOrder ops = true)
    (h0 : I (fun _ => false) a w.drew) (hstep : StepsOf (StepOk P ops Q I) 0 ops.toList)
    (hdone : ∀ (l : Nat → Bool) a w, (∀ i, i < ops.size → l i = true) → I l a w → Q .normal a w) : (Code.region id ops true).wp P Q a w := by
  refine wp_region_any hm (wpAny_inv I ho hstep hdone _ _ _ _ (by simp) ?_ ?_ ?_)
  · intro i hz hi
    omega
  · intro _
    simp [Array.toList_replicate]
    exact Nat.le_trans (List.countP_le_length) (by simp)
  · have : (fun j => (Array.replicate ops.size false).getD j false) = fun _ => false := by
      funext j
      by_cases h : j < ops.size <;> simp [h]
    rw [this]
    exact h0

/-- a goal that no tactic looks into till it is opened: to open a hypothesis by cases looks into the goal -/
structure Now (p : Prop) : Prop where
  out : p

/-- does it wait for number j? -/
def waitsFor (o : Oper) (j : Nat) : Bool := o.after.any fun e => Region.binds .any e && e.on == j

/-- what one operation must do: the frame is the region's first one with what has come up put into it -/
def StepAt {γ : Type} (P : Program) (ops : Array Oper) (Q : Exit → Act → World → Prop) (J : γ → (Nat → Bool) → World → Prop) (put : γ → Array Value → Array Value) (tm : Array Value) (ds : List Deferred) (i : Nat) (o : Oper) : Prop :=
  ∀ (l : Nat → Bool) (g : γ) (u : World), l i = false → (∀ j, waitsFor o j = true → l j = true) → J g l u →
    ∀ K : Act → World → Prop, Shut (∀ g' u', J g' (upd l i) u' → K ⟨put g' tm, ds⟩ u') → Now (if Region.wanted o (yielded ops (put g tm)) = true then Oper.wp P o ⟨put g tm, ds⟩ u K Q else K (Act.put ⟨put g tm, ds⟩ o.dst undef) u)

theorem steps_imp {F G : Nat → Oper → Prop} (h : ∀ i o, F i o → G i o) : ∀ {n : Nat} {os : List Oper}, StepsOf F n os → StepsOf G n os
  | _, [], _ => trivial
  | n, o :: _, ⟨h1, h2⟩ => ⟨h n o h1, steps_imp h h2⟩

/-- **the region by a relation on what has come up** -/
theorem wp_region_at {γ : Type} {id : Nat} {tm : Array Value} {ds : List Deferred} {w : World} (J : γ → (Nat → Bool) → World → Prop) (put : γ → Array Value → Array Value) (g0 : γ) (hm : P.follows .mixedOrders = true) (ho : inOrder ops = true)
    (hput : put g0 tm = tm) (h0 : J g0 (fun _ => false) w.drew) (hstep : StepsOf (StepAt P ops Q J put tm ds) 0 ops.toList)
    (hdone : ∀ g u (l : Nat → Bool), (∀ i, i < ops.size → l i = true) → J g l u → Now (Q .normal ⟨put g tm, ds⟩ u)) : (Code.region id ops true).wp P Q ⟨tm, ds⟩ w := by
  refine wp_region_inv (fun l a u => ∃ g, J g l u ∧ a = ⟨put g tm, ds⟩) hm ho ⟨g0, h0, by rw [hput]⟩ (steps_imp ?_ hstep) ?_
  · intro i o hs l a u hl haf hI K hK
    obtain ⟨g, hJ, rfl⟩ := hI
    refine (hs l g u hl (fun j hj => ?_) hJ K (fun g' u' h => hK.out _ _ ⟨g', h, rfl⟩)).out
    unfold waitsFor at hj
    obtain ⟨k, hk, he⟩ := Array.any_eq_true.1 hj
    simp only [Bool.and_eq_true, beq_iff_eq] at he
    have := haf o.after[k] (Array.getElem_mem hk) he.1
    rw [he.2] at this
    exact this
  · intro l a u hall hI
    obtain ⟨g, hJ, rfl⟩ := hI
    exact (hdone g u l hall hJ).out
end
end Go.Proofs.YtiaibggbbkhjlaaDoor
namespace Go.Proofs.YtiaibggbbkhjlaaDoor.St
open Go.RowKit
set_option maxRecDepth 100000

/-- what is kept by an Iff -/
def iffK (A B : Bool) (O : Nat → Int → Bool) (a : Nat) (x : Int) : Bool := if a = 0 then (decide (x = 1) && A || decide (x = 0) && B) else O (a - 1) x

theorem slice_doms (b o l m : Nat) (h : l ≤ m) (h0 : 0 < l) (W : World) : (Instr.slice 25 (.slice (some ⟨b, o, none⟩) (l + 1) (m + 1)) (some (.int .i64 1)) none none).run Tryd.prog W = .ok (.slice (some ⟨b, o + 2, none⟩) l m) W := by
  have hc : m + 1 ≠ 1 := by omega
  have g1 : (1 : Int) ≤ ((l + 1 : Nat) : Int) := by omega
  rw [run_slice_l W 25 (some ⟨b, o, none⟩) (l + 1) (m + 1) Tryd.underlying25 .i64 1 (by decide) g1]
  simp only [Result.andThen]
  go_simp
  all_goals omega

end Go.Proofs.YtiaibggbbkhjlaaDoor.St
