/-
  The law ParseMay, at every text.
-/
import Derived.Test.YtfkakdpppejehaaZHG
namespace Go.Proofs.Ytfkakdpppejehaa.Pp
open Go.RowKit
open Sc (Tok Cells str noTok scanL)
open Pa
set_option maxRecDepth 100000

theorem check_fits (q : PModel) (h : checkM q ≠ 0) : checkM q = 5 ∨ checkM q = 2 ∨ checkM q = 7 ∨ checkM q = 8 ∨ checkM q = 1 ∨ checkM q = 12 := by
  have e : checkM q = if bigM q = true then 5 else if formM q = true then 2 else if nameM q = true then 7 else if twiceM q = true then 8 else if domM q = true then 1 else if conM q = true then 12 else 0 := rfl
  rw [e] at h ⊢
  by_cases b1 : bigM q = true
  · simp [b1]
  by_cases b2 : formM q = true
  · simp [b1, b2]
  by_cases b3 : nameM q = true
  · simp [b1, b2, b3]
  by_cases b4 : twiceM q = true
  · simp [b1, b2, b3, b4]
  by_cases b5 : domM q = true
  · simp [b1, b2, b3, b4, b5]
  by_cases b6 : conM q = true
  · simp [b1, b2, b3, b4, b5, b6]
  simp [b1, b2, b3, b4, b5, b6] at h
/-- what is no model has a place within the text, and tells why -/
theorem err_known {K : Nat} {s : List UInt8} {p : Nat} {x : Int} (h : parseL K s = .err p x) : p ≤ s.length ∧ (1 ≤ x ∧ x ≤ 12) := by
  unfold parseL at h
  cases hs : scanL 0 s with
  | bad q e =>
    rw [hs] at h
    simp only [Out.err.injEq] at h
    obtain ⟨rfl, rfl⟩ := h
    have h1 := Sc.scan_ahead 0 s q e hs
    have h2 := Sc.scan_err hs
    exact ⟨by omega, by omega⟩
  | ok T =>
    rw [hs] at h
    have hT := (small_tokens hs).2
    refine ⟨err_place (fun t ht => by have := (hT t ht).2.2; omega) h, ?_⟩
    simp only at h
    unfold parseT outT at h
    split at h
    · simp only [Out.err.injEq] at h
      omega
    · split at h
      · simp only [Out.err.injEq] at h
        omega
      · split at h
        · cases h
        · rename_i hc
          simp only [Out.err.injEq] at h
          have := check_fits _ hc
          omega
theorem known_few (s : ByteArray) (h : s.size ≤ 1000) : ∀ T, scanL 0 (txt s) = .ok T → T.length ≤ 1000 ∧ ∀ t ∈ T, t.text.length ≤ 1000 := fun T hs => by
  obtain ⟨h1, h2⟩ := small_tokens hs
  have h3 : (txt s).length = s.size := by rw [txt_size]
  exact ⟨by omega, fun t ht => by have := (h2 t ht).2.1; omega⟩
set_option maxHeartbeats 4000000 in
theorem may_any (s : ByteArray) (w : World) : Calls Try.prog 3 #[.string s] w fun e w' => e = .returned (.bool true) ∧ Below w.heap.size w w' := by
  have AW := Lib.hid (fun W => awake_any W)
  by_cases hs : s.size ≤ 1000
  · have PX := Lib.hid (fun W => parse_any s (by omega) (known_few s hs) W)
    have hsi : ¬ ((1000 : Int) < ((s.size : Nat) : Int)) := by omega
    have hse : ((s.size : Nat) : Int) ≤ 1000 := by omega
    cases hr : parseL 10000 (txt s) with
    | model q =>
      rw [hr] at PX
      have hc : checkM q = 0 := by
        unfold parseL at hr
        split at hr
        · cases hr
        · exact model_may hr
      have HC := Lib.hid hc
      clear hr hc
      go_enter Try.func3, Try.ntmps3
      go_wp2_with fail
      refine (AW.out _).mono ?_
      rintro e w1 ⟨rfl, hB1⟩
      have B1 := Lib.hid hB1
      clear hB1
      go_wp2_with fail
      refine (PX.out _).mono ?_
      rintro e w2 ⟨hB2, p1, l1, c1, p2, l2, c2, rfl, hm, hf⟩
      have k3 := (Below.refl _ w2).alloc (Nat.le_refl _) (.cells #[.slice p1 l1 c1, .slice p2 l2 c2] 26)
      have CX := Lib.hid (check_any (rModel_stays _ _ _ _ k3 hm) hf)
      rw [HC.out] at CX
      have B3 := Lib.hid ((B1.out.trans (hB2.mono B1.out.size)).trans (k3.mono (Nat.le_trans B1.out.size hB2.size)))
      clear hB2 hm hf k3
      go_wp2_with fail
      refine CX.out.mono ?_
      rintro e w4 ⟨rfl, hB4⟩
      have B4 := Lib.hid (B3.out.trans (hB4.mono B3.out.size))
      clear hB4
      go_wp2_with fail
      go_ret
      exact ⟨rfl, B4.out⟩
    | err p x =>
      rw [hr] at PX
      obtain ⟨hp, hx1, hx2⟩ := err_known hr
      rw [show (txt s).length = s.size by rw [txt_size]] at hp
      have hx0 : (x == 0) = false := beq_eq_false_iff_ne.2 (by omega)
      have hp0 : (0 : Int) ≤ (p : Int) := by omega
      have hp1 : (p : Int) ≤ ((s.size : Nat) : Int) := by omega
      clear hr
      go_enter Try.func3, Try.ntmps3
      go_wp2_with fail
      refine (AW.out _).mono ?_
      rintro e w1 ⟨rfl, hB1⟩
      have B1 := Lib.hid hB1
      clear hB1
      go_wp2_with fail
      refine (PX.out _).mono ?_
      rintro e w2 ⟨hB2, rfl⟩
      have k3 := (Below.refl _ w2).alloc (Nat.le_refl _) (.cells #[.slice none 0 0, .slice none 0 0] 26)
      have B3 := Lib.hid ((B1.out.trans (hB2.mono B1.out.size)).trans (k3.mono (Nat.le_trans B1.out.size hB2.size)))
      clear hB2 k3
      go_wp2_with fail
      go_ret
      exact ⟨rfl, B3.out⟩
  · have hsi : (1000 : Int) < ((s.size : Nat) : Int) := by omega
    go_enter Try.func3, Try.ntmps3
    go_wp2_with fail
    refine (AW.out _).mono ?_
    rintro e w1 ⟨rfl, hB1⟩
    have B1 := Lib.hid hB1
    clear hB1
    go_wp2_with fail
    go_ret
    exact ⟨rfl, B1.out⟩
end Go.Proofs.Ytfkakdpppejehaa.Pp
