/-
  What slices.IndexFunc and slices.ContainsFunc answer, at every list of blocks, of variables, of constraints that can be read, and any function of which a contract is known.
-/
import Derived.Test.YtkhjnicmbkklpaaMLargeN
import Derived.Shelf.Abstract
namespace Go.Proofs.Ytkhjnicmbkklpaa
open Go.RowKit
set_option maxRecDepth 100000

theorem decl_at2 {w : World} {p : Option Addr} {b off len : Nat} {L : List PDecl} (h : SliceOf rDecl 2 w p b off len L) {k : Nat} (hk : k < len) :
    ∃ (d : PDecl) (s : ByteArray) (v : Value), L[k]? = some d ∧ (w.cell? ⟨b, off + k * 2, none⟩ = some (.string s) ∧ w.cell? ⟨b, off + k * 2 + 1, none⟩ = some v) ∧ rDecl w [.string s, v] d := by
  obtain ⟨d, s, v, h1, h2, h3, h4, h5⟩ := decl_at h hk
  exact ⟨d, s, v, h1, ⟨h2, h3⟩, s, v, rfl, h4, h5⟩
theorem con_at2 {w : World} {p : Option Addr} {b off len : Nat} {L : List PCon} (h : SliceOf rCon 6 w p b off len L) {k : Nat} (hk : k < len) :
    ∃ (d : PCon) (v1 v2 v3 : Value), L[k]? = some d ∧ (w.cell? ⟨b, off + k * 6, none⟩ = some (.int .i64 d.kind) ∧ w.cell? ⟨b, off + k * 6 + 1, none⟩ = some v1 ∧ w.cell? ⟨b, off + k * 6 + 2, none⟩ = some v2 ∧
      w.cell? ⟨b, off + k * 6 + 3, none⟩ = some (.int .i64 d.rel) ∧ w.cell? ⟨b, off + k * 6 + 4, none⟩ = some (.int .i64 d.const) ∧ w.cell? ⟨b, off + k * 6 + 5, none⟩ = some v3) ∧ rCon w [.int .i64 d.kind, v1, v2, .int .i64 d.rel, .int .i64 d.const, v3] d := by
  have hx : k < L.length := by rw [← h.long]; exact hk
  obtain ⟨cs, h1, h2, h3⟩ := h.cell k _ (List.getElem?_eq_getElem hx)
  obtain ⟨v1, v2, v3, h4, h5⟩ := h3
  subst h4
  exact ⟨_, v1, v2, v3, List.getElem?_eq_getElem hx, ⟨h2 0 (by omega), h2 1 (by omega), h2 2 (by omega), h2 3 (by omega), h2 4 (by omega), h2 5 (by omega)⟩, v1, v2, v3, rfl, h5⟩
theorem block_at2 {w : World} {p : Option Addr} {b off len : Nat} {L : List PBlock} (h : SliceOf rBlock 3 w p b off len L) {k : Nat} (hk : k < len) :
    ∃ (x : PBlock) (v1 v2 : Value), L[k]? = some x ∧ (w.cell? ⟨b, off + k * 3, none⟩ = some (.bool x.all) ∧ w.cell? ⟨b, off + k * 3 + 1, none⟩ = some v1 ∧ w.cell? ⟨b, off + k * 3 + 2, none⟩ = some v2) ∧ rBlock w [.bool x.all, v1, v2] x := by
  obtain ⟨x, v1, v2, h1, _, h2, h3, h4, h5, h6⟩ := block_at h hk
  exact ⟨x, v1, v2, h1, ⟨h2, h3, h4⟩, v1, v2, rfl, h5, h6⟩
theorem rDecl_shape {w : World} {s : ByteArray} {v : Value} {d : PDecl} (h : rDecl w [.string s, v] d) : ∃ (p : Option Addr) (l c : Nat), v = .slice p l c := by
  obtain ⟨s', v', e, _, h2⟩ := h
  simp only [List.cons.injEq, and_true] at e
  obtain ⟨_, rfl⟩ := e
  exact slc_shape h2
theorem rBlock_shape {w : World} {a : Bool} {v1 v2 : Value} {d : PBlock} (h : rBlock w [.bool a, v1, v2] d) : (∃ (p : Option Addr) (l c : Nat), v1 = .slice p l c) ∧ ∃ (p : Option Addr) (l c : Nat), v2 = .slice p l c := by
  obtain ⟨u1, u2, e, h1, h2⟩ := h
  simp only [List.cons.injEq, and_true] at e
  obtain ⟨_, rfl, rfl⟩ := e
  exact ⟨slc_shape h1, slc_shape h2⟩
theorem rCon_shape {w : World} {k r t : Int} {v1 v2 v3 : Value} {d : PCon} (h : rCon w [.int .i64 k, v1, v2, .int .i64 r, .int .i64 t, v3] d) : (∃ (p : Option Addr) (l c : Nat), v1 = .slice p l c) ∧ (∃ (p : Option Addr) (l c : Nat), v2 = .slice p l c) ∧ ∃ (p : Option Addr) (l c : Nat), v3 = .slice p l c := by
  obtain ⟨u1, u2, u3, e, _, h1, h2, h3⟩ := h
  simp only [List.cons.injEq, and_true] at e
  obtain ⟨_, rfl, rfl, _, _, rfl⟩ := e
  exact ⟨slc_shape h1, slc_shape h2, slc_shape h3⟩
theorem any_hit {α : Type} (f : α → Bool) {L : List α} {k : Nat} {a : α} (h : L[k]? = some a) (hf : f a = true) : L.any f = true := List.any_eq_true.2 ⟨a, List.mem_of_getElem? h, hf⟩

set_option maxHeartbeats 400000 in
theorem indexC_cells (g : Nat) (hE : Enters Try.prog g) (env : Array Value) (f : PCon → Bool) (p : Option Addr) (b off c len : Nat) (L : List PCon) (w : World) (h : SliceOf rCon 6 w p b off len L) (hl : len ≤ 1000000)
    (hf : ∀ (u : World) (x : PCon) (v1 v2 v3 : Value), Below w.heap.size w u → x ∈ L → rCon u [.int .i64 x.kind, v1, v2, .int .i64 x.rel, .int .i64 x.const, v3] x → Calls Try.prog g (#[.agg #[.int .i64 x.kind, v1, v2, .int .i64 x.rel, .int .i64 x.const, v3]] ++ env) u fun e w' => e = .returned (.bool (f x)) ∧ Below u.heap.size u w') :
    Calls Try.prog 25 #[.slice p len c, .func (.func g) #[] env] w fun e w' => ∃ z : Int, e = .returned (.int .i64 z) ∧ decide (0 ≤ z) = L.any f ∧ -1 ≤ z ∧ Below w.heap.size w w' := by
  have HX := Lib.hid h
  have hp := h.at_
  have HN := Lib.hid h.long
  have HF := Lib.hid hf
  have HE := Lib.hid hE
  obtain ⟨R, hR⟩ : ∃ R, R = L.any f := ⟨_, rfl⟩
  rw [← hR]
  have HR := Lib.hid hR
  have HS := Lib.hid (show R = (L.drop 0).any f by rw [hR]; simp)
  clear h hf hE hR
  go_enter Try.func25, Try.ntmps25
  go_wp2
  go_loopw [8] (fun i wr => ∃ k : Nat, k ≤ len ∧ i = .int .i64 k ∧ R = (L.drop k).any f ∧ Below w.heap.size w wr) (fun i _ => len - (intOf i).toNat)
  case atStart => exact ⟨0, by omega, rfl, HS.out, Below.refl _ _⟩
  case round =>
    obtain ⟨k, hk, rfl, hrel, hB⟩ := hrel
    by_cases hlt : k < len
    · obtain rfl := hp (by omega)
      obtain ⟨x, v1, v2, v3, ex, ⟨a0, a1, a2, a3, a4, a5⟩, hx⟩ := con_at2 (HX.out.below rCon_stays hB) hlt
      obtain ⟨⟨p1, l1, c1, rfl⟩, ⟨p2, l2, c2, rfl⟩, ⟨p3, l3, c3, rfl⟩⟩ := rCon_shape hx
      have hstep := hrel.trans (any_at f ex)
      have C := Lib.hid (HF.out wr x _ _ _ hB (List.mem_of_getElem? ex) hx)
      have HB := Lib.hid hB
      generalize x.kind = xk at a0 C
      generalize x.rel = xr at a3 C
      generalize x.const = xt at a4 C
      cases hfx : f x
      · rw [hfx] at C hstep
        have NX := Lib.hid (hstep.trans (Bool.false_or _))
        clear hstep hrel hB ex hx hfx
        go_wp2_with fail
        simp only [HE.out _ _]
        refine C.out.mono ?_
        rintro e w2 ⟨rfl, hB2⟩
        have HB2 := Lib.hid (HB.out.trans (hB2.mono HB.out.size))
        clear hB2
        go_wp2_with fail
        go_roundw
        case rel => exact ⟨k + 1, by omega, by go_num, NX.out, HB2.out⟩
        case measure => simp [intOf]; omega
      · rw [hfx] at C hstep
        have key : R = true := hstep.trans (Bool.true_or _)
        subst key
        clear hstep hrel hB ex hx hfx
        go_wp2_with fail
        simp only [HE.out _ _]
        refine C.out.mono ?_
        rintro e w2 ⟨rfl, hB2⟩
        have HB2 := Lib.hid (HB.out.trans (hB2.mono HB.out.size))
        clear hB2
        go_wp2_with fail
        go_ret
        exact ⟨_, rfl, by simp, by omega, HB2.out⟩
    · have key : R = false := hrel.trans (any_end f (by rw [← HN.out]; omega))
      subst key
      have HB := Lib.hid hB
      clear hrel hB
      go_wp2_with fail
      go_ret
      exact ⟨_, rfl, by simp, by omega, HB.out⟩
set_option maxHeartbeats 400000 in
theorem hasC_any (g : Nat) (hE : Enters Try.prog g) (env : Array Value) (f : PCon → Bool) {v : Value} {L : List PCon} {w : World} (h : Slc rCon 6 w v L) (hl : L.length ≤ 1000000)
    (hf : ∀ (u : World) (x : PCon) (v1 v2 v3 : Value), Below w.heap.size w u → x ∈ L → rCon u [.int .i64 x.kind, v1, v2, .int .i64 x.rel, .int .i64 x.const, v3] x → Calls Try.prog g (#[.agg #[.int .i64 x.kind, v1, v2, .int .i64 x.rel, .int .i64 x.const, v3]] ++ env) u fun e w' => e = .returned (.bool (f x)) ∧ Below u.heap.size u w') :
    Calls Try.prog 16 #[v, .func (.func g) #[] env] w fun e w' => e = .returned (.bool (L.any f)) ∧ Below w.heap.size w w' := by
  obtain ⟨p, b, off, c, len, rfl, _, hs⟩ := h
  have C := Lib.hid (indexC_cells g hE env f p b off c len L w hs (by rw [hs.long]; exact hl) hf)
  clear hf hE hs
  obtain ⟨R, hR⟩ : ∃ R, R = L.any f := ⟨_, rfl⟩
  rw [← hR] at C ⊢
  clear hR hl
  go_enter Try.func16, Try.ntmps16
  go_wp2_with fail
  refine C.out.mono ?_
  rintro e w2 ⟨z, rfl, hz, hz1, hB⟩
  have HZ := Lib.hid hz
  have HB := Lib.hid hB
  clear hB hz
  cases R
  · have d : decide (0 ≤ z) = false := HZ.out
    go_wp2_with fail
    go_ret
    exact ⟨rfl, HB.out⟩
  · have d : decide (0 ≤ z) = true := HZ.out
    go_wp2_with fail
    go_ret
    exact ⟨rfl, HB.out⟩
end Go.Proofs.Ytkhjnicmbkklpaa
