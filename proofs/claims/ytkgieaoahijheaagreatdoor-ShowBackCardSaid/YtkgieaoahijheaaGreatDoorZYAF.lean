/-
  What slices.IndexFunc and slices.ContainsFunc answer, at every list of blocks, of variables, of constraints that can be read, and any function of which a contract is known.
  What letter, reserved and Name of package model answer, at every text.
-/
import Derived.Test.YtkgieaoahijheaaGreatDoorZYAE
import Derived.Shelf.Abstract
namespace Go.Proofs.YtkgieaoahijheaaGreatDoor
open Go.RowKit
set_option maxRecDepth 100000

theorem decl_at2 {w : World} {p : Option Addr} {b off len : Nat} {L : List PDecl} (h : SliceOf rDecl 2 w p b off len L) {k : Nat} (hk : k < len) :
    ∃ (d : PDecl) (s : ByteArray) (v : Value), L[k]? = some d ∧ (w.cell? ⟨b, off + k * 2, none⟩ = some (.string s) ∧ w.cell? ⟨b, off + k * 2 + 1, none⟩ = some v) ∧ rDecl w [.string s, v] d := by
  obtain ⟨d, s, v, h1, h2, h3, h4, h5⟩ := decl_at h hk
  exact ⟨d, s, v, h1, ⟨h2, h3⟩, s, v, rfl, h4, h5⟩
theorem con_at2 {w : World} {p : Option Addr} {b off len : Nat} {L : List PCon} (h : SliceOf rCon 6 w p b off len L) {k : Nat} (hk : k < len) :
    ∃ (d : PCon) (v1 v2 v3 : Value), L[k]? = some d ∧ (w.cell? ⟨b, off + k * 6, none⟩ = some (.int .i64 d.kind) ∧ w.cell? ⟨b, off + k * 6 + 1, none⟩ = some v1 ∧ w.cell? ⟨b, off + k * 6 + 2, none⟩ = some v2 ∧
      w.cell? ⟨b, off + k * 6 + 3, none⟩ = some (.int .i64 d.rel) ∧ w.cell? ⟨b, off + k * 6 + 4, none⟩ = some (.int .i64 d.const) ∧ w.cell? ⟨b, off + k * 6 + 5, none⟩ = some v3) ∧ rCon w [.int .i64 d.kind, v1, v2, .int .i64 d.rel, .int .i64 d.const, v3] d := by
  have hx : k < L.length := by rw [← h.long]; exact hk
  obtain ⟨cs, h1, h2, h3⟩ := h.cell k _ (List.getElem?_eq_getElem hx)
  obtain ⟨v1, v2, v3, h4, h5⟩ := h3
  subst h4
  exact ⟨_, v1, v2, v3, List.getElem?_eq_getElem hx, ⟨h2 0 (by omega), h2 1 (by omega), h2 2 (by omega), h2 3 (by omega), h2 4 (by omega), h2 5 (by omega)⟩, v1, v2, v3, rfl, h5⟩
theorem block_at2 {w : World} {p : Option Addr} {b off len : Nat} {L : List PBlock} (h : SliceOf rBlock 3 w p b off len L) {k : Nat} (hk : k < len) :
    ∃ (x : PBlock) (v1 v2 : Value), L[k]? = some x ∧ (w.cell? ⟨b, off + k * 3, none⟩ = some (.bool x.all) ∧ w.cell? ⟨b, off + k * 3 + 1, none⟩ = some v1 ∧ w.cell? ⟨b, off + k * 3 + 2, none⟩ = some v2) ∧ rBlock w [.bool x.all, v1, v2] x := by
  obtain ⟨x, v1, v2, h1, _, h2, h3, h4, h5, h6⟩ := block_at h hk
  exact ⟨x, v1, v2, h1, ⟨h2, h3, h4⟩, v1, v2, rfl, h5, h6⟩
theorem rDecl_shape {w : World} {s : ByteArray} {v : Value} {d : PDecl} (h : rDecl w [.string s, v] d) : ∃ (p : Option Addr) (l c : Nat), v = .slice p l c := by
  obtain ⟨s', v', e, _, h2⟩ := h
  simp only [List.cons.injEq, and_true] at e
  obtain ⟨_, rfl⟩ := e
  exact slc_shape h2
theorem rBlock_shape {w : World} {a : Bool} {v1 v2 : Value} {d : PBlock} (h : rBlock w [.bool a, v1, v2] d) : (∃ (p : Option Addr) (l c : Nat), v1 = .slice p l c) ∧ ∃ (p : Option Addr) (l c : Nat), v2 = .slice p l c := by
  obtain ⟨u1, u2, e, h1, h2⟩ := h
  simp only [List.cons.injEq, and_true] at e
  obtain ⟨_, rfl, rfl⟩ := e
  exact ⟨slc_shape h1, slc_shape h2⟩
theorem rCon_shape {w : World} {k r t : Int} {v1 v2 v3 : Value} {d : PCon} (h : rCon w [.int .i64 k, v1, v2, .int .i64 r, .int .i64 t, v3] d) : (∃ (p : Option Addr) (l c : Nat), v1 = .slice p l c) ∧ (∃ (p : Option Addr) (l c : Nat), v2 = .slice p l c) ∧ ∃ (p : Option Addr) (l c : Nat), v3 = .slice p l c := by
  obtain ⟨u1, u2, u3, e, _, h1, h2, h3⟩ := h
  simp only [List.cons.injEq, and_true] at e
  obtain ⟨_, rfl, rfl, _, _, rfl⟩ := e
  exact ⟨slc_shape h1, slc_shape h2, slc_shape h3⟩
theorem any_hit {α : Type} (f : α → Bool) {L : List α} {k : Nat} {a : α} (h : L[k]? = some a) (hf : f a = true) : L.any f = true := List.any_eq_true.2 ⟨a, List.mem_of_getElem? h, hf⟩

set_option maxHeartbeats 400000 in
theorem indexB_cells (g : Nat) (hE : Enters Tryz.prog g) (env : Array Value) (f : PBlock → Bool) (p : Option Addr) (b off c len : Nat) (L : List PBlock) (w : World) (h : SliceOf rBlock 3 w p b off len L) (hl : len ≤ 1000000)
    (hf : ∀ (u : World) (x : PBlock) (v1 v2 : Value), Below w.heap.size w u → x ∈ L → rBlock u [.bool x.all, v1, v2] x → Calls Tryz.prog g (#[.agg #[.bool x.all, v1, v2]] ++ env) u fun e w' => e = .returned (.bool (f x)) ∧ Below u.heap.size u w') :
    Calls Tryz.prog 86 #[.slice p len c, .func (.func g) #[] env] w fun e w' => ∃ z : Int, e = .returned (.int .i64 z) ∧ decide (0 ≤ z) = L.any f ∧ -1 ≤ z ∧ Below w.heap.size w w' := by
  have HX := Lib.hid h
  have hp := h.at_
  have HN := Lib.hid h.long
  have HF := Lib.hid hf
  have HE := Lib.hid hE
  obtain ⟨R, hR⟩ : ∃ R, R = L.any f := ⟨_, rfl⟩
  rw [← hR]
  have HR := Lib.hid hR
  have HS := Lib.hid (show R = (L.drop 0).any f by rw [hR]; simp)
  clear h hf hE hR
  go_enter Tryz.func86, Tryz.ntmps86
  go_wp2
  go_loopw [8] (fun i wr => ∃ k : Nat, k ≤ len ∧ i = .int .i64 k ∧ R = (L.drop k).any f ∧ Below w.heap.size w wr) (fun i _ => len - (intOf i).toNat)
  case atStart => exact ⟨0, by omega, rfl, HS.out, Below.refl _ _⟩
  case round =>
    obtain ⟨k, hk, rfl, hrel, hB⟩ := hrel
    by_cases hlt : k < len
    · obtain rfl := hp (by omega)
      obtain ⟨x, v1, v2, ex, ⟨a0, a1, a2⟩, hx⟩ := block_at2 (HX.out.below rBlock_stays hB) hlt
      obtain ⟨⟨p1, l1, c1, rfl⟩, ⟨p2, l2, c2, rfl⟩⟩ := rBlock_shape hx
      have hstep := hrel.trans (any_at f ex)
      have C := Lib.hid (HF.out wr x _ _ hB (List.mem_of_getElem? ex) hx)
      have HB := Lib.hid hB
      generalize x.all = xa at a0 C
      cases hfx : f x
      · rw [hfx] at C hstep
        have NX := Lib.hid (hstep.trans (Bool.false_or _))
        clear hstep hrel hB ex hx hfx
        go_wp2_with fail
        simp only [HE.out _ _]
        refine C.out.mono ?_
        rintro e w2 ⟨rfl, hB2⟩
        have HB2 := Lib.hid (HB.out.trans (hB2.mono HB.out.size))
        clear hB2
        go_wp2_with fail
        go_roundw
        case rel => exact ⟨k + 1, by omega, by go_num, NX.out, HB2.out⟩
        case measure => simp [intOf]; omega
      · rw [hfx] at C hstep
        have key : R = true := hstep.trans (Bool.true_or _)
        subst key
        clear hstep hrel hB ex hx hfx
        go_wp2_with fail
        simp only [HE.out _ _]
        refine C.out.mono ?_
        rintro e w2 ⟨rfl, hB2⟩
        have HB2 := Lib.hid (HB.out.trans (hB2.mono HB.out.size))
        clear hB2
        go_wp2_with fail
        go_ret
        exact ⟨_, rfl, by simp, by omega, HB2.out⟩
    · have key : R = false := hrel.trans (any_end f (by rw [← HN.out]; omega))
      subst key
      have HB := Lib.hid hB
      clear hrel hB
      go_wp2_with fail
      go_ret
      exact ⟨_, rfl, by simp, by omega, HB.out⟩
set_option maxHeartbeats 400000 in
theorem hasB_any (g : Nat) (hE : Enters Tryz.prog g) (env : Array Value) (f : PBlock → Bool) {v : Value} {L : List PBlock} {w : World} (h : Slc rBlock 3 w v L) (hl : L.length ≤ 1000000)
    (hf : ∀ (u : World) (x : PBlock) (v1 v2 : Value), Below w.heap.size w u → x ∈ L → rBlock u [.bool x.all, v1, v2] x → Calls Tryz.prog g (#[.agg #[.bool x.all, v1, v2]] ++ env) u fun e w' => e = .returned (.bool (f x)) ∧ Below u.heap.size u w') :
    Calls Tryz.prog 70 #[v, .func (.func g) #[] env] w fun e w' => e = .returned (.bool (L.any f)) ∧ Below w.heap.size w w' := by
  obtain ⟨p, b, off, c, len, rfl, _, hs⟩ := h
  have C := Lib.hid (indexB_cells g hE env f p b off c len L w hs (by rw [hs.long]; exact hl) hf)
  clear hf hE hs
  obtain ⟨R, hR⟩ : ∃ R, R = L.any f := ⟨_, rfl⟩
  rw [← hR] at C ⊢
  clear hR hl
  go_enter Tryz.func70, Tryz.ntmps70
  go_wp2_with fail
  refine C.out.mono ?_
  rintro e w2 ⟨z, rfl, hz, hz1, hB⟩
  have HZ := Lib.hid hz
  have HB := Lib.hid hB
  clear hB hz
  cases R
  · have d : decide (0 ≤ z) = false := HZ.out
    go_wp2_with fail
    go_ret
    exact ⟨rfl, HB.out⟩
  · have d : decide (0 ≤ z) = true := HZ.out
    go_wp2_with fail
    go_ret
    exact ⟨rfl, HB.out⟩

set_option maxHeartbeats 400000 in
theorem indexD_cells (g : Nat) (hE : Enters Tryz.prog g) (env : Array Value) (f : PDecl → Bool) (p : Option Addr) (b off c len : Nat) (L : List PDecl) (w : World) (h : SliceOf rDecl 2 w p b off len L) (hl : len ≤ 1000000)
    (hf : ∀ (u : World) (x : PDecl) (s : ByteArray) (v1 : Value), Below w.heap.size w u → x ∈ L → rDecl u [.string s, v1] x → Calls Tryz.prog g (#[.agg #[.string s, v1]] ++ env) u fun e w' => e = .returned (.bool (f x)) ∧ Below u.heap.size u w') :
    Calls Tryz.prog 87 #[.slice p len c, .func (.func g) #[] env] w fun e w' => ∃ z : Int, e = .returned (.int .i64 z) ∧ decide (0 ≤ z) = L.any f ∧ -1 ≤ z ∧ Below w.heap.size w w' := by
  have HX := Lib.hid h
  have hp := h.at_
  have HN := Lib.hid h.long
  have HF := Lib.hid hf
  have HE := Lib.hid hE
  obtain ⟨R, hR⟩ : ∃ R, R = L.any f := ⟨_, rfl⟩
  rw [← hR]
  have HR := Lib.hid hR
  have HS := Lib.hid (show R = (L.drop 0).any f by rw [hR]; simp)
  clear h hf hE hR
  go_enter Tryz.func87, Tryz.ntmps87
  go_wp2
  go_loopw [8] (fun i wr => ∃ k : Nat, k ≤ len ∧ i = .int .i64 k ∧ R = (L.drop k).any f ∧ Below w.heap.size w wr) (fun i _ => len - (intOf i).toNat)
  case atStart => exact ⟨0, by omega, rfl, HS.out, Below.refl _ _⟩
  case round =>
    obtain ⟨k, hk, rfl, hrel, hB⟩ := hrel
    by_cases hlt : k < len
    · obtain rfl := hp (by omega)
      obtain ⟨x, s, v1, ex, ⟨a0, a1⟩, hx⟩ := decl_at2 (HX.out.below rDecl_stays hB) hlt
      obtain ⟨p1, l1, c1, rfl⟩ := rDecl_shape hx
      have hstep := hrel.trans (any_at f ex)
      have C := Lib.hid (HF.out wr x s _ hB (List.mem_of_getElem? ex) hx)
      have HB := Lib.hid hB
      skip
      cases hfx : f x
      · rw [hfx] at C hstep
        have NX := Lib.hid (hstep.trans (Bool.false_or _))
        clear hstep hrel hB ex hx hfx
        go_wp2_with fail
        simp only [HE.out _ _]
        refine C.out.mono ?_
        rintro e w2 ⟨rfl, hB2⟩
        have HB2 := Lib.hid (HB.out.trans (hB2.mono HB.out.size))
        clear hB2
        go_wp2_with fail
        go_roundw
        case rel => exact ⟨k + 1, by omega, by go_num, NX.out, HB2.out⟩
        case measure => simp [intOf]; omega
      · rw [hfx] at C hstep
        have key : R = true := hstep.trans (Bool.true_or _)
        subst key
        clear hstep hrel hB ex hx hfx
        go_wp2_with fail
        simp only [HE.out _ _]
        refine C.out.mono ?_
        rintro e w2 ⟨rfl, hB2⟩
        have HB2 := Lib.hid (HB.out.trans (hB2.mono HB.out.size))
        clear hB2
        go_wp2_with fail
        go_ret
        exact ⟨_, rfl, by simp, by omega, HB2.out⟩
    · have key : R = false := hrel.trans (any_end f (by rw [← HN.out]; omega))
      subst key
      have HB := Lib.hid hB
      clear hrel hB
      go_wp2_with fail
      go_ret
      exact ⟨_, rfl, by simp, by omega, HB.out⟩
set_option maxHeartbeats 400000 in
theorem hasD_any (g : Nat) (hE : Enters Tryz.prog g) (env : Array Value) (f : PDecl → Bool) {v : Value} {L : List PDecl} {w : World} (h : Slc rDecl 2 w v L) (hl : L.length ≤ 1000000)
    (hf : ∀ (u : World) (x : PDecl) (s : ByteArray) (v1 : Value), Below w.heap.size w u → x ∈ L → rDecl u [.string s, v1] x → Calls Tryz.prog g (#[.agg #[.string s, v1]] ++ env) u fun e w' => e = .returned (.bool (f x)) ∧ Below u.heap.size u w') :
    Calls Tryz.prog 72 #[v, .func (.func g) #[] env] w fun e w' => e = .returned (.bool (L.any f)) ∧ Below w.heap.size w w' := by
  obtain ⟨p, b, off, c, len, rfl, _, hs⟩ := h
  have C := Lib.hid (indexD_cells g hE env f p b off c len L w hs (by rw [hs.long]; exact hl) hf)
  clear hf hE hs
  obtain ⟨R, hR⟩ : ∃ R, R = L.any f := ⟨_, rfl⟩
  rw [← hR] at C ⊢
  clear hR hl
  go_enter Tryz.func72, Tryz.ntmps72
  go_wp2_with fail
  refine C.out.mono ?_
  rintro e w2 ⟨z, rfl, hz, hz1, hB⟩
  have HZ := Lib.hid hz
  have HB := Lib.hid hB
  clear hB hz
  cases R
  · have d : decide (0 ≤ z) = false := HZ.out
    go_wp2_with fail
    go_ret
    exact ⟨rfl, HB.out⟩
  · have d : decide (0 ≤ z) = true := HZ.out
    go_wp2_with fail
    go_ret
    exact ⟨rfl, HB.out⟩

set_option maxHeartbeats 400000 in
theorem indexC_cells (g : Nat) (hE : Enters Tryz.prog g) (env : Array Value) (f : PCon → Bool) (p : Option Addr) (b off c len : Nat) (L : List PCon) (w : World) (h : SliceOf rCon 6 w p b off len L) (hl : len ≤ 1000000)
    (hf : ∀ (u : World) (x : PCon) (v1 v2 v3 : Value), Below w.heap.size w u → x ∈ L → rCon u [.int .i64 x.kind, v1, v2, .int .i64 x.rel, .int .i64 x.const, v3] x → Calls Tryz.prog g (#[.agg #[.int .i64 x.kind, v1, v2, .int .i64 x.rel, .int .i64 x.const, v3]] ++ env) u fun e w' => e = .returned (.bool (f x)) ∧ Below u.heap.size u w') :
    Calls Tryz.prog 103 #[.slice p len c, .func (.func g) #[] env] w fun e w' => ∃ z : Int, e = .returned (.int .i64 z) ∧ decide (0 ≤ z) = L.any f ∧ -1 ≤ z ∧ Below w.heap.size w w' := by
  have HX := Lib.hid h
  have hp := h.at_
  have HN := Lib.hid h.long
  have HF := Lib.hid hf
  have HE := Lib.hid hE
  obtain ⟨R, hR⟩ : ∃ R, R = L.any f := ⟨_, rfl⟩
  rw [← hR]
  have HR := Lib.hid hR
  have HS := Lib.hid (show R = (L.drop 0).any f by rw [hR]; simp)
  clear h hf hE hR
  go_enter Tryz.func103, Tryz.ntmps103
  go_wp2
  go_loopw [8] (fun i wr => ∃ k : Nat, k ≤ len ∧ i = .int .i64 k ∧ R = (L.drop k).any f ∧ Below w.heap.size w wr) (fun i _ => len - (intOf i).toNat)
  case atStart => exact ⟨0, by omega, rfl, HS.out, Below.refl _ _⟩
  case round =>
    obtain ⟨k, hk, rfl, hrel, hB⟩ := hrel
    by_cases hlt : k < len
    · obtain rfl := hp (by omega)
      obtain ⟨x, v1, v2, v3, ex, ⟨a0, a1, a2, a3, a4, a5⟩, hx⟩ := con_at2 (HX.out.below rCon_stays hB) hlt
      obtain ⟨⟨p1, l1, c1, rfl⟩, ⟨p2, l2, c2, rfl⟩, ⟨p3, l3, c3, rfl⟩⟩ := rCon_shape hx
      have hstep := hrel.trans (any_at f ex)
      have C := Lib.hid (HF.out wr x _ _ _ hB (List.mem_of_getElem? ex) hx)
      have HB := Lib.hid hB
      generalize x.kind = xk at a0 C
      generalize x.rel = xr at a3 C
      generalize x.const = xt at a4 C
      cases hfx : f x
      · rw [hfx] at C hstep
        have NX := Lib.hid (hstep.trans (Bool.false_or _))
        clear hstep hrel hB ex hx hfx
        go_wp2_with fail
        simp only [HE.out _ _]
        refine C.out.mono ?_
        rintro e w2 ⟨rfl, hB2⟩
        have HB2 := Lib.hid (HB.out.trans (hB2.mono HB.out.size))
        clear hB2
        go_wp2_with fail
        go_roundw
        case rel => exact ⟨k + 1, by omega, by go_num, NX.out, HB2.out⟩
        case measure => simp [intOf]; omega
      · rw [hfx] at C hstep
        have key : R = true := hstep.trans (Bool.true_or _)
        subst key
        clear hstep hrel hB ex hx hfx
        go_wp2_with fail
        simp only [HE.out _ _]
        refine C.out.mono ?_
        rintro e w2 ⟨rfl, hB2⟩
        have HB2 := Lib.hid (HB.out.trans (hB2.mono HB.out.size))
        clear hB2
        go_wp2_with fail
        go_ret
        exact ⟨_, rfl, by simp, by omega, HB2.out⟩
    · have key : R = false := hrel.trans (any_end f (by rw [← HN.out]; omega))
      subst key
      have HB := Lib.hid hB
      clear hrel hB
      go_wp2_with fail
      go_ret
      exact ⟨_, rfl, by simp, by omega, HB.out⟩
set_option maxHeartbeats 400000 in
theorem hasC_any (g : Nat) (hE : Enters Tryz.prog g) (env : Array Value) (f : PCon → Bool) {v : Value} {L : List PCon} {w : World} (h : Slc rCon 6 w v L) (hl : L.length ≤ 1000000)
    (hf : ∀ (u : World) (x : PCon) (v1 v2 v3 : Value), Below w.heap.size w u → x ∈ L → rCon u [.int .i64 x.kind, v1, v2, .int .i64 x.rel, .int .i64 x.const, v3] x → Calls Tryz.prog g (#[.agg #[.int .i64 x.kind, v1, v2, .int .i64 x.rel, .int .i64 x.const, v3]] ++ env) u fun e w' => e = .returned (.bool (f x)) ∧ Below u.heap.size u w') :
    Calls Tryz.prog 92 #[v, .func (.func g) #[] env] w fun e w' => e = .returned (.bool (L.any f)) ∧ Below w.heap.size w w' := by
  obtain ⟨p, b, off, c, len, rfl, _, hs⟩ := h
  have C := Lib.hid (indexC_cells g hE env f p b off c len L w hs (by rw [hs.long]; exact hl) hf)
  clear hf hE hs
  obtain ⟨R, hR⟩ : ∃ R, R = L.any f := ⟨_, rfl⟩
  rw [← hR] at C ⊢
  clear hR hl
  go_enter Tryz.func92, Tryz.ntmps92
  go_wp2_with fail
  refine C.out.mono ?_
  rintro e w2 ⟨z, rfl, hz, hz1, hB⟩
  have HZ := Lib.hid hz
  have HB := Lib.hid hB
  clear hB hz
  cases R
  · have d : decide (0 ≤ z) = false := HZ.out
    go_wp2_with fail
    go_ret
    exact ⟨rfl, HB.out⟩
  · have d : decide (0 ≤ z) = true := HZ.out
    go_wp2_with fail
    go_ret
    exact ⟨rfl, HB.out⟩
end Go.Proofs.YtkgieaoahijheaaGreatDoor
namespace Go.Proofs.YtkgieaoahijheaaGreatDoor
open Go.RowKit
set_option maxRecDepth 100000

def lowB (c : UInt8) : Bool := decide (97 ≤ c.toNat) && decide (c.toNat ≤ 122)
def okP (c : UInt8) : Bool := lowB c || (decide (c.toNat = 95) || (decide (48 ≤ c.toNat) && decide (c.toNat ≤ 57)))
theorem okAt_pos {i : Nat} (h : 0 < i) (c : UInt8) : okAt i c = okP c := by
  unfold okAt okP lowB
  rw [decide_eq_false (show ¬ i = 0 by omega)]
  simp
theorem okFrom_pos : ∀ (r : List UInt8) (i : Nat), 0 < i → okFrom i r = r.all okP
  | [], _, _ => rfl
  | c :: r, i, h => by rw [okFrom, okAt_pos h, okFrom_pos r (i + 1) (by omega), List.all_cons]
theorem okFrom_zero {s : List UInt8} {c : UInt8} (h : s[0]? = some c) : okFrom 0 s = (lowB c && s.all okP) := by
  cases s with
  | nil => simp at h
  | cons d r =>
    simp at h
    subst h
    rw [okFrom, okFrom_pos r 1 (by omega), List.all_cons]
    have e : okAt 0 d = lowB d := by unfold okAt lowB; simp
    rw [e]
    unfold okP
    cases lowB d <;> simp
theorem all_at {α : Type} (f : α → Bool) {L : List α} {k : Nat} {a : α} (h : L[k]? = some a) : (L.drop k).all f = (f a && (L.drop (k + 1)).all f) := by
  obtain ⟨h1, e1⟩ := List.getElem?_eq_some_iff.1 h
  rw [List.drop_eq_getElem_cons h1, List.all_cons, e1]
theorem all_done {α : Type} (f : α → Bool) {L : List α} {k : Nat} (h : L.length ≤ k) : (L.drop k).all f = true := by
  rw [List.drop_of_length_le h]
  rfl
theorem name_short {s : List UInt8} (h : s.length = 0) : nameL s = false := by
  unfold nameL
  rw [decide_eq_false (show ¬ 1 ≤ s.length by omega)]
  simp
theorem name_long {s : List UInt8} (h : 12 < s.length) : nameL s = false := by
  unfold nameL
  rw [decide_eq_false (show ¬ s.length ≤ 12 by omega)]
  simp
theorem name_is {s : List UInt8} {c : UInt8} (h : s[0]? = some c) (hl : s.length ≤ 12) : nameL s = (lowB c && (s.all okP && !wordsL.contains s)) := by
  have hp : 1 ≤ s.length := by
    cases s with
    | nil => simp at h
    | cons d r => simp
  unfold nameL
  rw [okFrom_zero h, decide_eq_true hl, decide_eq_true hp]
  cases lowB c <;> cases s.all okP <;> simp

set_option maxHeartbeats 400000 in
theorem letter_any (c : UInt8) (w : World) : Calls Tryz.prog 88 #[.int .u8 (c.toNat : Int)] w fun e w' => e = .returned (.bool (lowB c)) ∧ w' = w := by
  have hc : lowB c = (decide (97 ≤ c.toNat) && decide (c.toNat ≤ 122)) := rfl
  rw [hc]
  clear hc
  generalize c.toNat = k
  by_cases a2 : 97 ≤ k
  · have d97 : decide ((97 : Int) ≤ (k : Int)) = true := decide_eq_true (by omega)
    by_cases a3 : k ≤ 122
    · have d122 : decide ((k : Int) ≤ 122) = true := decide_eq_true (by omega)
      rw [decide_eq_true a2, decide_eq_true a3]
      go_enter Tryz.func88, Tryz.ntmps88
      go_wp2_with fail
      go_ret
      exact ⟨rfl, rfl⟩
    · have d122 : decide ((k : Int) ≤ 122) = false := decide_eq_false (by omega)
      rw [decide_eq_true a2, decide_eq_false a3]
      go_enter Tryz.func88, Tryz.ntmps88
      go_wp2_with fail
      go_ret
      exact ⟨rfl, rfl⟩
  · have d97 : decide ((97 : Int) ≤ (k : Int)) = false := decide_eq_false (by omega)
    rw [decide_eq_false a2, Bool.false_and]
    go_enter Tryz.func88, Tryz.ntmps88
    go_wp2_with fail
    go_ret
    exact ⟨rfl, rfl⟩

theorem words_or (s : List UInt8) : wordsL.contains s = (decide (s = [101, 120, 105, 115, 116, 115]) || (decide (s = [102, 111, 114, 97, 108, 108]) || (decide (s = [105, 110]) || (decide (s = [119, 104, 101, 114, 101]) || (decide (s = [97, 110, 100]) || (decide (s = [103, 111, 97, 108]) || (decide (s = [116, 114, 117, 101]) || (decide (s = [112, 114, 111, 100, 117, 99, 116]) || (decide (s = [105, 102, 102]) || (decide (s = [101, 108, 101, 109, 101, 110, 116]) || (decide (s = [100, 105, 102, 102, 101, 114, 101, 110, 116]) || (decide (s = [116, 97, 98, 108, 101]))))))))))))) := by
  unfold wordsL
  rw [Bool.eq_iff_iff]
  simp

set_option maxHeartbeats 1000000 in
theorem reserved_any (s : ByteArray) (w : World) : Calls Tryz.prog 89 #[.string s] w fun e w' => e = .returned (.bool (wordsL.contains (txt s))) ∧ w' = w := by
  rw [words_or]
  have q0 : binOp .eql 9 (.string s) (.string ⟨#[101, 120, 105, 115, 116, 115]⟩) = pure (.bool (decide (txt s = [101, 120, 105, 115, 116, 115]))) := eql_txt s ⟨#[101, 120, 105, 115, 116, 115]⟩
  have q1 : binOp .eql 9 (.string s) (.string ⟨#[102, 111, 114, 97, 108, 108]⟩) = pure (.bool (decide (txt s = [102, 111, 114, 97, 108, 108]))) := eql_txt s ⟨#[102, 111, 114, 97, 108, 108]⟩
  have q2 : binOp .eql 9 (.string s) (.string ⟨#[105, 110]⟩) = pure (.bool (decide (txt s = [105, 110]))) := eql_txt s ⟨#[105, 110]⟩
  have q3 : binOp .eql 9 (.string s) (.string ⟨#[119, 104, 101, 114, 101]⟩) = pure (.bool (decide (txt s = [119, 104, 101, 114, 101]))) := eql_txt s ⟨#[119, 104, 101, 114, 101]⟩
  have q4 : binOp .eql 9 (.string s) (.string ⟨#[97, 110, 100]⟩) = pure (.bool (decide (txt s = [97, 110, 100]))) := eql_txt s ⟨#[97, 110, 100]⟩
  have q5 : binOp .eql 9 (.string s) (.string ⟨#[103, 111, 97, 108]⟩) = pure (.bool (decide (txt s = [103, 111, 97, 108]))) := eql_txt s ⟨#[103, 111, 97, 108]⟩
  have q6 : binOp .eql 9 (.string s) (.string ⟨#[116, 114, 117, 101]⟩) = pure (.bool (decide (txt s = [116, 114, 117, 101]))) := eql_txt s ⟨#[116, 114, 117, 101]⟩
  have q7 : binOp .eql 9 (.string s) (.string ⟨#[112, 114, 111, 100, 117, 99, 116]⟩) = pure (.bool (decide (txt s = [112, 114, 111, 100, 117, 99, 116]))) := eql_txt s ⟨#[112, 114, 111, 100, 117, 99, 116]⟩
  have q8 : binOp .eql 9 (.string s) (.string ⟨#[105, 102, 102]⟩) = pure (.bool (decide (txt s = [105, 102, 102]))) := eql_txt s ⟨#[105, 102, 102]⟩
  have q9 : binOp .eql 9 (.string s) (.string ⟨#[101, 108, 101, 109, 101, 110, 116]⟩) = pure (.bool (decide (txt s = [101, 108, 101, 109, 101, 110, 116]))) := eql_txt s ⟨#[101, 108, 101, 109, 101, 110, 116]⟩
  have q10 : binOp .eql 9 (.string s) (.string ⟨#[100, 105, 102, 102, 101, 114, 101, 110, 116]⟩) = pure (.bool (decide (txt s = [100, 105, 102, 102, 101, 114, 101, 110, 116]))) := eql_txt s ⟨#[100, 105, 102, 102, 101, 114, 101, 110, 116]⟩
  have q11 : binOp .eql 9 (.string s) (.string ⟨#[116, 97, 98, 108, 101]⟩) = pure (.bool (decide (txt s = [116, 97, 98, 108, 101]))) := eql_txt s ⟨#[116, 97, 98, 108, 101]⟩
  generalize decide (txt s = [101, 120, 105, 115, 116, 115]) = b0 at q0 ⊢
  generalize decide (txt s = [102, 111, 114, 97, 108, 108]) = b1 at q1 ⊢
  generalize decide (txt s = [105, 110]) = b2 at q2 ⊢
  generalize decide (txt s = [119, 104, 101, 114, 101]) = b3 at q3 ⊢
  generalize decide (txt s = [97, 110, 100]) = b4 at q4 ⊢
  generalize decide (txt s = [103, 111, 97, 108]) = b5 at q5 ⊢
  generalize decide (txt s = [116, 114, 117, 101]) = b6 at q6 ⊢
  generalize decide (txt s = [112, 114, 111, 100, 117, 99, 116]) = b7 at q7 ⊢
  generalize decide (txt s = [105, 102, 102]) = b8 at q8 ⊢
  generalize decide (txt s = [101, 108, 101, 109, 101, 110, 116]) = b9 at q9 ⊢
  generalize decide (txt s = [100, 105, 102, 102, 101, 114, 101, 110, 116]) = b10 at q10 ⊢
  generalize decide (txt s = [116, 97, 98, 108, 101]) = b11 at q11 ⊢
  cases b0
  · skip
    cases b1
    · skip
      cases b2
      · skip
        cases b3
        · skip
          cases b4
          · skip
            cases b5
            · skip
              cases b6
              · skip
                cases b7
                · skip
                  cases b8
                  · skip
                    cases b9
                    · skip
                      cases b10
                      · skip
                        cases b11
                        · skip
                          go_enter Tryz.func89, Tryz.ntmps89
                          go_wp2_with fail
                          go_ret
                          exact ⟨rfl, rfl⟩
                        · skip
                          go_enter Tryz.func89, Tryz.ntmps89
                          go_wp2_with fail
                          go_ret
                          exact ⟨rfl, rfl⟩
                      · skip
                        go_enter Tryz.func89, Tryz.ntmps89
                        go_wp2_with fail
                        go_ret
                        exact ⟨rfl, rfl⟩
                    · skip
                      go_enter Tryz.func89, Tryz.ntmps89
                      go_wp2_with fail
                      go_ret
                      exact ⟨rfl, rfl⟩
                  · skip
                    go_enter Tryz.func89, Tryz.ntmps89
                    go_wp2_with fail
                    go_ret
                    exact ⟨rfl, rfl⟩
                · skip
                  go_enter Tryz.func89, Tryz.ntmps89
                  go_wp2_with fail
                  go_ret
                  exact ⟨rfl, rfl⟩
              · skip
                go_enter Tryz.func89, Tryz.ntmps89
                go_wp2_with fail
                go_ret
                exact ⟨rfl, rfl⟩
            · skip
              go_enter Tryz.func89, Tryz.ntmps89
              go_wp2_with fail
              go_ret
              exact ⟨rfl, rfl⟩
          · skip
            go_enter Tryz.func89, Tryz.ntmps89
            go_wp2_with fail
            go_ret
            exact ⟨rfl, rfl⟩
        · skip
          go_enter Tryz.func89, Tryz.ntmps89
          go_wp2_with fail
          go_ret
          exact ⟨rfl, rfl⟩
      · skip
        go_enter Tryz.func89, Tryz.ntmps89
        go_wp2_with fail
        go_ret
        exact ⟨rfl, rfl⟩
    · skip
      go_enter Tryz.func89, Tryz.ntmps89
      go_wp2_with fail
      go_ret
      exact ⟨rfl, rfl⟩
  · skip
    go_enter Tryz.func89, Tryz.ntmps89
    go_wp2_with fail
    go_ret
    exact ⟨rfl, rfl⟩

set_option maxRecDepth 100000 in
set_option maxHeartbeats 2000000 in
theorem pname_any (s : ByteArray) (w : World) (hm : s.size ≤ 1000000) : Calls Tryz.prog 74 #[.string s] w fun e w' => e = .returned (.bool (nameL (txt s))) ∧ w' = w := by
  obtain ⟨R, hR⟩ : ∃ R, R = nameL (txt s) := ⟨_, rfl⟩
  rw [← hR]
  have HR := Lib.hid hR
  obtain ⟨n, hn⟩ : ∃ n, n = s.size := ⟨_, rfl⟩
  have hsz : ((s.size : Nat) : Int) = (n : Int) := by rw [hn]
  rw [← hn] at hm
  have hnl : n = (txt s).length := by rw [hn, txt_size]
  have HL := Lib.hid hnl
  clear hR hn
  by_cases h0 : n = 0
  · have key : R = false := by rw [HR.out]; exact name_short (by omega)
    subst key
    have e0 : ((n : Int) == 0) = true := beq_iff_eq.2 (by omega)
    clear h0 hnl
    go_enter Tryz.func74, Tryz.ntmps74
    go_wp2_with fail
    go_ret
    exact ⟨rfl, rfl⟩
  · have e0 : ((n : Int) == 0) = false := beq_eq_false_iff_ne.2 (by omega)
    by_cases h12 : 12 < n
    · have key : R = false := by rw [HR.out]; exact name_long (by omega)
      subst key
      have e12 : decide ((12 : Int) < (n : Int)) = true := decide_eq_true (by omega)
      clear hnl
      go_enter Tryz.func74, Tryz.ntmps74
      go_wp2_with fail
      go_ret
      exact ⟨rfl, rfl⟩
    · have e12 : decide ((12 : Int) < (n : Int)) = false := decide_eq_false (by omega)
      have hp : 0 < (txt s).length := by omega
      have hc0 : (txt s)[0]? = some (txt s)[0] := List.getElem?_eq_getElem hp
      generalize (txt s)[0] = c0 at hc0
      have hx0 : ∀ W, (Instr.index 9 (.string s) (.int .i64 0)).run Tryz.prog W = .ok (.int .u8 (c0.toNat : Int)) W := idx hc0
      have hnm := HR.out.trans (name_is hc0 (by omega))
      have LT := Lib.hid (letter_any c0 w)
      have NM := Lib.hid hnm
      have HS := Lib.hid (show (txt s).all okP = ((txt s).drop 0).all okP by simp)
      have RS := Lib.hid (reserved_any s w)
      clear hnl hp hc0 hnm
      cases hl0 : lowB c0
      · rw [hl0] at LT
        have key : R = false := by rw [NM.out, hl0]; rfl
        subst key
        clear hl0
        go_enter Tryz.func74, Tryz.ntmps74
        go_wp2_with fail
        refine LT.out.mono ?_
        rintro e w1 ⟨rfl, rfl⟩
        go_wp2_with fail
        go_ret
        exact ⟨rfl, rfl⟩
      · rw [hl0] at LT
        have NM2 := Lib.hid (show R = ((txt s).all okP && !wordsL.contains (txt s)) by rw [NM.out, hl0]; rfl)
        clear hl0 NM
        go_enter Tryz.func74, Tryz.ntmps74
        go_wp2_with fail
        refine LT.out.mono ?_
        rintro e w1 ⟨rfl, rfl⟩
        go_wp2_with fail
        go_loopw [21] (fun i wr => (∃ k : Nat, k ≤ n ∧ i = .int .i64 k ∧ (txt s).all okP = ((txt s).drop k).all okP) ∧ wr = w1) (fun i _ => n - (intOf i).toNat)
        case atStart => exact ⟨⟨0, by omega, rfl, HS.out⟩, rfl⟩
        case round =>
          obtain ⟨⟨k, hk2, rfl, hrel⟩, rfl⟩ := hrel
          by_cases hlt2 : k < n
          · have hkl : k < (txt s).length := by rw [← HL.out]; exact hlt2
            have ec : (txt s)[k]? = some (txt s)[k] := List.getElem?_eq_getElem hkl
            generalize (txt s)[k] = c at ec
            have hx := idx ec
            have hstep := hrel.trans (all_at okP ec)
            have HST := Lib.hid hstep
            have CL := Lib.hid (letter_any c wr)
            have bad : okP c = false → R = false := fun h => by rw [NM2.out, HST.out, h]; rfl
            have good : okP c = true → (txt s).all okP = ((txt s).drop (k + 1)).all okP := fun h => by rw [HST.out, h, Bool.true_and]
            have HG := Lib.hid good
            have HBD := Lib.hid bad
            have eok : okP c = (lowB c || (decide (c.toNat = 95) || (decide (48 ≤ c.toNat) && decide (c.toNat ≤ 57)))) := rfl
            clear hrel ec hkl hstep bad good
            cases hl1 : lowB c
            · rw [hl1] at CL eok
              rw [Bool.false_or] at eok
              clear hl1
              by_cases a3 : c.toNat = 95 ∨ 48 ≤ c.toNat ∧ c.toNat ≤ 57
              · have NX := Lib.hid (HG.out (by
                  rw [eok]
                  simp
                  omega))
                clear eok
                rcases a3 with a4 | a4
                · have e95 : ((c.toNat : Int) == 95) = true := by rw [a4]; rfl
                  have d48 : decide ((c.toNat : Int) < 48) = false := decide_eq_false (by omega)
                  have d57 : decide ((57 : Int) < (c.toNat : Int)) = true := decide_eq_true (by omega)
                  clear a4
                  go_wp2_with fail
                  refine CL.out.mono ?_
                  rintro e w2 ⟨rfl, rfl⟩
                  go_wp2_with fail
                  all_goals try (exfalso; have e96 := beq_iff_eq.1 e95; omega)
                  go_roundw
                  case rel => exact ⟨⟨k + 1, by omega, by go_num, NX.out⟩, trivial⟩
                  case measure => simp [intOf]; omega
                · have n95 : ¬ (c.toNat : Int) = 95 := by omega
                  have e95 : ((c.toNat : Int) == 95) = false := beq_eq_false_iff_ne.2 n95
                  have d48 : decide ((c.toNat : Int) < 48) = false := decide_eq_false (by omega)
                  have d57 : decide ((57 : Int) < (c.toNat : Int)) = false := decide_eq_false (by omega)
                  go_wp2_with fail
                  refine CL.out.mono ?_
                  rintro e w2 ⟨rfl, rfl⟩
                  go_wp2_with fail
                  go_roundw
                  case rel => exact ⟨⟨k + 1, by omega, by go_num, NX.out⟩, trivial⟩
                  case measure => simp [intOf]; omega
              · have key : R = false := HBD.out (by
                  rw [eok]
                  simp
                  omega)
                subst key
                clear eok
                have n95 : ¬ (c.toNat : Int) = 95 := by omega
                have e95 : ((c.toNat : Int) == 95) = false := beq_eq_false_iff_ne.2 n95
                by_cases a6 : c.toNat < 48
                · have d48 : decide ((c.toNat : Int) < 48) = true := decide_eq_true (by omega)
                  go_wp2_with fail
                  refine CL.out.mono ?_
                  rintro e w2 ⟨rfl, rfl⟩
                  go_wp2_with fail
                  go_ret
                  exact ⟨rfl, rfl⟩
                · have d48 : decide ((c.toNat : Int) < 48) = false := decide_eq_false (by omega)
                  have d57 : decide ((57 : Int) < (c.toNat : Int)) = true := decide_eq_true (by omega)
                  go_wp2_with fail
                  refine CL.out.mono ?_
                  rintro e w2 ⟨rfl, rfl⟩
                  go_wp2_with fail
                  go_ret
                  exact ⟨rfl, rfl⟩
            · rw [hl1] at CL eok
              rw [Bool.true_or] at eok
              have NX := Lib.hid (HG.out eok)
              clear hl1 eok
              go_wp2_with fail
              refine CL.out.mono ?_
              rintro e w2 ⟨rfl, rfl⟩
              go_wp2_with fail
              go_roundw
              case rel => exact ⟨⟨k + 1, by omega, by go_num, NX.out⟩, trivial⟩
              case measure => simp [intOf]; omega
          · have hend : (txt s).all okP = true := by rw [hrel, all_done okP (by rw [← HL.out]; omega)]
            have key : R = !wordsL.contains (txt s) := by rw [NM2.out, hend]; rfl
            generalize wordsL.contains (txt s) = B at RS key
            subst key
            clear hrel hend
            go_wp2_with fail
            refine RS.out.mono ?_
            rintro e w2 ⟨rfl, rfl⟩
            cases B
            · skip
              go_wp2_with fail
              go_ret
              exact ⟨rfl, rfl⟩
            · skip
              go_wp2_with fail
              go_ret
              exact ⟨rfl, rfl⟩
end Go.Proofs.YtkgieaoahijheaaGreatDoor
