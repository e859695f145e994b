/-
  A constraint, as the writer puts it out.
-/
import Derived.Test.YtkgieaoahijheaaDoorZYAT
import Derived.Test.YtkgieaoahijheaaDoorZYAV
namespace Go.Proofs.YtkgieaoahijheaaDoor.Wt
open Go.RowKit
open Sc (Tok)
set_option maxRecDepth 100000

section
variable {B b tb pb k kc : Nat} {W u u' : World} {X : List UInt8} {pn : Option Addr} {bn on_ ln cn : Nat} {L : List PDecl} {nm : Int → Tok}
theorem bc9 {cs : Array Value} {t : TypeId} {a1 a2 : Addr} {x1 x2 : Value} (h : u.cell? ⟨k, 0, none⟩ = some (.slice pn ln cn) ∧ u.cell? ⟨k, 1, none⟩ = some (putV tb pb) ∧ u.cell? a1 = some x1 ∧ u.cell? a2 = some x2 ∧ Bc B b tb pb k kc pn ln cn cs t W u)
    (hx : ∀ v, Bc B b tb pb k kc pn ln cn cs t W v → v.cell? a1 = some x1 ∧ v.cell? a2 = some x2) (hK : Kp B b pb u u') :
    u'.cell? ⟨k, 0, none⟩ = some (.slice pn ln cn) ∧ u'.cell? ⟨k, 1, none⟩ = some (putV tb pb) ∧ u'.cell? a1 = some x1 ∧ u'.cell? a2 = some x2 ∧ Bc B b tb pb k kc pn ln cn cs t W u' := by
  have h2 := h.2.2.2.2.move hK
  obtain ⟨h0, h1, _⟩ := h2.bx.cells
  exact ⟨h0, h1, (hx u' h2).1, (hx u' h2).2, h2⟩
theorem bc10 {y0 y1 y2 y3 y4 y5 : Value} {t : TypeId} (h : u.cell? ⟨k, 0, none⟩ = some (.slice pn ln cn) ∧ u.cell? ⟨k, 1, none⟩ = some (putV tb pb) ∧ u.cell? ⟨kc, 0, none⟩ = some y0 ∧ u.cell? ⟨kc, 1, none⟩ = some y1 ∧ u.cell? ⟨kc, 2, none⟩ = some y2 ∧ u.cell? ⟨kc, 3, none⟩ = some y3 ∧ u.cell? ⟨kc, 4, none⟩ = some y4 ∧ u.cell? ⟨kc, 5, none⟩ = some y5 ∧ Bc B b tb pb k kc pn ln cn #[y0, y1, y2, y3, y4, y5] t W u) (hK : Kp B b pb u u') :
    u'.cell? ⟨k, 0, none⟩ = some (.slice pn ln cn) ∧ u'.cell? ⟨k, 1, none⟩ = some (putV tb pb) ∧ u'.cell? ⟨kc, 0, none⟩ = some y0 ∧ u'.cell? ⟨kc, 1, none⟩ = some y1 ∧ u'.cell? ⟨kc, 2, none⟩ = some y2 ∧ u'.cell? ⟨kc, 3, none⟩ = some y3 ∧ u'.cell? ⟨kc, 4, none⟩ = some y4 ∧ u'.cell? ⟨kc, 5, none⟩ = some y5 ∧ Bc B b tb pb k kc pn ln cn #[y0, y1, y2, y3, y4, y5] t W u' := by
  have h2 := h.2.2.2.2.2.2.2.2.move hK
  obtain ⟨h0, h1, _⟩ := h2.bx.cells
  exact ⟨h0, h1, h2.cell 0, h2.cell 1, h2.cell 2, h2.cell 3, h2.cell 4, h2.cell 5, h2⟩
theorem sixof {y0 y1 y2 y3 y4 y5 : Value} {t : TypeId} (h2 : Bc B b tb pb k kc pn ln cn #[y0, y1, y2, y3, y4, y5] t W u) :
    u.cell? ⟨k, 0, none⟩ = some (.slice pn ln cn) ∧ u.cell? ⟨k, 1, none⟩ = some (putV tb pb) ∧ u.cell? ⟨kc, 0, none⟩ = some y0 ∧ u.cell? ⟨kc, 1, none⟩ = some y1 ∧ u.cell? ⟨kc, 2, none⟩ = some y2 ∧ u.cell? ⟨kc, 3, none⟩ = some y3 ∧ u.cell? ⟨kc, 4, none⟩ = some y4 ∧ u.cell? ⟨kc, 5, none⟩ = some y5 := by
  obtain ⟨h0, h1, _⟩ := h2.bx.cells
  exact ⟨h0, h1, h2.cell 0, h2.cell 1, h2.cell 2, h2.cell 3, h2.cell 4, h2.cell 5⟩
/-- numbers that are kept -/
theorem nums_kept {v : Value} {xs : List Int} (h : ∀ u, Kp B b pb W u → Slc rNum 1 u v xs) : ∃ (p : Option Addr) (bl off c len : Nat), v = .slice p len c ∧ len ≤ c ∧ ∀ u, Kp B b pb W u → Nums u p bl off len xs := by
  obtain ⟨p, bl, off, c, len, e, h1, h2⟩ := nums_slc (h W (Kp.refl W))
  refine ⟨p, bl, off, c, len, e, h1, fun u hu => ?_⟩
  obtain ⟨p', bl', off', c', len', e', _, h3⟩ := nums_slc (h u hu)
  rw [e] at e'
  cases e'
  by_cases h0 : len = 0
  · exact ⟨h2.long, fun q => by omega, fun k hk => by omega, fun k hk => by omega⟩
  · have a1 := h2.at_ (by omega)
    have a2 := h3.at_ (by omega)
    rw [a1] at a2
    cases a2
    exact h3
set_option maxHeartbeats 4000000 in
theorem con_product_put (H : PutAt B b tb pb X W) (K : NmK B b pb W pn bn on_ ln L nm) (vs : List Int) (p1 p2 p3 : Option Addr) (b1 o1 l1 c1 l2 c2 l3 c3 : Nat) (n1 : ∀ u, Kp B b pb W u → Nums u p1 b1 o1 l1 vs) (hl1 : l1 ≤ 1000000) (hv : VarK L nm vs)
    (hX : X.length + (putT (tW Pa.tProduct :: (vs.map nm ++ []))).length ≤ 100000000000) :
    Calls Tryd.prog 24 #[.agg #[.slice pn ln cn, putV tb pb], .agg #[.int .i64 2, .slice p1 l1 c1, .slice p2 l2 c2, .int .i64 0, .int .i64 0, .slice p3 l3 c3]] W fun e w' => e = .returned (.tuple #[]) ∧ PutAt B b tb pb (X ++ putT (tW Pa.tProduct :: (vs.map nm ++ []))) w' ∧ Kp B b pb W w' := by
  obtain ⟨cs, hcs⟩ : ∃ cs : Array Value, cs = #[.int .i64 2, .slice p1 l1 c1, .slice p2 l2 c2, .int .i64 0, .int .i64 0, .slice p3 l3 c3] := ⟨_, rfl⟩
  have hbc := bc_start (pn := pn) (ln := ln) (cn := cn) H cs 28 (by decide)
  have hP0 := (H.alloc (.cells #[.slice pn ln cn, putV tb pb] 55)).alloc (.cells cs 28)
  rw [hcs] at hbc hP0
  have BC := Lib.hid hbc
  have HP := Lib.hid hP0
  have e0 : putT (tW Pa.tProduct :: (vs.map nm ++ [])) = sepO [112, 114, 111, 100, 117, 99, 116] ++ (putT (vs.map nm) ++ []) := by
    rw [show (tW Pa.tProduct :: (vs.map nm ++ [])) = [tW Pa.tProduct] ++ (vs.map nm ++ []) from rfl, putT_app, putT_app, putT_one]
    rfl
  rw [e0] at hX ⊢
  simp only [List.length_append, List.append_nil] at hX
  have C1 := Lib.hid (put_one HP.out [112, 114, 111, 100, 117, 99, 116] (by omega))
  have C2 := Lib.hid (fun v (h : PutAt B b tb pb (X ++ sepO [112, 114, 111, 100, 117, 99, 116]) v) (hK : Kp B b pb W v) => names_any (pn := pn) (ln := ln) (cn := cn) h (K.move hK) vs p1 b1 o1 l1 c1 hl1 (fun u hu => n1 u (hK.trans hu)) hv (by simp only [List.length_append]; omega))
  clear H K hX e0 hbc hP0 hcs cs n1 hv
  unfold putV at *
  go_enter Tryd.func24, Tryd.ntmps24
  go_wp2_with fail
  simp only [World.size_alloc] at C1
  refine C1.out.mono ?_
  rintro e u1 ⟨rfl, hP1, hK1⟩
  have hb := BC.out.move ((kp_alloc HP.out.size _).trans hK1)
  obtain ⟨y0, y1, z0, z1, z2, z3, z4, z5⟩ := sixof hb
  unfold putV at y1
  have BC1 := Lib.hid hb
  have HP1 := Lib.hid hP1
  clear hP1 hK1 hb
  go_wp2_with fail
  refine (C2.out _ HP1.out BC1.out.bx.kept).mono ?_
  clear y0 y1 z0 z1 z2 z3 z4 z5
  rintro e u2 ⟨rfl, hP2, hK2⟩
  have hb := BC1.out.move hK2
  obtain ⟨y0, y1, z0, z1, z2, z3, z4, z5⟩ := sixof hb
  unfold putV at y1
  have BC2 := Lib.hid hb
  have HP2 := Lib.hid hP2
  clear hP2 hK2 hb
  go_wp2_with fail
  go_end0
  refine ⟨rfl, ?_, BC2.out.bx.kept⟩
  have := HP2.out
  simp only [List.append_assoc, List.append_nil] at this ⊢
  exact this
set_option maxHeartbeats 4000000 in
theorem con_differ_put (H : PutAt B b tb pb X W) (K : NmK B b pb W pn bn on_ ln L nm) (vs : List Int) (p1 p2 p3 : Option Addr) (b1 o1 l1 c1 l2 c2 l3 c3 : Nat) (n1 : ∀ u, Kp B b pb W u → Nums u p1 b1 o1 l1 vs) (hl1 : l1 ≤ 1000000) (hv : VarK L nm vs)
    (hX : X.length + (putT (tW Pa.tDifferent :: (vs.map nm ++ []))).length ≤ 100000000000) :
    Calls Tryd.prog 24 #[.agg #[.slice pn ln cn, putV tb pb], .agg #[.int .i64 5, .slice p1 l1 c1, .slice p2 l2 c2, .int .i64 0, .int .i64 0, .slice p3 l3 c3]] W fun e w' => e = .returned (.tuple #[]) ∧ PutAt B b tb pb (X ++ putT (tW Pa.tDifferent :: (vs.map nm ++ []))) w' ∧ Kp B b pb W w' := by
  obtain ⟨cs, hcs⟩ : ∃ cs : Array Value, cs = #[.int .i64 5, .slice p1 l1 c1, .slice p2 l2 c2, .int .i64 0, .int .i64 0, .slice p3 l3 c3] := ⟨_, rfl⟩
  have hbc := bc_start (pn := pn) (ln := ln) (cn := cn) H cs 28 (by decide)
  have hP0 := (H.alloc (.cells #[.slice pn ln cn, putV tb pb] 55)).alloc (.cells cs 28)
  rw [hcs] at hbc hP0
  have BC := Lib.hid hbc
  have HP := Lib.hid hP0
  have e0 : putT (tW Pa.tDifferent :: (vs.map nm ++ [])) = sepO [100, 105, 102, 102, 101, 114, 101, 110, 116] ++ (putT (vs.map nm) ++ []) := by
    rw [show (tW Pa.tDifferent :: (vs.map nm ++ [])) = [tW Pa.tDifferent] ++ (vs.map nm ++ []) from rfl, putT_app, putT_app, putT_one]
    rfl
  rw [e0] at hX ⊢
  simp only [List.length_append, List.append_nil] at hX
  have C1 := Lib.hid (put_one HP.out [100, 105, 102, 102, 101, 114, 101, 110, 116] (by omega))
  have C2 := Lib.hid (fun v (h : PutAt B b tb pb (X ++ sepO [100, 105, 102, 102, 101, 114, 101, 110, 116]) v) (hK : Kp B b pb W v) => names_any (pn := pn) (ln := ln) (cn := cn) h (K.move hK) vs p1 b1 o1 l1 c1 hl1 (fun u hu => n1 u (hK.trans hu)) hv (by simp only [List.length_append]; omega))
  clear H K hX e0 hbc hP0 hcs cs n1 hv
  unfold putV at *
  go_enter Tryd.func24, Tryd.ntmps24
  go_wp2_with fail
  simp only [World.size_alloc] at C1
  refine C1.out.mono ?_
  rintro e u1 ⟨rfl, hP1, hK1⟩
  have hb := BC.out.move ((kp_alloc HP.out.size _).trans hK1)
  obtain ⟨y0, y1, z0, z1, z2, z3, z4, z5⟩ := sixof hb
  unfold putV at y1
  have BC1 := Lib.hid hb
  have HP1 := Lib.hid hP1
  clear hP1 hK1 hb
  go_wp2_with fail
  refine (C2.out _ HP1.out BC1.out.bx.kept).mono ?_
  clear y0 y1 z0 z1 z2 z3 z4 z5
  rintro e u2 ⟨rfl, hP2, hK2⟩
  have hb := BC1.out.move hK2
  obtain ⟨y0, y1, z0, z1, z2, z3, z4, z5⟩ := sixof hb
  unfold putV at y1
  have BC2 := Lib.hid hb
  have HP2 := Lib.hid hP2
  clear hP2 hK2 hb
  go_wp2_with fail
  go_end0
  refine ⟨rfl, ?_, BC2.out.bx.kept⟩
  have := HP2.out
  simp only [List.append_assoc, List.append_nil] at this ⊢
  exact this
set_option maxHeartbeats 4000000 in
theorem con_element_put (H : PutAt B b tb pb X W) (K : NmK B b pb W pn bn on_ ln L nm) (vs ns : List Int) (p1 p2 p3 : Option Addr) (b1 o1 l1 c1 l2 c2 b3 o3 l3 c3 : Nat) (n1 : ∀ u, Kp B b pb W u → Nums u p1 b1 o1 l1 vs) (n3 : ∀ u, Kp B b pb W u → Nums u p3 b3 o3 l3 ns) (hl3 : l3 ≤ 1000000) (hz : ∀ z ∈ ns, z.natAbs ≤ 9000000000000000000) (hl1 : l1 ≤ 1000000) (hv : VarK L nm vs)
    (hX : X.length + (putT (tW Pa.tElement :: (vs.map nm ++ numsT ns))).length ≤ 100000000000) :
    Calls Tryd.prog 24 #[.agg #[.slice pn ln cn, putV tb pb], .agg #[.int .i64 4, .slice p1 l1 c1, .slice p2 l2 c2, .int .i64 0, .int .i64 0, .slice p3 l3 c3]] W fun e w' => e = .returned (.tuple #[]) ∧ PutAt B b tb pb (X ++ putT (tW Pa.tElement :: (vs.map nm ++ numsT ns))) w' ∧ Kp B b pb W w' := by
  obtain ⟨cs, hcs⟩ : ∃ cs : Array Value, cs = #[.int .i64 4, .slice p1 l1 c1, .slice p2 l2 c2, .int .i64 0, .int .i64 0, .slice p3 l3 c3] := ⟨_, rfl⟩
  have hbc := bc_start (pn := pn) (ln := ln) (cn := cn) H cs 28 (by decide)
  have hP0 := (H.alloc (.cells #[.slice pn ln cn, putV tb pb] 55)).alloc (.cells cs 28)
  rw [hcs] at hbc hP0
  have BC := Lib.hid hbc
  have HP := Lib.hid hP0
  have e0 : putT (tW Pa.tElement :: (vs.map nm ++ numsT ns)) = sepO [101, 108, 101, 109, 101, 110, 116] ++ (putT (vs.map nm) ++ putT (numsT ns)) := by
    rw [show (tW Pa.tElement :: (vs.map nm ++ numsT ns)) = [tW Pa.tElement] ++ (vs.map nm ++ numsT ns) from rfl, putT_app, putT_app, putT_one]
    rfl
  rw [e0] at hX ⊢
  simp only [List.length_append] at hX
  have C1 := Lib.hid (put_one HP.out [101, 108, 101, 109, 101, 110, 116] (by omega))
  have C2 := Lib.hid (fun v (h : PutAt B b tb pb (X ++ sepO [101, 108, 101, 109, 101, 110, 116]) v) (hK : Kp B b pb W v) => names_any (pn := pn) (ln := ln) (cn := cn) h (K.move hK) vs p1 b1 o1 l1 c1 hl1 (fun u hu => n1 u (hK.trans hu)) hv (by simp only [List.length_append]; omega))
  have C3 := Lib.hid (fun v (h : PutAt B b tb pb ((X ++ sepO [101, 108, 101, 109, 101, 110, 116]) ++ putT (vs.map nm)) v) (hK : Kp B b pb W v) => row_any (pn := pn) (ln := ln) (cn := cn) h ns p3 b3 o3 l3 c3 hl3 (fun u hu => n3 u (hK.trans hu)) hz (by simp only [List.length_append]; omega))
  clear H K hX e0 hbc hP0 hcs cs n1 hv n3 hz
  unfold putV at *
  go_enter Tryd.func24, Tryd.ntmps24
  go_wp2_with fail
  simp only [World.size_alloc] at C1
  refine C1.out.mono ?_
  rintro e u1 ⟨rfl, hP1, hK1⟩
  have hb := BC.out.move ((kp_alloc HP.out.size _).trans hK1)
  obtain ⟨y0, y1, z0, z1, z2, z3, z4, z5⟩ := sixof hb
  unfold putV at y1
  have BC1 := Lib.hid hb
  have HP1 := Lib.hid hP1
  clear hP1 hK1 hb
  go_wp2_with fail
  refine (C2.out _ HP1.out BC1.out.bx.kept).mono ?_
  clear y0 y1 z0 z1 z2 z3 z4 z5
  rintro e u2 ⟨rfl, hP2, hK2⟩
  have hb := BC1.out.move hK2
  obtain ⟨y0, y1, z0, z1, z2, z3, z4, z5⟩ := sixof hb
  unfold putV at y1
  have BC2 := Lib.hid hb
  have HP2 := Lib.hid hP2
  clear hP2 hK2 hb
  go_wp2_with fail
  refine (C3.out _ HP2.out BC2.out.bx.kept).mono ?_
  clear y0 y1 z0 z1 z2 z3 z4 z5
  rintro e u3 ⟨rfl, hP3, hK3⟩
  have hb := BC2.out.move hK3
  obtain ⟨y0, y1, z0, z1, z2, z3, z4, z5⟩ := sixof hb
  unfold putV at y1
  have BC3 := Lib.hid hb
  have HP3 := Lib.hid hP3
  clear hP3 hK3 hb
  go_wp2_with fail
  go_end0
  refine ⟨rfl, ?_, BC3.out.bx.kept⟩
  have := HP3.out
  simp only [List.append_assoc] at this ⊢
  exact this
set_option maxHeartbeats 4000000 in
theorem con_table_put (H : PutAt B b tb pb X W) (K : NmK B b pb W pn bn on_ ln L nm) (vs ns : List Int) (p1 p2 p3 : Option Addr) (b1 o1 l1 c1 l2 c2 b3 o3 l3 c3 : Nat) (n1 : ∀ u, Kp B b pb W u → Nums u p1 b1 o1 l1 vs) (n3 : ∀ u, Kp B b pb W u → Nums u p3 b3 o3 l3 ns) (hl3 : l3 ≤ 1000000) (hz : ∀ z ∈ ns, z.natAbs ≤ 9000000000000000000) (hl1 : l1 ≤ 1000000) (hv : VarK L nm vs)
    (hX : X.length + (putT (tW Pa.tTable :: (vs.map nm ++ numsT ns))).length ≤ 100000000000) :
    Calls Tryd.prog 24 #[.agg #[.slice pn ln cn, putV tb pb], .agg #[.int .i64 6, .slice p1 l1 c1, .slice p2 l2 c2, .int .i64 0, .int .i64 0, .slice p3 l3 c3]] W fun e w' => e = .returned (.tuple #[]) ∧ PutAt B b tb pb (X ++ putT (tW Pa.tTable :: (vs.map nm ++ numsT ns))) w' ∧ Kp B b pb W w' := by
  obtain ⟨cs, hcs⟩ : ∃ cs : Array Value, cs = #[.int .i64 6, .slice p1 l1 c1, .slice p2 l2 c2, .int .i64 0, .int .i64 0, .slice p3 l3 c3] := ⟨_, rfl⟩
  have hbc := bc_start (pn := pn) (ln := ln) (cn := cn) H cs 28 (by decide)
  have hP0 := (H.alloc (.cells #[.slice pn ln cn, putV tb pb] 55)).alloc (.cells cs 28)
  rw [hcs] at hbc hP0
  have BC := Lib.hid hbc
  have HP := Lib.hid hP0
  have e0 : putT (tW Pa.tTable :: (vs.map nm ++ numsT ns)) = sepO [116, 97, 98, 108, 101] ++ (putT (vs.map nm) ++ putT (numsT ns)) := by
    rw [show (tW Pa.tTable :: (vs.map nm ++ numsT ns)) = [tW Pa.tTable] ++ (vs.map nm ++ numsT ns) from rfl, putT_app, putT_app, putT_one]
    rfl
  rw [e0] at hX ⊢
  simp only [List.length_append] at hX
  have C1 := Lib.hid (put_one HP.out [116, 97, 98, 108, 101] (by omega))
  have C2 := Lib.hid (fun v (h : PutAt B b tb pb (X ++ sepO [116, 97, 98, 108, 101]) v) (hK : Kp B b pb W v) => names_any (pn := pn) (ln := ln) (cn := cn) h (K.move hK) vs p1 b1 o1 l1 c1 hl1 (fun u hu => n1 u (hK.trans hu)) hv (by simp only [List.length_append]; omega))
  have C3 := Lib.hid (fun v (h : PutAt B b tb pb ((X ++ sepO [116, 97, 98, 108, 101]) ++ putT (vs.map nm)) v) (hK : Kp B b pb W v) => row_any (pn := pn) (ln := ln) (cn := cn) h ns p3 b3 o3 l3 c3 hl3 (fun u hu => n3 u (hK.trans hu)) hz (by simp only [List.length_append]; omega))
  clear H K hX e0 hbc hP0 hcs cs n1 hv n3 hz
  unfold putV at *
  go_enter Tryd.func24, Tryd.ntmps24
  go_wp2_with fail
  simp only [World.size_alloc] at C1
  refine C1.out.mono ?_
  rintro e u1 ⟨rfl, hP1, hK1⟩
  have hb := BC.out.move ((kp_alloc HP.out.size _).trans hK1)
  obtain ⟨y0, y1, z0, z1, z2, z3, z4, z5⟩ := sixof hb
  unfold putV at y1
  have BC1 := Lib.hid hb
  have HP1 := Lib.hid hP1
  clear hP1 hK1 hb
  go_wp2_with fail
  refine (C2.out _ HP1.out BC1.out.bx.kept).mono ?_
  clear y0 y1 z0 z1 z2 z3 z4 z5
  rintro e u2 ⟨rfl, hP2, hK2⟩
  have hb := BC1.out.move hK2
  obtain ⟨y0, y1, z0, z1, z2, z3, z4, z5⟩ := sixof hb
  unfold putV at y1
  have BC2 := Lib.hid hb
  have HP2 := Lib.hid hP2
  clear hP2 hK2 hb
  go_wp2_with fail
  refine (C3.out _ HP2.out BC2.out.bx.kept).mono ?_
  clear y0 y1 z0 z1 z2 z3 z4 z5
  rintro e u3 ⟨rfl, hP3, hK3⟩
  have hb := BC2.out.move hK3
  obtain ⟨y0, y1, z0, z1, z2, z3, z4, z5⟩ := sixof hb
  unfold putV at y1
  have BC3 := Lib.hid hb
  have HP3 := Lib.hid hP3
  clear hP3 hK3 hb
  go_wp2_with fail
  go_end0
  refine ⟨rfl, ?_, BC3.out.bx.kept⟩
  have := HP3.out
  simp only [List.append_assoc] at this ⊢
  exact this
set_option maxHeartbeats 4000000 in
theorem con_lin_put (H : PutAt B b tb pb X W) (K : NmK B b pb W pn bn on_ ln L nm) (vs ks : List Int) (rel const : Int) (p1 p2 p3 : Option Addr) (b1 o1 l1 c1 b2 o2 l2 c2 l3 c3 : Nat) (n1 : ∀ u, Kp B b pb W u → Nums u p1 b1 o1 l1 vs) (n2 : ∀ u, Kp B b pb W u → Nums u p2 b2 o2 l2 ks)
    (S : SumK L nm vs ks) (hr : 0 ≤ rel ∧ rel ≤ 5) (ht : const.natAbs ≤ 1000000000000000000) (hX : X.length + (putT (sumsT nm (vs.zip ks) rel const)).length ≤ 100000000000) :
    Calls Tryd.prog 24 #[.agg #[.slice pn ln cn, putV tb pb], .agg #[.int .i64 1, .slice p1 l1 c1, .slice p2 l2 c2, .int .i64 rel, .int .i64 const, .slice p3 l3 c3]] W fun e w' => e = .returned (.tuple #[]) ∧ PutAt B b tb pb (X ++ putT (sumsT nm (vs.zip ks) rel const)) w' ∧ Kp B b pb W w' := by
  obtain ⟨cs, hcs⟩ : ∃ cs : Array Value, cs = #[.int .i64 1, .slice p1 l1 c1, .slice p2 l2 c2, .int .i64 rel, .int .i64 const, .slice p3 l3 c3] := ⟨_, rfl⟩
  have hbc := bc_start (pn := pn) (ln := ln) (cn := cn) H cs 28 (by decide)
  have hP0 := (H.alloc (.cells #[.slice pn ln cn, putV tb pb] 55)).alloc (.cells cs 28)
  rw [hcs] at hbc hP0
  have BC := Lib.hid hbc
  have HP := Lib.hid hP0
  have C1 := Lib.hid (sum_put (pn := pn) (ln := ln) (cn := cn) HP.out (K.move hbc.bx.kept) vs ks 1 rel const p1 p2 p3 p1 l1 c1 b2 o2 l2 c2 l3 c3 b1 o1 l1 c1 (fun u hu => n1 u (hbc.bx.kept.trans hu)) (fun u hu => n2 u (hbc.bx.kept.trans hu)) S hr ht hX)
  clear H K hX hbc hP0 hcs cs n1 n2 S hr ht
  unfold putV at *
  go_enter Tryd.func24, Tryd.ntmps24
  go_wp2_with fail
  refine C1.out.mono ?_
  rintro e u1 ⟨rfl, hP1, hK1⟩
  have hb := BC.out.move hK1
  obtain ⟨y0, y1, z0, z1, z2, z3, z4, z5⟩ := sixof hb
  unfold putV at y1
  have BC1 := Lib.hid hb
  have HP1 := Lib.hid hP1
  clear hP1 hK1 hb
  go_wp2_with fail
  go_end0
  exact ⟨rfl, HP1.out, BC1.out.bx.kept⟩
set_option maxHeartbeats 8000000 in
theorem con_iff_put (H : PutAt B b tb pb X W) (K : NmK B b pb W pn bn on_ ln L nm) (x : Int) (vs ks : List Int) (rel const : Int) (p2 p3 : Option Addr) (b1 o1 l m b2 o2 c2 l3 c3 : Nat) (nx : ∀ u, Kp B b pb W u → u.cell? ⟨b1, o1, none⟩ = some (.int .i64 x)) (hfx : Fit x) (hvx : VarK L nm [x]) (hlm : l ≤ m) (hl0 : 0 < l)
    (n1 : ∀ u, Kp B b pb W u → Nums u (some ⟨b1, o1 + 1, none⟩) b1 (o1 + 1) l vs) (n2 : ∀ u, Kp B b pb W u → Nums u p2 b2 o2 l ks)
    (S : SumK L nm vs ks) (hr : 0 ≤ rel ∧ rel ≤ 5) (ht : const.natAbs ≤ 1000000000000000000) (hX : X.length + (putT (tW Pa.tIff :: nm x :: sumsT nm (vs.zip ks) rel const)).length ≤ 100000000000) :
    Calls Tryd.prog 24 #[.agg #[.slice pn ln cn, putV tb pb], .agg #[.int .i64 3, .slice (some ⟨b1, o1, none⟩) (l + 1) (m + 1), .slice p2 l c2, .int .i64 rel, .int .i64 const, .slice p3 l3 c3]] W fun e w' => e = .returned (.tuple #[]) ∧ PutAt B b tb pb (X ++ putT (tW Pa.tIff :: nm x :: sumsT nm (vs.zip ks) rel const)) w' ∧ Kp B b pb W w' := by
  obtain ⟨cs, hcs⟩ : ∃ cs : Array Value, cs = #[.int .i64 3, .slice (some ⟨b1, o1, none⟩) (l + 1) (m + 1), .slice p2 l c2, .int .i64 rel, .int .i64 const, .slice p3 l3 c3] := ⟨_, rfl⟩
  have hbc := bc_start (pn := pn) (ln := ln) (cn := cn) H cs 28 (by decide)
  have hP0 := (H.alloc (.cells #[.slice pn ln cn, putV tb pb] 55)).alloc (.cells cs 28)
  rw [hcs] at hbc hP0
  have BC := Lib.hid hbc
  have HP := Lib.hid hP0
  have e0 : putT (tW Pa.tIff :: nm x :: sumsT nm (vs.zip ks) rel const) = sepO [105, 102, 102] ++ (sepO (nm x).text ++ putT (sumsT nm (vs.zip ks) rel const)) := by
    rw [show (tW Pa.tIff :: nm x :: sumsT nm (vs.zip ks) rel const) = [tW Pa.tIff] ++ ([nm x] ++ sumsT nm (vs.zip ks) rel const) from rfl, putT_app, putT_app, putT_one, putT_one]
    rfl
  rw [e0] at hX ⊢
  simp only [List.length_append] at hX
  have q : putT ([x].map nm) = sepO (nm x).text := putT_one _
  have C1 := Lib.hid (put_one HP.out [105, 102, 102] (by omega))
  have HN := Lib.hid (fun (u : World) (hP : PutAt B b tb pb (X ++ sepO [105, 102, 102]) u) (hK : Kp B b pb W u) => names_any (pn := pn) (ln := ln) (cn := cn) (hP.alloc (.cells #[.int .i64 x] 3)) (K.move (hK.trans (kp_alloc hP.size _))) [x] (some ⟨u.heap.size, 0, none⟩) u.heap.size 0 1 1 (by omega) (one_num hP x hfx) hvx (by rw [q]; simp only [List.length_append]; omega))
  rw [q] at HN
  have HS := Lib.hid (fun (u : World) (hP : PutAt B b tb pb ((X ++ sepO [105, 102, 102]) ++ sepO (nm x).text) u) (hK : Kp B b pb W u) => sum_put (pn := pn) (ln := ln) (cn := cn) hP (K.move hK) vs ks 3 rel const (some ⟨b1, o1, none⟩) p2 p3 (some ⟨b1, o1 + 1, none⟩) (l + 1) (m + 1) b2 o2 l c2 l3 c3 b1 (o1 + 1) l m (fun v hv => n1 v (hK.trans hv)) (fun v hv => n2 v (hK.trans hv)) S hr ht (by simp only [List.length_append]; omega))
  have NX := Lib.hid nx
  have hsl := fun W => slice_one b1 o1 l m hlm hl0 W
  clear H K hX e0 hbc hP0 hcs cs n1 n2 S hr ht nx q hfx hvx
  unfold putV at *
  go_enter Tryd.func24, Tryd.ntmps24
  go_wp2_with fail
  simp only [World.size_alloc] at C1
  refine C1.out.mono ?_
  rintro e u1 ⟨rfl, hP1, hK1⟩
  have hb := BC.out.move ((kp_alloc HP.out.size _).trans hK1)
  obtain ⟨y0, y1, z0, z1, z2, z3, z4, z5⟩ := sixof hb
  unfold putV at y1
  have BC1 := Lib.hid hb
  have HP1 := Lib.hid hP1
  clear hP1 hK1 hb
  have H0 := Lib.hid (And.intro y0 (And.intro y1 (And.intro z1 (And.intro (NX.out _ BC1.out.bx.kept) BC1.out))))
  have HX9 := Lib.hid (fun v (h : Bc B b tb pb W.heap.size (W.heap.size + 1) pn ln cn #[.int .i64 3, .slice (some ⟨b1, o1, none⟩) (l + 1) (m + 1), .slice p2 l c2, .int .i64 rel, .int .i64 const, .slice p3 l3 c3] 28 W v) => And.intro (h.cell 1) (NX.out v h.bx.kept))
  go_wp2_with fail
  clear y0 y1 z0 z1 z2 z3 z4 z5
  go_region_held3 (fun w' => w'.cell? ⟨W.heap.size, 0, none⟩ = some (.slice pn ln cn) ∧ w'.cell? ⟨W.heap.size, 1, none⟩ = some (.func (.func 34) #[] #[.pointer (some ⟨tb, 0, none⟩), .pointer (some ⟨pb, 0, none⟩)]) ∧ w'.cell? ⟨W.heap.size + 1, 1, none⟩ = some (.slice (some ⟨b1, o1, none⟩) (l + 1) (m + 1)) ∧ w'.cell? ⟨b1, o1, none⟩ = some (.int .i64 x) ∧ Bc B b tb pb W.heap.size (W.heap.size + 1) pn ln cn #[.int .i64 3, .slice (some ⟨b1, o1, none⟩) (l + 1) (m + 1), .slice p2 l c2, .int .i64 rel, .int .i64 const, .slice p3 l3 c3] 28 W w')
    (first | exact bc9 (by assumption) HX9.out (by assumption) | exact bc9 H0.out HX9.out (kp_drewN 1) | exact bc9 (by assumption) HX9.out (kp_alloc (HP1.out.drewN 1).size _))
    (first
      | (go_at_call 44; refine (HN.out _ (HP1.out.drewN 1) (BC1.out.bx.kept.drewN 1)).mono ?_; rintro e u2 ⟨rfl, hP2, hK2⟩; have HP2 := Lib.hid hP2; clear hP2))
  have h2 := (by assumption : u2.cell? ⟨W.heap.size, 0, none⟩ = some (.slice pn ln cn) ∧ u2.cell? ⟨W.heap.size, 1, none⟩ = some (.func (.func 34) #[] #[.pointer (some ⟨tb, 0, none⟩), .pointer (some ⟨pb, 0, none⟩)]) ∧ u2.cell? ⟨W.heap.size + 1, 1, none⟩ = some (.slice (some ⟨b1, o1, none⟩) (l + 1) (m + 1)) ∧ u2.cell? ⟨b1, o1, none⟩ = some (.int .i64 x) ∧ Bc B b tb pb W.heap.size (W.heap.size + 1) pn ln cn #[.int .i64 3, .slice (some ⟨b1, o1, none⟩) (l + 1) (m + 1), .slice p2 l c2, .int .i64 rel, .int .i64 const, .slice p3 l3 c3] 28 W u2).2.2.2.2
  have BC2 := Lib.hid h2
  have H1 := Lib.hid (bc10 (And.intro (sixof h2).1 (And.intro (sixof h2).2.1 (And.intro (sixof h2).2.2.1 (And.intro (sixof h2).2.2.2.1 (And.intro (sixof h2).2.2.2.2.1 (And.intro (sixof h2).2.2.2.2.2.1 (And.intro (sixof h2).2.2.2.2.2.2.1 (And.intro (sixof h2).2.2.2.2.2.2.2 h2)))))))) (Kp.refl _))
  unfold putV at H1
  obtain ⟨y0, y1, z0, z1, z2, z3, z4, z5⟩ := sixof h2
  unfold putV at y1
  clear h2
  go_wp2_with fail
  clear y0 y1 z0 z1 z2 z3 z4 z5
  go_region_held3 (fun w' => w'.cell? ⟨W.heap.size, 0, none⟩ = some (.slice pn ln cn) ∧ w'.cell? ⟨W.heap.size, 1, none⟩ = some (.func (.func 34) #[] #[.pointer (some ⟨tb, 0, none⟩), .pointer (some ⟨pb, 0, none⟩)]) ∧ w'.cell? ⟨W.heap.size + 1, 0, none⟩ = some (.int .i64 3) ∧ w'.cell? ⟨W.heap.size + 1, 1, none⟩ = some (.slice (some ⟨b1, o1, none⟩) (l + 1) (m + 1)) ∧ w'.cell? ⟨W.heap.size + 1, 2, none⟩ = some (.slice p2 l c2) ∧ w'.cell? ⟨W.heap.size + 1, 3, none⟩ = some (.int .i64 rel) ∧ w'.cell? ⟨W.heap.size + 1, 4, none⟩ = some (.int .i64 const) ∧ w'.cell? ⟨W.heap.size + 1, 5, none⟩ = some (.slice p3 l3 c3) ∧ Bc B b tb pb W.heap.size (W.heap.size + 1) pn ln cn #[.int .i64 3, .slice (some ⟨b1, o1, none⟩) (l + 1) (m + 1), .slice p2 l c2, .int .i64 rel, .int .i64 const, .slice p3 l3 c3] 28 W w')
    (first | exact bc10 (by assumption) (by assumption) | exact bc10 H1.out (kp_drewN 1))
    (first
      | (go_at_call 43; refine (HS.out _ (HP2.out.drewN 1) (BC2.out.bx.kept.drewN 1)).mono ?_; rintro e u3 ⟨rfl, hP3, hK3⟩; have HP3 := Lib.hid hP3; clear hP3))
  have h3 := And.right (And.right (And.right (And.right (And.right (And.right (And.right (And.right (by assumption : u3.cell? ⟨W.heap.size, 0, none⟩ = some (.slice pn ln cn) ∧ u3.cell? ⟨W.heap.size, 1, none⟩ = some (.func (.func 34) #[] #[.pointer (some ⟨tb, 0, none⟩), .pointer (some ⟨pb, 0, none⟩)]) ∧ u3.cell? ⟨W.heap.size + 1, 0, none⟩ = some (.int .i64 3) ∧ u3.cell? ⟨W.heap.size + 1, 1, none⟩ = some (.slice (some ⟨b1, o1, none⟩) (l + 1) (m + 1)) ∧ u3.cell? ⟨W.heap.size + 1, 2, none⟩ = some (.slice p2 l c2) ∧ u3.cell? ⟨W.heap.size + 1, 3, none⟩ = some (.int .i64 rel) ∧ u3.cell? ⟨W.heap.size + 1, 4, none⟩ = some (.int .i64 const) ∧ u3.cell? ⟨W.heap.size + 1, 5, none⟩ = some (.slice p3 l3 c3) ∧ Bc B b tb pb W.heap.size (W.heap.size + 1) pn ln cn #[.int .i64 3, .slice (some ⟨b1, o1, none⟩) (l + 1) (m + 1), .slice p2 l c2, .int .i64 rel, .int .i64 const, .slice p3 l3 c3] 28 W u3))))))))
  have BC3 := Lib.hid h3
  clear h3
  go_wp2_with fail
  go_end0
  refine ⟨rfl, ?_, BC3.out.bx.kept⟩
  have := HP3.out
  simp only [List.append_assoc] at this ⊢
  exact this
end
end Go.Proofs.YtkgieaoahijheaaDoor.Wt
