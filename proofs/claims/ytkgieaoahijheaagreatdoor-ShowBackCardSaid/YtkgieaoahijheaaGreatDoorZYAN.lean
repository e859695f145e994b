/-
  A constraint, as the writer puts it out.
  Lists of constraints, of the document's answers for texts of models.
  The bytes of a model's text, part by part; constraints of a model that may be may be written. Nothing of the program's text.
  What decls of package model answers, at every model that can be read.
-/
import Derived.Test.YtkgieaoahijheaaGreatDoorZYAM
import Derived.Test.YtkgieaoahijheaaGreatDoorZYAI
namespace Go.Proofs.YtkgieaoahijheaaGreatDoor.Wt
open Go.RowKit
open Sc (Tok)
set_option maxRecDepth 100000

section
variable {B b tb pb k kc : Nat} {W u u' : World} {X : List UInt8} {pn : Option Addr} {bn on_ ln cn : Nat} {L : List PDecl} {nm : Int → Tok}
theorem bc9 {cs : Array Value} {t : TypeId} {a1 a2 : Addr} {x1 x2 : Value} (h : u.cell? ⟨k, 0, none⟩ = some (.slice pn ln cn) ∧ u.cell? ⟨k, 1, none⟩ = some (putV tb pb) ∧ u.cell? a1 = some x1 ∧ u.cell? a2 = some x2 ∧ Bc B b tb pb k kc pn ln cn cs t W u)
    (hx : ∀ v, Bc B b tb pb k kc pn ln cn cs t W v → v.cell? a1 = some x1 ∧ v.cell? a2 = some x2) (hK : Kp B b pb u u') :
    u'.cell? ⟨k, 0, none⟩ = some (.slice pn ln cn) ∧ u'.cell? ⟨k, 1, none⟩ = some (putV tb pb) ∧ u'.cell? a1 = some x1 ∧ u'.cell? a2 = some x2 ∧ Bc B b tb pb k kc pn ln cn cs t W u' := by
  have h2 := h.2.2.2.2.move hK
  obtain ⟨h0, h1, _⟩ := h2.bx.cells
  exact ⟨h0, h1, (hx u' h2).1, (hx u' h2).2, h2⟩
theorem bc10 {y0 y1 y2 y3 y4 y5 : Value} {t : TypeId} (h : u.cell? ⟨k, 0, none⟩ = some (.slice pn ln cn) ∧ u.cell? ⟨k, 1, none⟩ = some (putV tb pb) ∧ u.cell? ⟨kc, 0, none⟩ = some y0 ∧ u.cell? ⟨kc, 1, none⟩ = some y1 ∧ u.cell? ⟨kc, 2, none⟩ = some y2 ∧ u.cell? ⟨kc, 3, none⟩ = some y3 ∧ u.cell? ⟨kc, 4, none⟩ = some y4 ∧ u.cell? ⟨kc, 5, none⟩ = some y5 ∧ Bc B b tb pb k kc pn ln cn #[y0, y1, y2, y3, y4, y5] t W u) (hK : Kp B b pb u u') :
    u'.cell? ⟨k, 0, none⟩ = some (.slice pn ln cn) ∧ u'.cell? ⟨k, 1, none⟩ = some (putV tb pb) ∧ u'.cell? ⟨kc, 0, none⟩ = some y0 ∧ u'.cell? ⟨kc, 1, none⟩ = some y1 ∧ u'.cell? ⟨kc, 2, none⟩ = some y2 ∧ u'.cell? ⟨kc, 3, none⟩ = some y3 ∧ u'.cell? ⟨kc, 4, none⟩ = some y4 ∧ u'.cell? ⟨kc, 5, none⟩ = some y5 ∧ Bc B b tb pb k kc pn ln cn #[y0, y1, y2, y3, y4, y5] t W u' := by
  have h2 := h.2.2.2.2.2.2.2.2.move hK
  obtain ⟨h0, h1, _⟩ := h2.bx.cells
  exact ⟨h0, h1, h2.cell 0, h2.cell 1, h2.cell 2, h2.cell 3, h2.cell 4, h2.cell 5, h2⟩
theorem sixof {y0 y1 y2 y3 y4 y5 : Value} {t : TypeId} (h2 : Bc B b tb pb k kc pn ln cn #[y0, y1, y2, y3, y4, y5] t W u) :
    u.cell? ⟨k, 0, none⟩ = some (.slice pn ln cn) ∧ u.cell? ⟨k, 1, none⟩ = some (putV tb pb) ∧ u.cell? ⟨kc, 0, none⟩ = some y0 ∧ u.cell? ⟨kc, 1, none⟩ = some y1 ∧ u.cell? ⟨kc, 2, none⟩ = some y2 ∧ u.cell? ⟨kc, 3, none⟩ = some y3 ∧ u.cell? ⟨kc, 4, none⟩ = some y4 ∧ u.cell? ⟨kc, 5, none⟩ = some y5 := by
  obtain ⟨h0, h1, _⟩ := h2.bx.cells
  exact ⟨h0, h1, h2.cell 0, h2.cell 1, h2.cell 2, h2.cell 3, h2.cell 4, h2.cell 5⟩
/-- numbers that are kept -/
theorem nums_kept {v : Value} {xs : List Int} (h : ∀ u, Kp B b pb W u → Slc rNum 1 u v xs) : ∃ (p : Option Addr) (bl off c len : Nat), v = .slice p len c ∧ len ≤ c ∧ ∀ u, Kp B b pb W u → Nums u p bl off len xs := by
  obtain ⟨p, bl, off, c, len, e, h1, h2⟩ := nums_slc (h W (Kp.refl W))
  refine ⟨p, bl, off, c, len, e, h1, fun u hu => ?_⟩
  obtain ⟨p', bl', off', c', len', e', _, h3⟩ := nums_slc (h u hu)
  rw [e] at e'
  cases e'
  by_cases h0 : len = 0
  · exact ⟨h2.long, fun q => by omega, fun k hk => by omega, fun k hk => by omega⟩
  · have a1 := h2.at_ (by omega)
    have a2 := h3.at_ (by omega)
    rw [a1] at a2
    cases a2
    exact h3
set_option maxHeartbeats 4000000 in
theorem con_product_put (H : PutAt B b tb pb X W) (K : NmK B b pb W pn bn on_ ln L nm) (vs : List Int) (p1 p2 p3 : Option Addr) (b1 o1 l1 c1 l2 c2 l3 c3 : Nat) (n1 : ∀ u, Kp B b pb W u → Nums u p1 b1 o1 l1 vs) (hl1 : l1 ≤ 1000000) (hv : VarK L nm vs)
    (hX : X.length + (putT (tW Pa.tProduct :: (vs.map nm ++ []))).length ≤ 100000000000) :
    Calls Tryz.prog 23 #[.agg #[.slice pn ln cn, putV tb pb], .agg #[.int .i64 2, .slice p1 l1 c1, .slice p2 l2 c2, .int .i64 0, .int .i64 0, .slice p3 l3 c3]] W fun e w' => e = .returned (.tuple #[]) ∧ PutAt B b tb pb (X ++ putT (tW Pa.tProduct :: (vs.map nm ++ []))) w' ∧ Kp B b pb W w' := by
  obtain ⟨cs, hcs⟩ : ∃ cs : Array Value, cs = #[.int .i64 2, .slice p1 l1 c1, .slice p2 l2 c2, .int .i64 0, .int .i64 0, .slice p3 l3 c3] := ⟨_, rfl⟩
  have hbc := bc_start (pn := pn) (ln := ln) (cn := cn) H cs 38 (by decide)
  have hP0 := (H.alloc (.cells #[.slice pn ln cn, putV tb pb] 55)).alloc (.cells cs 38)
  rw [hcs] at hbc hP0
  have BC := Lib.hid hbc
  have HP := Lib.hid hP0
  have e0 : putT (tW Pa.tProduct :: (vs.map nm ++ [])) = sepO [112, 114, 111, 100, 117, 99, 116] ++ (putT (vs.map nm) ++ []) := by
    rw [show (tW Pa.tProduct :: (vs.map nm ++ [])) = [tW Pa.tProduct] ++ (vs.map nm ++ []) from rfl, putT_app, putT_app, putT_one]
    rfl
  rw [e0] at hX ⊢
  simp only [List.length_append, List.append_nil] at hX
  have C1 := Lib.hid (put_one HP.out [112, 114, 111, 100, 117, 99, 116] (by omega))
  have C2 := Lib.hid (fun v (h : PutAt B b tb pb (X ++ sepO [112, 114, 111, 100, 117, 99, 116]) v) (hK : Kp B b pb W v) => names_any (pn := pn) (ln := ln) (cn := cn) h (K.move hK) vs p1 b1 o1 l1 c1 hl1 (fun u hu => n1 u (hK.trans hu)) hv (by simp only [List.length_append]; omega))
  clear H K hX e0 hbc hP0 hcs cs n1 hv
  unfold putV at *
  go_enter Tryz.func23, Tryz.ntmps23
  go_wp2_with fail
  simp only [World.size_alloc] at C1
  refine C1.out.mono ?_
  rintro e u1 ⟨rfl, hP1, hK1⟩
  have hb := BC.out.move ((kp_alloc HP.out.size _).trans hK1)
  obtain ⟨y0, y1, z0, z1, z2, z3, z4, z5⟩ := sixof hb
  unfold putV at y1
  have BC1 := Lib.hid hb
  have HP1 := Lib.hid hP1
  clear hP1 hK1 hb
  go_wp2_with fail
  refine (C2.out _ HP1.out BC1.out.bx.kept).mono ?_
  clear y0 y1 z0 z1 z2 z3 z4 z5
  rintro e u2 ⟨rfl, hP2, hK2⟩
  have hb := BC1.out.move hK2
  obtain ⟨y0, y1, z0, z1, z2, z3, z4, z5⟩ := sixof hb
  unfold putV at y1
  have BC2 := Lib.hid hb
  have HP2 := Lib.hid hP2
  clear hP2 hK2 hb
  go_wp2_with fail
  go_end0
  refine ⟨rfl, ?_, BC2.out.bx.kept⟩
  have := HP2.out
  simp only [List.append_assoc, List.append_nil] at this ⊢
  exact this
set_option maxHeartbeats 4000000 in
theorem con_differ_put (H : PutAt B b tb pb X W) (K : NmK B b pb W pn bn on_ ln L nm) (vs : List Int) (p1 p2 p3 : Option Addr) (b1 o1 l1 c1 l2 c2 l3 c3 : Nat) (n1 : ∀ u, Kp B b pb W u → Nums u p1 b1 o1 l1 vs) (hl1 : l1 ≤ 1000000) (hv : VarK L nm vs)
    (hX : X.length + (putT (tW Pa.tDifferent :: (vs.map nm ++ []))).length ≤ 100000000000) :
    Calls Tryz.prog 23 #[.agg #[.slice pn ln cn, putV tb pb], .agg #[.int .i64 5, .slice p1 l1 c1, .slice p2 l2 c2, .int .i64 0, .int .i64 0, .slice p3 l3 c3]] W fun e w' => e = .returned (.tuple #[]) ∧ PutAt B b tb pb (X ++ putT (tW Pa.tDifferent :: (vs.map nm ++ []))) w' ∧ Kp B b pb W w' := by
  obtain ⟨cs, hcs⟩ : ∃ cs : Array Value, cs = #[.int .i64 5, .slice p1 l1 c1, .slice p2 l2 c2, .int .i64 0, .int .i64 0, .slice p3 l3 c3] := ⟨_, rfl⟩
  have hbc := bc_start (pn := pn) (ln := ln) (cn := cn) H cs 38 (by decide)
  have hP0 := (H.alloc (.cells #[.slice pn ln cn, putV tb pb] 55)).alloc (.cells cs 38)
  rw [hcs] at hbc hP0
  have BC := Lib.hid hbc
  have HP := Lib.hid hP0
  have e0 : putT (tW Pa.tDifferent :: (vs.map nm ++ [])) = sepO [100, 105, 102, 102, 101, 114, 101, 110, 116] ++ (putT (vs.map nm) ++ []) := by
    rw [show (tW Pa.tDifferent :: (vs.map nm ++ [])) = [tW Pa.tDifferent] ++ (vs.map nm ++ []) from rfl, putT_app, putT_app, putT_one]
    rfl
  rw [e0] at hX ⊢
  simp only [List.length_append, List.append_nil] at hX
  have C1 := Lib.hid (put_one HP.out [100, 105, 102, 102, 101, 114, 101, 110, 116] (by omega))
  have C2 := Lib.hid (fun v (h : PutAt B b tb pb (X ++ sepO [100, 105, 102, 102, 101, 114, 101, 110, 116]) v) (hK : Kp B b pb W v) => names_any (pn := pn) (ln := ln) (cn := cn) h (K.move hK) vs p1 b1 o1 l1 c1 hl1 (fun u hu => n1 u (hK.trans hu)) hv (by simp only [List.length_append]; omega))
  clear H K hX e0 hbc hP0 hcs cs n1 hv
  unfold putV at *
  go_enter Tryz.func23, Tryz.ntmps23
  go_wp2_with fail
  simp only [World.size_alloc] at C1
  refine C1.out.mono ?_
  rintro e u1 ⟨rfl, hP1, hK1⟩
  have hb := BC.out.move ((kp_alloc HP.out.size _).trans hK1)
  obtain ⟨y0, y1, z0, z1, z2, z3, z4, z5⟩ := sixof hb
  unfold putV at y1
  have BC1 := Lib.hid hb
  have HP1 := Lib.hid hP1
  clear hP1 hK1 hb
  go_wp2_with fail
  refine (C2.out _ HP1.out BC1.out.bx.kept).mono ?_
  clear y0 y1 z0 z1 z2 z3 z4 z5
  rintro e u2 ⟨rfl, hP2, hK2⟩
  have hb := BC1.out.move hK2
  obtain ⟨y0, y1, z0, z1, z2, z3, z4, z5⟩ := sixof hb
  unfold putV at y1
  have BC2 := Lib.hid hb
  have HP2 := Lib.hid hP2
  clear hP2 hK2 hb
  go_wp2_with fail
  go_end0
  refine ⟨rfl, ?_, BC2.out.bx.kept⟩
  have := HP2.out
  simp only [List.append_assoc, List.append_nil] at this ⊢
  exact this
set_option maxHeartbeats 4000000 in
theorem con_element_put (H : PutAt B b tb pb X W) (K : NmK B b pb W pn bn on_ ln L nm) (vs ns : List Int) (p1 p2 p3 : Option Addr) (b1 o1 l1 c1 l2 c2 b3 o3 l3 c3 : Nat) (n1 : ∀ u, Kp B b pb W u → Nums u p1 b1 o1 l1 vs) (n3 : ∀ u, Kp B b pb W u → Nums u p3 b3 o3 l3 ns) (hl3 : l3 ≤ 1000000) (hz : ∀ z ∈ ns, z.natAbs ≤ 9000000000000000000) (hl1 : l1 ≤ 1000000) (hv : VarK L nm vs)
    (hX : X.length + (putT (tW Pa.tElement :: (vs.map nm ++ numsT ns))).length ≤ 100000000000) :
    Calls Tryz.prog 23 #[.agg #[.slice pn ln cn, putV tb pb], .agg #[.int .i64 4, .slice p1 l1 c1, .slice p2 l2 c2, .int .i64 0, .int .i64 0, .slice p3 l3 c3]] W fun e w' => e = .returned (.tuple #[]) ∧ PutAt B b tb pb (X ++ putT (tW Pa.tElement :: (vs.map nm ++ numsT ns))) w' ∧ Kp B b pb W w' := by
  obtain ⟨cs, hcs⟩ : ∃ cs : Array Value, cs = #[.int .i64 4, .slice p1 l1 c1, .slice p2 l2 c2, .int .i64 0, .int .i64 0, .slice p3 l3 c3] := ⟨_, rfl⟩
  have hbc := bc_start (pn := pn) (ln := ln) (cn := cn) H cs 38 (by decide)
  have hP0 := (H.alloc (.cells #[.slice pn ln cn, putV tb pb] 55)).alloc (.cells cs 38)
  rw [hcs] at hbc hP0
  have BC := Lib.hid hbc
  have HP := Lib.hid hP0
  have e0 : putT (tW Pa.tElement :: (vs.map nm ++ numsT ns)) = sepO [101, 108, 101, 109, 101, 110, 116] ++ (putT (vs.map nm) ++ putT (numsT ns)) := by
    rw [show (tW Pa.tElement :: (vs.map nm ++ numsT ns)) = [tW Pa.tElement] ++ (vs.map nm ++ numsT ns) from rfl, putT_app, putT_app, putT_one]
    rfl
  rw [e0] at hX ⊢
  simp only [List.length_append] at hX
  have C1 := Lib.hid (put_one HP.out [101, 108, 101, 109, 101, 110, 116] (by omega))
  have C2 := Lib.hid (fun v (h : PutAt B b tb pb (X ++ sepO [101, 108, 101, 109, 101, 110, 116]) v) (hK : Kp B b pb W v) => names_any (pn := pn) (ln := ln) (cn := cn) h (K.move hK) vs p1 b1 o1 l1 c1 hl1 (fun u hu => n1 u (hK.trans hu)) hv (by simp only [List.length_append]; omega))
  have C3 := Lib.hid (fun v (h : PutAt B b tb pb ((X ++ sepO [101, 108, 101, 109, 101, 110, 116]) ++ putT (vs.map nm)) v) (hK : Kp B b pb W v) => row_any (pn := pn) (ln := ln) (cn := cn) h ns p3 b3 o3 l3 c3 hl3 (fun u hu => n3 u (hK.trans hu)) hz (by simp only [List.length_append]; omega))
  clear H K hX e0 hbc hP0 hcs cs n1 hv n3 hz
  unfold putV at *
  go_enter Tryz.func23, Tryz.ntmps23
  go_wp2_with fail
  simp only [World.size_alloc] at C1
  refine C1.out.mono ?_
  rintro e u1 ⟨rfl, hP1, hK1⟩
  have hb := BC.out.move ((kp_alloc HP.out.size _).trans hK1)
  obtain ⟨y0, y1, z0, z1, z2, z3, z4, z5⟩ := sixof hb
  unfold putV at y1
  have BC1 := Lib.hid hb
  have HP1 := Lib.hid hP1
  clear hP1 hK1 hb
  go_wp2_with fail
  refine (C2.out _ HP1.out BC1.out.bx.kept).mono ?_
  clear y0 y1 z0 z1 z2 z3 z4 z5
  rintro e u2 ⟨rfl, hP2, hK2⟩
  have hb := BC1.out.move hK2
  obtain ⟨y0, y1, z0, z1, z2, z3, z4, z5⟩ := sixof hb
  unfold putV at y1
  have BC2 := Lib.hid hb
  have HP2 := Lib.hid hP2
  clear hP2 hK2 hb
  go_wp2_with fail
  refine (C3.out _ HP2.out BC2.out.bx.kept).mono ?_
  clear y0 y1 z0 z1 z2 z3 z4 z5
  rintro e u3 ⟨rfl, hP3, hK3⟩
  have hb := BC2.out.move hK3
  obtain ⟨y0, y1, z0, z1, z2, z3, z4, z5⟩ := sixof hb
  unfold putV at y1
  have BC3 := Lib.hid hb
  have HP3 := Lib.hid hP3
  clear hP3 hK3 hb
  go_wp2_with fail
  go_end0
  refine ⟨rfl, ?_, BC3.out.bx.kept⟩
  have := HP3.out
  simp only [List.append_assoc] at this ⊢
  exact this
set_option maxHeartbeats 4000000 in
theorem con_table_put (H : PutAt B b tb pb X W) (K : NmK B b pb W pn bn on_ ln L nm) (vs ns : List Int) (p1 p2 p3 : Option Addr) (b1 o1 l1 c1 l2 c2 b3 o3 l3 c3 : Nat) (n1 : ∀ u, Kp B b pb W u → Nums u p1 b1 o1 l1 vs) (n3 : ∀ u, Kp B b pb W u → Nums u p3 b3 o3 l3 ns) (hl3 : l3 ≤ 1000000) (hz : ∀ z ∈ ns, z.natAbs ≤ 9000000000000000000) (hl1 : l1 ≤ 1000000) (hv : VarK L nm vs)
    (hX : X.length + (putT (tW Pa.tTable :: (vs.map nm ++ numsT ns))).length ≤ 100000000000) :
    Calls Tryz.prog 23 #[.agg #[.slice pn ln cn, putV tb pb], .agg #[.int .i64 6, .slice p1 l1 c1, .slice p2 l2 c2, .int .i64 0, .int .i64 0, .slice p3 l3 c3]] W fun e w' => e = .returned (.tuple #[]) ∧ PutAt B b tb pb (X ++ putT (tW Pa.tTable :: (vs.map nm ++ numsT ns))) w' ∧ Kp B b pb W w' := by
  obtain ⟨cs, hcs⟩ : ∃ cs : Array Value, cs = #[.int .i64 6, .slice p1 l1 c1, .slice p2 l2 c2, .int .i64 0, .int .i64 0, .slice p3 l3 c3] := ⟨_, rfl⟩
  have hbc := bc_start (pn := pn) (ln := ln) (cn := cn) H cs 38 (by decide)
  have hP0 := (H.alloc (.cells #[.slice pn ln cn, putV tb pb] 55)).alloc (.cells cs 38)
  rw [hcs] at hbc hP0
  have BC := Lib.hid hbc
  have HP := Lib.hid hP0
  have e0 : putT (tW Pa.tTable :: (vs.map nm ++ numsT ns)) = sepO [116, 97, 98, 108, 101] ++ (putT (vs.map nm) ++ putT (numsT ns)) := by
    rw [show (tW Pa.tTable :: (vs.map nm ++ numsT ns)) = [tW Pa.tTable] ++ (vs.map nm ++ numsT ns) from rfl, putT_app, putT_app, putT_one]
    rfl
  rw [e0] at hX ⊢
  simp only [List.length_append] at hX
  have C1 := Lib.hid (put_one HP.out [116, 97, 98, 108, 101] (by omega))
  have C2 := Lib.hid (fun v (h : PutAt B b tb pb (X ++ sepO [116, 97, 98, 108, 101]) v) (hK : Kp B b pb W v) => names_any (pn := pn) (ln := ln) (cn := cn) h (K.move hK) vs p1 b1 o1 l1 c1 hl1 (fun u hu => n1 u (hK.trans hu)) hv (by simp only [List.length_append]; omega))
  have C3 := Lib.hid (fun v (h : PutAt B b tb pb ((X ++ sepO [116, 97, 98, 108, 101]) ++ putT (vs.map nm)) v) (hK : Kp B b pb W v) => row_any (pn := pn) (ln := ln) (cn := cn) h ns p3 b3 o3 l3 c3 hl3 (fun u hu => n3 u (hK.trans hu)) hz (by simp only [List.length_append]; omega))
  clear H K hX e0 hbc hP0 hcs cs n1 hv n3 hz
  unfold putV at *
  go_enter Tryz.func23, Tryz.ntmps23
  go_wp2_with fail
  simp only [World.size_alloc] at C1
  refine C1.out.mono ?_
  rintro e u1 ⟨rfl, hP1, hK1⟩
  have hb := BC.out.move ((kp_alloc HP.out.size _).trans hK1)
  obtain ⟨y0, y1, z0, z1, z2, z3, z4, z5⟩ := sixof hb
  unfold putV at y1
  have BC1 := Lib.hid hb
  have HP1 := Lib.hid hP1
  clear hP1 hK1 hb
  go_wp2_with fail
  refine (C2.out _ HP1.out BC1.out.bx.kept).mono ?_
  clear y0 y1 z0 z1 z2 z3 z4 z5
  rintro e u2 ⟨rfl, hP2, hK2⟩
  have hb := BC1.out.move hK2
  obtain ⟨y0, y1, z0, z1, z2, z3, z4, z5⟩ := sixof hb
  unfold putV at y1
  have BC2 := Lib.hid hb
  have HP2 := Lib.hid hP2
  clear hP2 hK2 hb
  go_wp2_with fail
  refine (C3.out _ HP2.out BC2.out.bx.kept).mono ?_
  clear y0 y1 z0 z1 z2 z3 z4 z5
  rintro e u3 ⟨rfl, hP3, hK3⟩
  have hb := BC2.out.move hK3
  obtain ⟨y0, y1, z0, z1, z2, z3, z4, z5⟩ := sixof hb
  unfold putV at y1
  have BC3 := Lib.hid hb
  have HP3 := Lib.hid hP3
  clear hP3 hK3 hb
  go_wp2_with fail
  go_end0
  refine ⟨rfl, ?_, BC3.out.bx.kept⟩
  have := HP3.out
  simp only [List.append_assoc] at this ⊢
  exact this
set_option maxHeartbeats 4000000 in
theorem con_lin_put (H : PutAt B b tb pb X W) (K : NmK B b pb W pn bn on_ ln L nm) (vs ks : List Int) (rel const : Int) (p1 p2 p3 : Option Addr) (b1 o1 l1 c1 b2 o2 l2 c2 l3 c3 : Nat) (n1 : ∀ u, Kp B b pb W u → Nums u p1 b1 o1 l1 vs) (n2 : ∀ u, Kp B b pb W u → Nums u p2 b2 o2 l2 ks)
    (S : SumK L nm vs ks) (hr : 0 ≤ rel ∧ rel ≤ 5) (ht : const.natAbs ≤ 1000000000000000000) (hX : X.length + (putT (sumsT nm (vs.zip ks) rel const)).length ≤ 100000000000) :
    Calls Tryz.prog 23 #[.agg #[.slice pn ln cn, putV tb pb], .agg #[.int .i64 1, .slice p1 l1 c1, .slice p2 l2 c2, .int .i64 rel, .int .i64 const, .slice p3 l3 c3]] W fun e w' => e = .returned (.tuple #[]) ∧ PutAt B b tb pb (X ++ putT (sumsT nm (vs.zip ks) rel const)) w' ∧ Kp B b pb W w' := by
  obtain ⟨cs, hcs⟩ : ∃ cs : Array Value, cs = #[.int .i64 1, .slice p1 l1 c1, .slice p2 l2 c2, .int .i64 rel, .int .i64 const, .slice p3 l3 c3] := ⟨_, rfl⟩
  have hbc := bc_start (pn := pn) (ln := ln) (cn := cn) H cs 38 (by decide)
  have hP0 := (H.alloc (.cells #[.slice pn ln cn, putV tb pb] 55)).alloc (.cells cs 38)
  rw [hcs] at hbc hP0
  have BC := Lib.hid hbc
  have HP := Lib.hid hP0
  have C1 := Lib.hid (sum_put (pn := pn) (ln := ln) (cn := cn) HP.out (K.move hbc.bx.kept) vs ks 1 rel const p1 p2 p3 p1 l1 c1 b2 o2 l2 c2 l3 c3 b1 o1 l1 c1 (fun u hu => n1 u (hbc.bx.kept.trans hu)) (fun u hu => n2 u (hbc.bx.kept.trans hu)) S hr ht hX)
  clear H K hX hbc hP0 hcs cs n1 n2 S hr ht
  unfold putV at *
  go_enter Tryz.func23, Tryz.ntmps23
  go_wp2_with fail
  refine C1.out.mono ?_
  rintro e u1 ⟨rfl, hP1, hK1⟩
  have hb := BC.out.move hK1
  obtain ⟨y0, y1, z0, z1, z2, z3, z4, z5⟩ := sixof hb
  unfold putV at y1
  have BC1 := Lib.hid hb
  have HP1 := Lib.hid hP1
  clear hP1 hK1 hb
  go_wp2_with fail
  go_end0
  exact ⟨rfl, HP1.out, BC1.out.bx.kept⟩
set_option maxHeartbeats 8000000 in
theorem con_iff_put (H : PutAt B b tb pb X W) (K : NmK B b pb W pn bn on_ ln L nm) (x : Int) (vs ks : List Int) (rel const : Int) (p2 p3 : Option Addr) (b1 o1 l m b2 o2 c2 l3 c3 : Nat) (nx : ∀ u, Kp B b pb W u → u.cell? ⟨b1, o1, none⟩ = some (.int .i64 x)) (hfx : Fit x) (hvx : VarK L nm [x]) (hlm : l ≤ m) (hl0 : 0 < l)
    (n1 : ∀ u, Kp B b pb W u → Nums u (some ⟨b1, o1 + 1, none⟩) b1 (o1 + 1) l vs) (n2 : ∀ u, Kp B b pb W u → Nums u p2 b2 o2 l ks)
    (S : SumK L nm vs ks) (hr : 0 ≤ rel ∧ rel ≤ 5) (ht : const.natAbs ≤ 1000000000000000000) (hX : X.length + (putT (tW Pa.tIff :: nm x :: sumsT nm (vs.zip ks) rel const)).length ≤ 100000000000) :
    Calls Tryz.prog 23 #[.agg #[.slice pn ln cn, putV tb pb], .agg #[.int .i64 3, .slice (some ⟨b1, o1, none⟩) (l + 1) (m + 1), .slice p2 l c2, .int .i64 rel, .int .i64 const, .slice p3 l3 c3]] W fun e w' => e = .returned (.tuple #[]) ∧ PutAt B b tb pb (X ++ putT (tW Pa.tIff :: nm x :: sumsT nm (vs.zip ks) rel const)) w' ∧ Kp B b pb W w' := by
  obtain ⟨cs, hcs⟩ : ∃ cs : Array Value, cs = #[.int .i64 3, .slice (some ⟨b1, o1, none⟩) (l + 1) (m + 1), .slice p2 l c2, .int .i64 rel, .int .i64 const, .slice p3 l3 c3] := ⟨_, rfl⟩
  have hbc := bc_start (pn := pn) (ln := ln) (cn := cn) H cs 38 (by decide)
  have hP0 := (H.alloc (.cells #[.slice pn ln cn, putV tb pb] 55)).alloc (.cells cs 38)
  rw [hcs] at hbc hP0
  have BC := Lib.hid hbc
  have HP := Lib.hid hP0
  have e0 : putT (tW Pa.tIff :: nm x :: sumsT nm (vs.zip ks) rel const) = sepO [105, 102, 102] ++ (sepO (nm x).text ++ putT (sumsT nm (vs.zip ks) rel const)) := by
    rw [show (tW Pa.tIff :: nm x :: sumsT nm (vs.zip ks) rel const) = [tW Pa.tIff] ++ ([nm x] ++ sumsT nm (vs.zip ks) rel const) from rfl, putT_app, putT_app, putT_one, putT_one]
    rfl
  rw [e0] at hX ⊢
  simp only [List.length_append] at hX
  have q : putT ([x].map nm) = sepO (nm x).text := putT_one _
  have C1 := Lib.hid (put_one HP.out [105, 102, 102] (by omega))
  have HN := Lib.hid (fun (u : World) (hP : PutAt B b tb pb (X ++ sepO [105, 102, 102]) u) (hK : Kp B b pb W u) => names_any (pn := pn) (ln := ln) (cn := cn) (hP.alloc (.cells #[.int .i64 x] 3)) (K.move (hK.trans (kp_alloc hP.size _))) [x] (some ⟨u.heap.size, 0, none⟩) u.heap.size 0 1 1 (by omega) (one_num hP x hfx) hvx (by rw [q]; simp only [List.length_append]; omega))
  rw [q] at HN
  have HS := Lib.hid (fun (u : World) (hP : PutAt B b tb pb ((X ++ sepO [105, 102, 102]) ++ sepO (nm x).text) u) (hK : Kp B b pb W u) => sum_put (pn := pn) (ln := ln) (cn := cn) hP (K.move hK) vs ks 3 rel const (some ⟨b1, o1, none⟩) p2 p3 (some ⟨b1, o1 + 1, none⟩) (l + 1) (m + 1) b2 o2 l c2 l3 c3 b1 (o1 + 1) l m (fun v hv => n1 v (hK.trans hv)) (fun v hv => n2 v (hK.trans hv)) S hr ht (by simp only [List.length_append]; omega))
  have NX := Lib.hid nx
  have hsl := fun W => slice_one b1 o1 l m hlm hl0 W
  clear H K hX e0 hbc hP0 hcs cs n1 n2 S hr ht nx q hfx hvx
  unfold putV at *
  go_enter Tryz.func23, Tryz.ntmps23
  go_wp2_with fail
  simp only [World.size_alloc] at C1
  refine C1.out.mono ?_
  rintro e u1 ⟨rfl, hP1, hK1⟩
  have hb := BC.out.move ((kp_alloc HP.out.size _).trans hK1)
  obtain ⟨y0, y1, z0, z1, z2, z3, z4, z5⟩ := sixof hb
  unfold putV at y1
  have BC1 := Lib.hid hb
  have HP1 := Lib.hid hP1
  clear hP1 hK1 hb
  have H0 := Lib.hid (And.intro y0 (And.intro y1 (And.intro z1 (And.intro (NX.out _ BC1.out.bx.kept) BC1.out))))
  have HX9 := Lib.hid (fun v (h : Bc B b tb pb W.heap.size (W.heap.size + 1) pn ln cn #[.int .i64 3, .slice (some ⟨b1, o1, none⟩) (l + 1) (m + 1), .slice p2 l c2, .int .i64 rel, .int .i64 const, .slice p3 l3 c3] 38 W v) => And.intro (h.cell 1) (NX.out v h.bx.kept))
  go_wp2_with fail
  clear y0 y1 z0 z1 z2 z3 z4 z5
  go_region_held3 (fun w' => w'.cell? ⟨W.heap.size, 0, none⟩ = some (.slice pn ln cn) ∧ w'.cell? ⟨W.heap.size, 1, none⟩ = some (.func (.func 28) #[] #[.pointer (some ⟨tb, 0, none⟩), .pointer (some ⟨pb, 0, none⟩)]) ∧ w'.cell? ⟨W.heap.size + 1, 1, none⟩ = some (.slice (some ⟨b1, o1, none⟩) (l + 1) (m + 1)) ∧ w'.cell? ⟨b1, o1, none⟩ = some (.int .i64 x) ∧ Bc B b tb pb W.heap.size (W.heap.size + 1) pn ln cn #[.int .i64 3, .slice (some ⟨b1, o1, none⟩) (l + 1) (m + 1), .slice p2 l c2, .int .i64 rel, .int .i64 const, .slice p3 l3 c3] 38 W w')
    (first | exact bc9 (by assumption) HX9.out (by assumption) | exact bc9 H0.out HX9.out (kp_drewN 1) | exact bc9 (by assumption) HX9.out (kp_alloc (HP1.out.drewN 1).size _))
    (first
      | (go_at_call 43; refine (HN.out _ (HP1.out.drewN 1) (BC1.out.bx.kept.drewN 1)).mono ?_; rintro e u2 ⟨rfl, hP2, hK2⟩; have HP2 := Lib.hid hP2; clear hP2))
  have h2 := (by assumption : u2.cell? ⟨W.heap.size, 0, none⟩ = some (.slice pn ln cn) ∧ u2.cell? ⟨W.heap.size, 1, none⟩ = some (.func (.func 28) #[] #[.pointer (some ⟨tb, 0, none⟩), .pointer (some ⟨pb, 0, none⟩)]) ∧ u2.cell? ⟨W.heap.size + 1, 1, none⟩ = some (.slice (some ⟨b1, o1, none⟩) (l + 1) (m + 1)) ∧ u2.cell? ⟨b1, o1, none⟩ = some (.int .i64 x) ∧ Bc B b tb pb W.heap.size (W.heap.size + 1) pn ln cn #[.int .i64 3, .slice (some ⟨b1, o1, none⟩) (l + 1) (m + 1), .slice p2 l c2, .int .i64 rel, .int .i64 const, .slice p3 l3 c3] 38 W u2).2.2.2.2
  have BC2 := Lib.hid h2
  have H1 := Lib.hid (bc10 (And.intro (sixof h2).1 (And.intro (sixof h2).2.1 (And.intro (sixof h2).2.2.1 (And.intro (sixof h2).2.2.2.1 (And.intro (sixof h2).2.2.2.2.1 (And.intro (sixof h2).2.2.2.2.2.1 (And.intro (sixof h2).2.2.2.2.2.2.1 (And.intro (sixof h2).2.2.2.2.2.2.2 h2)))))))) (Kp.refl _))
  unfold putV at H1
  obtain ⟨y0, y1, z0, z1, z2, z3, z4, z5⟩ := sixof h2
  unfold putV at y1
  clear h2
  go_wp2_with fail
  clear y0 y1 z0 z1 z2 z3 z4 z5
  go_region_held3 (fun w' => w'.cell? ⟨W.heap.size, 0, none⟩ = some (.slice pn ln cn) ∧ w'.cell? ⟨W.heap.size, 1, none⟩ = some (.func (.func 28) #[] #[.pointer (some ⟨tb, 0, none⟩), .pointer (some ⟨pb, 0, none⟩)]) ∧ w'.cell? ⟨W.heap.size + 1, 0, none⟩ = some (.int .i64 3) ∧ w'.cell? ⟨W.heap.size + 1, 1, none⟩ = some (.slice (some ⟨b1, o1, none⟩) (l + 1) (m + 1)) ∧ w'.cell? ⟨W.heap.size + 1, 2, none⟩ = some (.slice p2 l c2) ∧ w'.cell? ⟨W.heap.size + 1, 3, none⟩ = some (.int .i64 rel) ∧ w'.cell? ⟨W.heap.size + 1, 4, none⟩ = some (.int .i64 const) ∧ w'.cell? ⟨W.heap.size + 1, 5, none⟩ = some (.slice p3 l3 c3) ∧ Bc B b tb pb W.heap.size (W.heap.size + 1) pn ln cn #[.int .i64 3, .slice (some ⟨b1, o1, none⟩) (l + 1) (m + 1), .slice p2 l c2, .int .i64 rel, .int .i64 const, .slice p3 l3 c3] 38 W w')
    (first | exact bc10 (by assumption) (by assumption) | exact bc10 H1.out (kp_drewN 1))
    (first
      | (go_at_call 42; refine (HS.out _ (HP2.out.drewN 1) (BC2.out.bx.kept.drewN 1)).mono ?_; rintro e u3 ⟨rfl, hP3, hK3⟩; have HP3 := Lib.hid hP3; clear hP3))
  have h3 := And.right (And.right (And.right (And.right (And.right (And.right (And.right (And.right (by assumption : u3.cell? ⟨W.heap.size, 0, none⟩ = some (.slice pn ln cn) ∧ u3.cell? ⟨W.heap.size, 1, none⟩ = some (.func (.func 28) #[] #[.pointer (some ⟨tb, 0, none⟩), .pointer (some ⟨pb, 0, none⟩)]) ∧ u3.cell? ⟨W.heap.size + 1, 0, none⟩ = some (.int .i64 3) ∧ u3.cell? ⟨W.heap.size + 1, 1, none⟩ = some (.slice (some ⟨b1, o1, none⟩) (l + 1) (m + 1)) ∧ u3.cell? ⟨W.heap.size + 1, 2, none⟩ = some (.slice p2 l c2) ∧ u3.cell? ⟨W.heap.size + 1, 3, none⟩ = some (.int .i64 rel) ∧ u3.cell? ⟨W.heap.size + 1, 4, none⟩ = some (.int .i64 const) ∧ u3.cell? ⟨W.heap.size + 1, 5, none⟩ = some (.slice p3 l3 c3) ∧ Bc B b tb pb W.heap.size (W.heap.size + 1) pn ln cn #[.int .i64 3, .slice (some ⟨b1, o1, none⟩) (l + 1) (m + 1), .slice p2 l c2, .int .i64 rel, .int .i64 const, .slice p3 l3 c3] 38 W u3))))))))
  have BC3 := Lib.hid h3
  clear h3
  go_wp2_with fail
  go_end0
  refine ⟨rfl, ?_, BC3.out.bx.kept⟩
  have := HP3.out
  simp only [List.append_assoc] at this ⊢
  exact this
end
end Go.Proofs.YtkgieaoahijheaaGreatDoor.Wt
namespace Go.Proofs.YtkgieaoahijheaaGreatDoor.Wt
open Go.RowKit
open Sc (Tok)
set_option maxRecDepth 100000

section
variable {nm : Int → Tok} {w w' : World} {pn : Option Addr} {bn on_ ln cn : Nat} {L : List PDecl} {c : PCon}
theorem rcon_at {p : Option Addr} {b off len : Nat} {l : List PCon} (h : SliceOf rCon 6 w p b off len l) {k : Nat} (hk : k < len) :
    ∃ (c : PCon) (u1 u2 u3 : Value), l[k]? = some c ∧ w.cell? ⟨b, off + k * 6, none⟩ = some (.int .i64 c.kind) ∧ w.cell? ⟨b, off + k * 6 + 1, none⟩ = some u1 ∧ w.cell? ⟨b, off + k * 6 + 2, none⟩ = some u2 ∧ w.cell? ⟨b, off + k * 6 + 3, none⟩ = some (.int .i64 c.rel) ∧ w.cell? ⟨b, off + k * 6 + 4, none⟩ = some (.int .i64 c.const) ∧ w.cell? ⟨b, off + k * 6 + 5, none⟩ = some u3 ∧ rCon w [.int .i64 c.kind, u1, u2, .int .i64 c.rel, .int .i64 c.const, u3] c := by
  have hx : k < l.length := by rw [← h.long]; exact hk
  have e : l[k]? = some l[k] := List.getElem?_eq_getElem hx
  obtain ⟨cs, h1, h2, h3⟩ := h.cell k _ e
  have h3' := h3
  obtain ⟨u1, u2, u3, e3, _⟩ := h3
  subst e3
  exact ⟨_, u1, u2, u3, e, h2 0 (by omega), h2 1 (by omega), h2 2 (by omega), h2 3 (by omega), h2 4 (by omega), h2 5 (by omega), h3'⟩
theorem names_long : ∀ (l : List Int), (∀ v ∈ l, (nm v).text.length ≤ 1000) → (spT (l.map nm)).length ≤ 1001 * l.length
  | [], _ => by simp [spT]
  | v :: l, h => by
    have h1 := h v (by simp)
    have h2 := names_long l (fun x hx => h x (by simp [hx]))
    have e : spT ((v :: l).map nm) = (32 :: (nm v).text) ++ spT (l.map nm) := by simp [spT]
    rw [e, List.length_append, List.length_cons, List.length_cons]
    omega
theorem nums_long : ∀ (l : List Int), (∀ k ∈ l, k.natAbs ≤ 1000000000000000000) → (spT (l.flatMap numT)).length ≤ 22 * l.length
  | [], _ => by simp [spT]
  | v :: l, h => by
    have h1 := numT_long (h v (by simp))
    have h2 := nums_long l (fun x hx => h x (by simp [hx]))
    rw [List.flatMap_cons, sp_app, List.length_append, List.length_cons]
    omega
theorem con_long (hc : ConM nm L c) (hd : ∀ d ∈ L, d.name.length ≤ 1000) : (spT (conT nm c)).length ≤ 3000000 := by
  obtain ⟨h1, h2, h3, h4, h5, h6, h7, h8⟩ := hc
  have hn : ∀ v ∈ c.vars, (nm v).text.length ≤ 1000 := fun v hv => by
    rw [h5 v hv]
    have hl := (h4 v hv).2
    rw [List.getD_eq_getElem?_getD, List.getElem?_eq_getElem hl]
    exact hd _ (List.getElem_mem hl)
  have hsum : ∀ (xs ks : List Int) (r const : Int), xs.length ≤ 1000 → (∀ v ∈ xs, (nm v).text.length ≤ 1000) → (∀ k ∈ ks, k.natAbs ≤ 1000000000000000000) → const.natAbs ≤ 1000000000000000000 → 0 ≤ r ∧ r ≤ 5 → (spT (sumsT nm (xs.zip ks) r const)).length ≤ 2000100 := fun xs ks r const q1 q2 q3 q4 q5 => by
    have a1 := sum_long (nm := nm) (xs.zip ks) true (fun x hx => ⟨q2 _ (List.of_mem_zip hx).1, q3 _ (List.of_mem_zip hx).2⟩)
    have a2 := numT_long q4
    have a3 : (spT [relT r]).length ≤ 3 := by
      obtain ⟨n, rfl⟩ : ∃ n : Nat, r = (n : Int) := ⟨r.toNat, by omega⟩
      exact ((conW_is default 1 default default (n : Int) 0 default).rel (by omega)).2
    have a4 : (xs.zip ks).length ≤ xs.length := by rw [List.length_zip]; omega
    unfold sumsT
    rw [sp_app, sp_app, List.length_append, List.length_append]
    omega
  have hw : ∀ (s : Pa.Txt) (xs : List Int) (r : List Tok), s.length ≤ 20 → xs.length ≤ 1000 → (∀ v ∈ xs, (nm v).text.length ≤ 1000) → (spT r).length ≤ 100000 → (spT (tW s :: (xs.map nm ++ r))).length ≤ 3000000 := fun s xs r q1 q2 q3 q4 => by
    have a1 := names_long (nm := nm) xs q3
    have e : spT (tW s :: (xs.map nm ++ r)) = (32 :: s) ++ (spT (xs.map nm) ++ spT r) := by simp [spT, tW]
    rw [e, List.length_append, List.length_append, List.length_cons]
    omega
  have hb : (spT (numsT c.nums)).length ≤ 100000 := by
    have a1 := nums_long c.nums h8
    have e : spT (numsT c.nums) = [32, 91] ++ (spT (c.nums.flatMap numT) ++ [32, 93]) := by simp [spT, numsT, tM, Pa.tOpen, Pa.tShut, List.flatMap_append]
    rw [e]
    simp only [List.length_append, List.length_cons, List.length_nil]
    omega
  cases h1 with
  | lin xs cs rel const h h0 hr =>
    have := hsum xs cs rel const h2 hn h6 h7 hr
    show (spT (sumsT nm (xs.zip cs) rel const)).length ≤ _
    omega
  | iff x xs cs rel const h h0 hr =>
    have := hsum xs cs rel const (by simp at h2; omega) (fun v hv => hn v (List.mem_cons_of_mem _ hv)) h6 h7 hr
    have hx := hn x (by simp)
    have e : spT (tW Pa.tIff :: nm x :: sumsT nm (xs.zip cs) rel const) = [32, 105, 102, 102] ++ ((32 :: (nm x).text) ++ spT (sumsT nm (xs.zip cs) rel const)) := by simp [spT, tW, Pa.tIff]
    show (spT (tW Pa.tIff :: nm x :: sumsT nm (xs.zip cs) rel const)).length ≤ _
    rw [e]
    simp only [List.length_append, List.length_cons, List.length_nil]
    omega
  | product xs h => exact hw Pa.tProduct xs [] (by decide) h2 hn (by simp [spT])
  | element xs ns h hn' => exact hw Pa.tElement xs _ (by decide) h2 hn hb
  | differ xs h => exact hw Pa.tDifferent xs [] (by decide) h2 hn (by simp [spT])
  | table xs ns h => exact hw Pa.tTable xs _ (by decide) h2 hn hb
theorem list_snoc (l : List PCon) (c : PCon) (h : l ≠ []) : listT nm (l ++ [c]) = listT nm l ++ (tW Pa.tAnd :: conT nm c) := by
  cases l with
  | nil => exact absurd rfl h
  | cons d l => simp [listT]
end
end Go.Proofs.YtkgieaoahijheaaGreatDoor.Wt
namespace Go.Proofs.YtkgieaoahijheaaGreatDoor.Wt
open Sc (Tok)
open Pa

theorem line_eq (t : Tok) (ts : List Tok) : lineL (t :: ts) = t.text ++ (spT ts ++ [32, 59, 10]) := by
  unfold lineL
  induction ts generalizing t with
  | nil => simp [lineP, sepL, spT, tM, tSemi]
  | cons u ts ih =>
    have e : sepL (lineP (t :: u :: ts)) = t.text ++ 32 :: sepL (lineP (u :: ts)) := by simp [lineP, sepL]
    rw [e, ih u]
    simp [spT]
/-- a block's text -/
def blockL (nm : Int → Tok) (b : PBlock) : List UInt8 := (if b.all = true then tForall else tExists) ++ (spT (declsT b.vars) ++ ((if b.cons = [] then [] else [32, 119, 104, 101, 114, 101] ++ spT (listT nm b.cons)) ++ [32, 59, 10]))
theorem block_eq (nm : Int → Tok) (b : PBlock) : lineL (blockH nm b) = blockL nm b := by
  unfold blockH blockL
  rw [line_eq]
  by_cases h : b.cons = []
  · simp [h, tW]
  · simp [h, tW, spT, tWhere]
theorem text_eq (nm : Int → Tok) (m : PModel) : textL nm m = m.blocks.flatMap (blockL nm) ++ ([103, 111, 97, 108] ++ (spT (listT nm m.goal) ++ [32, 59, 10])) := by
  unfold textL pairsM goalH
  rw [sep_app]
  have e : sepL (lineP (tW tGoal :: listT nm m.goal)) = lineL (tW tGoal :: listT nm m.goal) := rfl
  rw [e, line_eq]
  congr 1
  show sepL (m.blocks.flatMap fun b => lineP (blockH nm b)) = _
  induction m.blocks with
  | nil => rfl
  | cons b l ih =>
    rw [List.flatMap_cons, List.flatMap_cons, sep_app, ih]
    congr 1
    exact block_eq nm b
theorem decls_snoc (l : List PDecl) (d : PDecl) (h : l ≠ []) : declsT (l ++ [d]) = declsT l ++ (tM tComma :: declT d) := by
  cases l with
  | nil => exact absurd rfl h
  | cons e l => simp [declsT]
/-- each constraint may be of so many variables as the model has -/
theorem some_right : ∀ (l : List PBlock) (n : Nat), conF n l = false → ∀ b ∈ l, ∀ c ∈ b.cons, ∃ k : Nat, k ≤ n + (varsL l).length ∧ rightC c (k : Int) = true
  | [], _, _, b, hb, _, _ => by cases hb
  | x :: l, n, h, b, hb, c, hc => by
    unfold conF at h
    rw [Bool.or_eq_false_iff] at h
    have e : (varsL (x :: l)).length = x.vars.length + (varsL l).length := by simp [varsL]
    rcases List.mem_cons.1 hb with rfl | q
    · have := List.any_eq_false.1 h.1 c hc
      exact ⟨n + b.vars.length, by omega, by simpa using this⟩
    · obtain ⟨k, k1, k2⟩ := some_right l _ h.2 b q c hc
      exact ⟨k, by omega, k2⟩
theorem getD_name (l : List PDecl) (i : Nat) : (names l).getD i [] = (l.getD i ⟨[], []⟩).name := by
  simp only [List.getD_eq_getElem?_getD, names, List.getElem?_map]
  cases l[i]? <;> rfl
theorem con_may {m : PModel} {c : PCon} {k : Nat} (hk : k ≤ (varsL m.blocks).length) (h : rightC c (k : Int) = true) : ConM (nmT (namesM m)) (varsL m.blocks) c := by
  obtain ⟨h1, h2, h3, h4, h5, h6, h7⟩ := right_shape h
  have hn : ∀ {z : Int}, Num z → z.natAbs ≤ 1000000000000000000 := fun hz => by unfold Num Sc.mostV at hz; omega
  refine ⟨h1, by omega, by omega, fun v hv => ⟨(h2 v hv).1, by have := h2 v hv; omega⟩, fun v _ => ?_, fun k hk => hn (h3 k hk), hn h4, fun k hk => hn (h5 k hk)⟩
  show (namesM m).getD v.toNat [] = _
  unfold namesM
  rw [← names_eq, getD_name]
/-- what Text of the document's answers needs to know of a model that may be -/
structure TextM (m : PModel) : Prop where
  cons : ∀ b ∈ m.blocks, ∀ c ∈ b.cons, ConM (nmT (namesM m)) (varsL m.blocks) c
  goal : ∀ c ∈ m.goal, ConM (nmT (namesM m)) (varsL m.blocks) c
  name : ∀ d ∈ varsL m.blocks, d.name.length ≤ 12
  doms : ∀ b ∈ m.blocks, ∀ d ∈ b.vars, (∀ p ∈ d.dom, Num p.1 ∧ Num p.2) ∧ d.dom.length ≤ 64
  fewb : m.blocks.length ≤ 8
  fewv : ∀ b ∈ m.blocks, b.vars.length ≤ 16
  fewc : ∀ b ∈ m.blocks, b.cons.length ≤ 16
  fewg : m.goal.length ≤ 16
theorem text_may {m : PModel} (h : checkM m = 0) : TextM m := by
  obtain ⟨h1, h2, h3, h4, h5, h6⟩ := check_parts h
  unfold bigM at h1
  unfold nameM at h3
  unfold domM at h5
  unfold conM at h6
  simp only [Bool.or_eq_false_iff, decide_eq_false_iff_not] at h1 h6
  obtain ⟨b1, b2, b3, b4⟩ := h1
  have hle : ∀ b ∈ m.blocks, b.vars.length ≤ (varsL m.blocks).length := fun b hb => by
    obtain ⟨x, y, e⟩ := List.append_of_mem hb
    rw [e]
    simp [varsL]
    omega
  refine ⟨fun b hb c hc => ?_, fun c hc => ?_, fun d hd => ?_, fun b hb d hd => ?_, by omega, fun b hb => ?_, fun b hb => ?_, by omega⟩
  · obtain ⟨k, k1, k2⟩ := some_right m.blocks 0 h6.1 b hb c hc
    exact con_may (by omega) k2
  · have := List.any_eq_false.1 h6.2 c hc
    exact con_may (Nat.le_refl _) (by simpa using this)
  · have hn : nameL d.name = true := by simpa using List.any_eq_false.1 h3 d hd
    unfold nameL at hn
    simp only [Bool.and_eq_true, decide_eq_true_eq] at hn
    exact hn.2.2.2
  · have hm : d ∈ varsL m.blocks := List.mem_flatMap.2 ⟨b, hb, hd⟩
    have hdd : domD d = false := by simpa using List.any_eq_false.1 h5 d hm
    have hn : nameL d.name = true := by simpa using List.any_eq_false.1 h3 d hm
    refine ⟨(dom_ok hn hdd).1.nums, ?_⟩
    unfold domD at hdd
    simp only [Bool.or_eq_false_iff, decide_eq_false_iff_not] at hdd
    have hr : rightL d.dom = true := by
      cases q : rightL d.dom
      · have : szL d.dom = 0 := by
          unfold szL
          rw [q]
          rfl
        omega
      · rfl
    have hs : szL d.dom = sizeL d.dom := by
      unfold szL
      rw [if_pos hr]
    have := (right_in d.dom (-1048576) (by decide) hr).2
    omega
  · have := hle b hb
    omega
  · have := List.any_eq_false.1 b3 b hb
    simp only [decide_eq_true_eq] at this
    omega
end Go.Proofs.YtkgieaoahijheaaGreatDoor.Wt
namespace Go.Proofs.YtkgieaoahijheaaGreatDoor
open Go.RowKit
set_option maxRecDepth 100000

set_option maxRecDepth 100000 in
set_option maxHeartbeats 2000000 in
theorem pdecls_cells (pb : Option Addr) (bb ob cb lb : Nat) (gv : Value) (m : PModel) (w : World) (h : Mod w pb bb ob cb lb gv m) (hl : lb ≤ 1000) (hv : ∀ x ∈ m.blocks, x.vars.length ≤ 1000) (ht : (varsL m.blocks).length ≤ 100000) :
    Calls Tryz.prog 25 #[.agg #[.slice pb lb cb, gv]] w fun e w' => ∃ v, e = .returned v ∧ OwnsOf rDecl 2 45 w w' v (varsL m.blocks) ∧ Below w.heap.size w w' := by
  obtain ⟨i0, hi, hz0, hz1, hz2⟩ := info_parts info48
  have I := Lib.hid (And.intro hi (And.intro hz0 (And.intro hz1 hz2)))
  have HM := Lib.hid h
  have HV := Lib.hid hv
  have HT := Lib.hid ht
  have hp := h.blocks.at_
  have hlb : lb = m.blocks.length := h.blocks.long
  have HLB := Lib.hid hlb
  clear h hv ht hi hz0 hz1 hz2 hlb
  go_enter Tryz.func25, Tryz.ntmps25
  go_upto_region 1 with fail
  obtain ⟨W0, hW0⟩ : ∃ W0, W0 = w.alloc (.cells #[.slice pb lb cb, gv] 25) := ⟨_, rfl⟩
  rw [← hW0]
  have hB0 : Below w.heap.size w W0 := by rw [hW0]; exact (Below.refl _ w).alloc (Nat.le_refl _) _
  have hb0 : W0.cell? ⟨w.heap.size, 0, none⟩ = some (.slice pb lb cb) := by rw [hW0]; go_simp
  have HB0 := Lib.hid hB0
  clear hW0 hB0
  go_wp2_with fail
  go_loopw [3, 9] (fun o i wr => ∃ k : Nat, k ≤ lb ∧ i = .int .i64 k ∧ OwnsOf rDecl 2 45 w wr o (varsL (m.blocks.take k)) ∧ Below w.heap.size w wr) (fun _ i _ => lb - (intOf i).toNat)
  case atStart => exact ⟨0, by omega, rfl, ownsOf_nil rDecl 2 45 w W0, HB0.out⟩
  case round =>
    obtain ⟨k, hk, rfl, hown, hB⟩ := hrel
    obtain ⟨A, eA⟩ : ∃ A, A = varsL (m.blocks.take k) := ⟨_, rfl⟩
    rw [← eA] at hown
    obtain ⟨po, co, rfl⟩ := hown.shape
    by_cases hlt : k < lb
    · obtain rfl := hp (by omega)
      obtain ⟨x, v1, v2, ex, ed, a0, a1, a2, sv, sc⟩ := block_at HM.out.blocks hlt
      have a0 := cell_stays hB a0
      have a1 := cell_stays hB a1
      have a2 := cell_stays hB a2
      obtain ⟨p1, b1, o1, c1, l1, rfl, hnl, hs⟩ := sv
      obtain ⟨p2, l2, c2, rfl⟩ := slc_shape sc
      have hnl := hnl.1
      have hxv := HV.out x (List.mem_of_getElem? ex)
      have hnx := vars_drop ed
      have hA : A.length ≤ 100000 := by
        rw [eA]
        have h2 := vars_to m.blocks k
        have h3 := HT.out
        omega
      rw [← hs.long] at hxv
      rw [← eA] at hnx
      generalize x.all = xa at a0
      obtain ⟨W1, hW1⟩ : ∃ W1, W1 = wr.alloc (.cells #[.bool xa, .slice p1 l1 c1, .slice p2 l2 c2] 42) := ⟨_, rfl⟩
      have hBa : Below wr.heap.size wr W1 := by rw [hW1]; exact (Below.refl _ wr).alloc (Nat.le_refl _) _
      have q1 : W1.cell? ⟨wr.heap.size, 1, none⟩ = some (.slice p1 l1 c1) := by rw [hW1]; go_simp
      have HO := Lib.hid (hown.below hBa)
      have HB := Lib.hid (hB.trans (hBa.mono hB.size))
      have NX := Lib.hid hnx
      have HSL := Lib.hid hs
      have HNL := Lib.hid hnl
      have HW1 := Lib.hid hW1
      have hsz : w.heap.size ≤ W1.heap.size := HB.out.size
      have hi := I.out.1
      have hz0 := I.out.2.1
      have hz1 := I.out.2.2.1
      have hz2 := I.out.2.2.2
      clear hown hB ex ed hs hnx eA hnl sc hW1 hBa
      go_upto_region 5 with fail
      rw [← HW1.out]
      clear a0 a1 a2
      go_wp2_with (at_builtin; refine append_of rDecl_one rfl _ _ 40 45 2 40 i0 _ Tryz.underlying40 hi hz0 hz1 hz2 rfl (by decide) (by decide) rfl _ p1 b1 o1 c1 l1 A x.vars rfl rfl HO.out HSL.out HNL.out HB.out (by omega) hsz ?_; intro v' w1 hown' hgrow)
      go_roundw
      case rel =>
        refine ⟨k + 1, by omega, by go_num, ?_, ?_⟩
        · rw [NX.out]
          exact hown'
        · exact HB.out.grown hgrow hsz (fun j e => (HO.out.lt j e).1)
      case measure => simp [intOf]; omega
    · have hf : A = varsL m.blocks := by
        rw [eA, List.take_of_length_le (by rw [← HLB.out]; omega)]
      have HF := Lib.hid hf
      have HB := Lib.hid hB
      have HO := Lib.hid hown
      clear hown hB hf eA
      go_wp2_with fail
      go_ret
      exact ⟨_, rfl, HF.out ▸ HO.out, HB.out⟩
theorem pdecls_any {w : World} {bv gv : Value} {m : PModel} (h : rModel w [bv, gv] m) (hf : Few m) :
    Calls Tryz.prog 25 #[.agg #[bv, gv]] w fun e w' => ∃ v, e = .returned v ∧ OwnsOf rDecl 2 45 w w' v (varsL m.blocks) ∧ Below w.heap.size w w' := by
  obtain ⟨pb, bb, ob, cb, lb, rfl, hm⟩ := mod_of h
  exact pdecls_cells pb bb ob cb lb gv m w hm (by rw [hm.blocks.long]; exact hf.blocks) hf.vars (by have := hf.few; omega)
end Go.Proofs.YtkgieaoahijheaaGreatDoor
