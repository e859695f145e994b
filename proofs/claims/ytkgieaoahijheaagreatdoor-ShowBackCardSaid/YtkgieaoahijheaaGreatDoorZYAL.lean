/-
  What the writer's small calls put out: signs, numbers, names of variables, rows of numbers.
  Rows of numbers, as the writer puts them out.
  Names of variables, as the writer puts them out.
  Numbers between brackets, and rels, as the writer puts them out.
  A sum, as the writer puts it out.
-/
import Derived.Test.YtkgieaoahijheaaGreatDoorZYAB
import Derived.Test.YtkgieaoahijheaaGreatDoorZYAK
import Derived.Deep.RegionHeld3
import Derived.Sort.Grow
import Derived.Test.YtkgieaoahijheaaGreatDoorZYAJ
import Derived.Deep.DeepCutAuto
import Derived.Deep.CutBlock
namespace Go.Proofs.YtkgieaoahijheaaGreatDoor.Wt
open Go.RowKit
open Sc (Tok)
set_option maxRecDepth 100000

theorem dec_digs (n : Nat) : Lib.decDigits n = digs n := by
  induction n using Nat.strongRecOn with
  | _ n ih =>
    rw [Lib.decDigits, digs]
    by_cases h : n < 10
    · rw [dif_pos h, if_pos h]; rfl
    · rw [dif_neg h, if_neg h, ih (n / 10) (by omega)]; rfl
/-- the bytes that tokens put -/
def putT (ts : List Tok) : List UInt8 := putX (ts.map (·.text))
theorem putT_app (a b : List Tok) : putT (a ++ b) = putT a ++ putT b := by simp [putT, put_app]
theorem putT_one (t : Tok) : putT [t] = sepO t.text := by simp [putT, putX]
def signN (z : Int) : List Tok := if z < 0 then [tM Pa.tMinus] else []
theorem num_sign (z : Int) : numT z = signN z ++ [tN z.natAbs] := by
  unfold numT signN
  split <;> rfl
/-- what puts out tokens, as a value -/
def putV (tb pb : Nat) : Value := .func (.func 28) #[] #[.pointer (some ⟨tb, 0, none⟩), .pointer (some ⟨pb, 0, none⟩)]
section
variable {B b tb pb : Nat} {W W' : World} {X : List UInt8} {pn : Option Addr} {ln cn : Nat}
theorem kp_drewN {u : World} (n : Nat) : Kp B b pb u (u.drewN n) := (Kp.refl u).drewN n
theorem kp_alloc {u : World} (h : B ≤ u.heap.size) (o : Obj) : Kp B b pb u (u.alloc o) := Kp.ext ((Below.refl _ u).alloc (Nat.le_refl _) o) h
theorem put_one (H : PutAt B b tb pb X W) (t : List UInt8) (hX : X.length + (sepO t).length ≤ 100000000000) :
    Calls Tryz.prog 28 #[.slice (some ⟨W.heap.size, 0, none⟩) 1 1, .pointer (some ⟨tb, 0, none⟩), .pointer (some ⟨pb, 0, none⟩)] (W.alloc (.cells #[.string ⟨t.toArray⟩] 9)) fun e w' => e = .returned (.tuple #[]) ∧ PutAt B b tb pb (X ++ sepO t) w' ∧ Kp B b pb (W.alloc (.cells #[.string ⟨t.toArray⟩] 9)) w' := by
  have h := put_any (H.alloc (.cells #[.string ⟨t.toArray⟩] 9)) [t] W.heap.size 1 rfl (heap_alloc_new W _) (by have := H.lt; omega) (by have := H.ltp; omega) (by simpa [putX] using hX) (by omega)
  refine h.mono ?_
  rintro e w' ⟨h1, h2, h3⟩
  exact ⟨h1, by simpa [putX] using h2, h3⟩
theorem put_two (H : PutAt B b tb pb X W) (s t : List UInt8) (hX : X.length + ((sepO s).length + (sepO t).length) ≤ 100000000000) :
    Calls Tryz.prog 28 #[.slice (some ⟨W.heap.size, 0, none⟩) 2 2, .pointer (some ⟨tb, 0, none⟩), .pointer (some ⟨pb, 0, none⟩)] (W.alloc (.cells #[.string ⟨s.toArray⟩, .string ⟨t.toArray⟩] 9)) fun e w' => e = .returned (.tuple #[]) ∧ PutAt B b tb pb (X ++ (sepO s ++ sepO t)) w' ∧ Kp B b pb (W.alloc (.cells #[.string ⟨s.toArray⟩, .string ⟨t.toArray⟩] 9)) w' := by
  have h := put_any (H.alloc (.cells #[.string ⟨s.toArray⟩, .string ⟨t.toArray⟩] 9)) [s, t] W.heap.size 2 rfl (heap_alloc_new W _) (by have := H.lt; omega) (by have := H.ltp; omega) (by simpa [putX] using hX) (by omega)
  refine h.mono ?_
  rintro e w' ⟨h1, h2, h3⟩
  exact ⟨h1, by simpa [putX] using h2, h3⟩
theorem itoa_any (H : PutAt B b tb pb X W) (n : Nat) (hn : n ≤ 9000000000000000000) :
    Calls Tryz.prog 67 #[.int .i64 (n : Int)] W fun e w' => e = .returned (.string ⟨(digs n).toArray⟩) ∧ PutAt B b tb pb X w' ∧ Kp B b pb W w' := by
  obtain ⟨g, _, _, h3⟩ := H.tab
  refine (Tryz.strconv_Itoa (n : Int) (by omega) (by omega) W h3).mono ?_
  rintro e w' ⟨rfl, k, os, rfl⟩
  have hb : Below W.heap.size W (Go.Sort.grow (W.drewN k) os) := ⟨rfl, rfl, rfl, by simp [Go.Sort.grow], fun i hi => by
    show (W.heap ++ os)[i]? = _
    rw [Array.getElem?_append_left hi]⟩
  refine ⟨?_, H.ext hb, Kp.ext hb H.size⟩
  have e : Lib.itoa (n : Int) = digs n := by
    unfold Lib.itoa
    rw [if_neg (by omega), dec_digs]
    rfl
  rw [e]
set_option maxHeartbeats 1000000 in
theorem minus_any (H : PutAt B b tb pb X W) (z : Int) (hz : z.natAbs ≤ 9000000000000000000) (hX : X.length + (putT (signN z)).length ≤ 100000000000) :
    Calls Tryz.prog 66 #[.agg #[.slice pn ln cn, putV tb pb], .int .i64 z] W fun e w' => e = .returned (.int .i64 (z.natAbs : Nat)) ∧ PutAt B b tb pb (X ++ putT (signN z)) w' ∧ Kp B b pb W w' := by
  have HK := Lib.hid (Kp.ext (b := b) (pb := pb) ((Below.refl _ W).alloc (Nat.le_refl _) (.cells #[.slice pn ln cn, putV tb pb] 55)) H.size)
  have HP := Lib.hid (H.alloc (.cells #[.slice pn ln cn, putV tb pb] 55))
  by_cases h : z < 0
  · have e : signN z = [tM Pa.tMinus] := by unfold signN; rw [if_pos h]
    have e2 : putT [tM Pa.tMinus] = sepO [45] := putT_one _
    rw [e, e2] at hX
    have HX := Lib.hid (put_one (H.alloc (.cells #[.slice pn ln cn, putV tb pb] 55)) [45] hX)
    rw [e, e2]
    have h1 : ¬ (0 : Int) ≤ z := by omega
    have hn : IntKind.i64.wrap (-z) = ((z.natAbs : Nat) : Int) := by
      have := IntWalk.i64_in ((z.natAbs : Nat) : Int) (by omega)
      rw [show ((z.natAbs : Nat) : Int) = -z by omega] at this ⊢
      exact this
    obtain ⟨m, hm⟩ : ∃ m, m = ((z.natAbs : Nat) : Int) := ⟨_, rfl⟩
    rw [← hm] at hn ⊢
    clear hm e e2 hz H hX
    unfold putV at *
    go_enter Tryz.func66, Tryz.ntmps66
    go_wp2_with fail
    simp only [World.size_alloc] at HX
    refine HX.out.mono ?_
    rintro e w' ⟨rfl, hP, hK⟩
    have HP2 := Lib.hid hP
    have HK2 := Lib.hid (HK.out.trans ((kp_alloc HP.out.size _).trans hK))
    clear hP hK
    go_wp2_with fail
    go_ret
    exact ⟨rfl, HP2.out, HK2.out⟩
  · have e : signN z = [] := by unfold signN; rw [if_neg h]
    have e2 : X ++ putT [] = X := by simp [putT, putX]
    rw [e, e2]
    obtain ⟨m, rfl⟩ : ∃ m : Nat, z = (m : Int) := ⟨z.natAbs, by omega⟩
    rw [Int.natAbs_natCast]
    have h1 : (0 : Int) ≤ (m : Int) := by omega
    clear e e2 hz H hX
    unfold putV at *
    go_enter Tryz.func66, Tryz.ntmps66
    go_wp2_with fail
    go_ret
    exact ⟨rfl, HP.out, HK.out⟩
end
end Go.Proofs.YtkgieaoahijheaaGreatDoor.Wt
namespace Go.Proofs.YtkgieaoahijheaaGreatDoor.Wt
open Go.RowKit
open Sc (Tok)
set_option maxRecDepth 100000

/-- the block of a writer's own variable, and all that is kept -/
structure Bx (B b tb pb : Nat) (k : Nat) (pn : Option Addr) (ln cn : Nat) (W w : World) : Prop where
  row : w.heap[k]? = some (.cells #[.slice pn ln cn, putV tb pb] 55)
  kept : Kp B b pb W w
  kb : k ≠ b
  kp : k ≠ pb
section
variable {B b tb pb k : Nat} {W w u u' : World} {X : List UInt8} {pn : Option Addr} {ln cn : Nat}
theorem Bx.cells (h : Bx B b tb pb k pn ln cn W w) : w.cell? ⟨k, 0, none⟩ = some (.slice pn ln cn) ∧ w.cell? ⟨k, 1, none⟩ = some (putV tb pb) ∧ Bx B b tb pb k pn ln cn W w :=
  ⟨cell_of_row w k 0 _ 55 (0, 0) h.row, cell_of_row w k 1 _ 55 (0, 0) h.row, h⟩
theorem Bx.move (h : Bx B b tb pb k pn ln cn W u) (hK : Kp B b pb u u') : Bx B b tb pb k pn ln cn W u' := ⟨hK.row h.row h.kb h.kp (by decide), h.kept.trans hK, h.kb, h.kp⟩
theorem bx_start (H : PutAt B b tb pb X W) : Bx B b tb pb W.heap.size pn ln cn W (W.alloc (.cells #[.slice pn ln cn, putV tb pb] 55)) :=
  ⟨heap_alloc_new W _, Kp.ext ((Below.refl _ W).alloc (Nat.le_refl _) _) H.size, by have := H.lt; omega, by have := H.ltp; omega⟩
/-- what stands in a region is kept by a call -/
theorem bxm (h : u.cell? ⟨k, 0, none⟩ = some (.slice pn ln cn) ∧ u.cell? ⟨k, 1, none⟩ = some (putV tb pb) ∧ Bx B b tb pb k pn ln cn W u) (hK : Kp B b pb u u') :
    u'.cell? ⟨k, 0, none⟩ = some (.slice pn ln cn) ∧ u'.cell? ⟨k, 1, none⟩ = some (putV tb pb) ∧ Bx B b tb pb k pn ln cn W u' := (h.2.2.move hK).cells
theorem sepO_digs (n : Nat) : sepO (digs n) = digs n ++ [32] := by
  unfold sepO
  rw [if_neg (digs_mark (by decide))]
theorem num_long (z : Int) (h : z.natAbs ≤ 9000000000000000000) : (putT (numT z)).length ≤ 30 := by
  rw [num_sign, putT_app, putT_one, List.length_append]
  show _ + (sepO (digs z.natAbs)).length ≤ 30
  rw [sepO_digs, List.length_append]
  have := digs_long z.natAbs 18 (by omega)
  have : (putT (signN z)).length ≤ 2 := by
    unfold signN
    split
    · simp [putT_one, sepO, tM, Pa.tMinus]
    · simp [putT, putX]
  simp
  omega
theorem take_put {l : List Int} {k : Nat} {z : Int} (h : l[k]? = some z) : putT ((l.take (k + 1)).flatMap numT) = putT ((l.take k).flatMap numT) ++ putT (numT z) := by
  rw [List.take_add_one, h, List.flatMap_append, putT_app]
  simp
theorem take_long {f : Int → List Tok} (l : List Int) (k : Nat) : (putT ((l.take k).flatMap f)).length ≤ (putT (l.flatMap f)).length := by
  have : putT (l.flatMap f) = putT ((l.take k).flatMap f) ++ putT ((l.drop k).flatMap f) := by rw [← putT_app, ← List.flatMap_append, List.take_append_drop]
  rw [this, List.length_append]
  omega
set_option maxHeartbeats 4000000 in
theorem nums_any (H : PutAt B b tb pb X W) (l : List Int) (p : Option Addr) (bl off n c : Nat) (hl : n ≤ 1000000) (HN : ∀ u, Kp B b pb W u → Nums u p bl off n l) (hz : ∀ z ∈ l, z.natAbs ≤ 9000000000000000000)
    (hX : X.length + (putT (l.flatMap numT)).length ≤ 100000000000) :
    Calls Tryz.prog 69 #[.agg #[.slice pn ln cn, putV tb pb], .slice p n c] W fun e w' => e = .returned (.tuple #[]) ∧ PutAt B b tb pb (X ++ putT (l.flatMap numT)) w' ∧ Kp B b pb W w' := by
  have BX := Lib.hid (bx_start (pn := pn) (ln := ln) (cn := cn) H)
  have HP := Lib.hid (H.alloc (.cells #[.slice pn ln cn, putV tb pb] 55))
  have NM := Lib.hid HN
  have hlen := (HN W (Kp.refl W)).long
  have HL := Lib.hid hlen
  have hat := (HN W (Kp.refl W)).at_
  have HZ := Lib.hid hz
  have HX := Lib.hid hX
  clear H HN hlen hz hX
  unfold putV at *
  go_enter Tryz.func69, Tryz.ntmps69
  go_wp2_with fail
  go_loopw [8] (fun i wr => ∃ k : Nat, k ≤ n ∧ i = .int .i64 k ∧ PutAt B b tb pb (X ++ putT ((l.take k).flatMap numT)) wr ∧ Bx B b tb pb W.heap.size pn ln cn W wr) (fun i _ => n - (intOf i).toNat)
  case atStart =>
    refine ⟨0, by omega, rfl, ?_, BX.out⟩
    simpa [putT, putX] using HP.out
  case round =>
    obtain ⟨k, hk, rfl, hP, hB⟩ := hrel
    by_cases hlt : k < n
    · obtain rfl := hat (by omega)
      have hkl : k < l.length := by have := HL.out; omega
      obtain ⟨z, hz⟩ : ∃ z, z = l.getD k 0 := ⟨_, rfl⟩
      have hze : l[k]? = some z := by rw [hz, List.getD_eq_getElem?_getD, List.getElem?_eq_getElem hkl]; rfl
      have hc := (NM.out wr hB.kept).cell k hlt
      rw [← hz] at hc
      have hzm := HZ.out z (List.mem_of_getElem? hze)
      obtain ⟨Y, eY⟩ : ∃ Y, Y = X ++ putT ((l.take k).flatMap numT) := ⟨_, rfl⟩
      rw [← eY] at hP
      have hlen : Y.length + (putT (numT z)).length ≤ 100000000000 := by
        have q := take_long (f := numT) l (k + 1)
        rw [take_put hze, List.length_append] at q
        have := HX.out
        rw [eY, List.length_append]
        omega
      rw [num_sign, putT_app, putT_one, List.length_append] at hlen
      have hlen2 : Y.length + (putT (signN z)).length + (sepO (digs z.natAbs)).length ≤ 100000000000 := by
        have : (tN z.natAbs).text = digs z.natAbs := rfl
        rw [this] at hlen
        omega
      have hY2 : Y.length + (putT (signN z)).length ≤ 100000000000 := by omega
      have HM := Lib.hid (fun (v : World) (h : PutAt B b tb pb Y v) => minus_any (pn := pn) (ln := ln) (cn := cn) h z hzm hY2)
      unfold putV at HM
      have HI := Lib.hid (fun (v : World) (h : PutAt B b tb pb (Y ++ putT (signN z)) v) => itoa_any h z.natAbs hzm)
      have HO := Lib.hid (fun (v : World) (h : PutAt B b tb pb (Y ++ putT (signN z)) v) => put_one h (digs z.natAbs) (by rw [List.length_append]; omega))
      have HPY := Lib.hid hP
      have H0 := Lib.hid hB.cells
      obtain ⟨x0, x1, _⟩ := hB.cells
      have HE := Lib.hid hze
      have EY := Lib.hid eY
      obtain ⟨m, hm⟩ : ∃ m : Nat, m = z.natAbs := ⟨_, rfl⟩
      rw [← hm] at HM HI HO
      have HMM := Lib.hid hm
      unfold putV at H0 x1
      clear hP hB hkl hz hze hzm eY hlen hlen2 hY2 hm
      go_wp2_with fail
      clear x0 x1
      go_region_held3 (fun w' => w'.cell? ⟨W.heap.size, 0, none⟩ = some (.slice pn ln cn) ∧ w'.cell? ⟨W.heap.size, 1, none⟩ = some (.func (.func 28) #[] #[.pointer (some ⟨tb, 0, none⟩), .pointer (some ⟨pb, 0, none⟩)]) ∧ Bx B b tb pb W.heap.size pn ln cn W w')
        (first | exact bxm (by assumption) (by assumption) | exact bxm H0.out (kp_drewN 1) | exact bxm (by assumption) (kp_alloc HP3.out.size _))
        (first
          | (go_at_call 66; refine (HM.out _ (HPY.out.drewN 1)).mono ?_; rintro e u1 ⟨rfl, hP1, hK1⟩; have HP1 := Lib.hid hP1; clear hP1)
          | (go_at_call 67; refine (HI.out _ HP1.out).mono ?_; rintro e u2 ⟨rfl, hP2, hK2⟩; have HP3 := Lib.hid hP2; clear hP2)
          | (go_at_call 28; refine (HO.out _ HP3.out).mono ?_; rintro e u3 ⟨rfl, hP4, hK3⟩; have HP4 := Lib.hid hP4; clear hP4))
      have HB2 := Lib.hid (And.right (And.right (by assumption : u3.cell? ⟨W.heap.size, 0, none⟩ = some (.slice pn ln cn) ∧ u3.cell? ⟨W.heap.size, 1, none⟩ = some (.func (.func 28) #[] #[.pointer (some ⟨tb, 0, none⟩), .pointer (some ⟨pb, 0, none⟩)]) ∧ Bx B b tb pb W.heap.size pn ln cn W u3)))
      go_wp2_with fail
      go_roundw
      case rel =>
        refine ⟨k + 1, by omega, rfl, ?_, HB2.out⟩
        have e : X ++ putT ((l.take (k + 1)).flatMap numT) = (Y ++ putT (signN z)) ++ sepO (digs m) := by
          rw [take_put HE.out, ← List.append_assoc, ← EY.out, num_sign, putT_app, putT_one, HMM.out, List.append_assoc]
          rfl
        rw [e]
        exact HP4.out
      case measure =>
        simp [intOf]
        omega
    · obtain rfl : k = n := by omega
      have e : l.take k = l := by rw [HL.out]; simp
      rw [e] at hP
      have hK := hB.kept
      clear HL HZ hlt hk e hB
      go_wp2_with fail
      go_end0
      exact ⟨rfl, hP, hK⟩
end
end Go.Proofs.YtkgieaoahijheaaGreatDoor.Wt
namespace Go.Proofs.YtkgieaoahijheaaGreatDoor.Wt
open Go.RowKit
open Sc (Tok)
set_option maxRecDepth 100000

/-- the names of variables in memory -/
structure Nms (u : World) (pn : Option Addr) (bn on_ ln : Nat) (L : List PDecl) : Prop where
  long : ln = L.length
  at_ : 0 < ln → pn = some ⟨bn, on_, none⟩
  cell : ∀ (k : Nat) (d : PDecl), L[k]? = some d → u.cell? ⟨bn, on_ + k * 2, none⟩ = some (.string ⟨d.name.toArray⟩)
section
variable {B b tb pb k : Nat} {W w u u' : World} {X : List UInt8} {pn : Option Addr} {bn on_ ln cn : Nat} {L : List PDecl} {nm : Int → Tok}
/-- names that the writer knows -/
structure NmK (B b pb : Nat) (W : World) (pn : Option Addr) (bn on_ ln : Nat) (L : List PDecl) (nm : Int → Tok) : Prop where
  at_ : ∀ u, Kp B b pb W u → Nms u pn bn on_ ln L
  few : ln ≤ 1000000
theorem NmK.move (h : NmK B b pb W pn bn on_ ln L nm) (hK : Kp B b pb W u) : NmK B b pb u pn bn on_ ln L nm := ⟨fun v hv => h.at_ v (hK.trans hv), h.few⟩
/-- variables that have names -/
def VarK (L : List PDecl) (nm : Int → Tok) (vs : List Int) : Prop := ∀ v ∈ vs, (0 ≤ v ∧ v.toNat < L.length) ∧ (nm v).text = (L.getD v.toNat ⟨[], []⟩).name
theorem bxm3 {a : Addr} {x : Value} (h : u.cell? ⟨k, 0, none⟩ = some (.slice pn ln cn) ∧ u.cell? ⟨k, 1, none⟩ = some (putV tb pb) ∧ u.cell? a = some x ∧ Bx B b tb pb k pn ln cn W u) (hx : ∀ v, Kp B b pb W v → v.cell? a = some x) (hK : Kp B b pb u u') :
    u'.cell? ⟨k, 0, none⟩ = some (.slice pn ln cn) ∧ u'.cell? ⟨k, 1, none⟩ = some (putV tb pb) ∧ u'.cell? a = some x ∧ Bx B b tb pb k pn ln cn W u' := by
  obtain ⟨h0, h1, h2⟩ := (h.2.2.2.move hK).cells
  exact ⟨h0, h1, hx u' h2.kept, h2⟩
theorem take_map {l : List Int} {k : Nat} {v : Int} (h : l[k]? = some v) : putT ((l.take (k + 1)).map nm) = putT ((l.take k).map nm) ++ sepO (nm v).text := by
  rw [List.take_add_one, h, List.map_append, putT_app]
  simp [putT_one]
theorem take_mlong (l : List Int) (k : Nat) : (putT ((l.take k).map nm)).length ≤ (putT (l.map nm)).length := by
  have : putT (l.map nm) = putT ((l.take k).map nm) ++ putT ((l.drop k).map nm) := by rw [← putT_app, ← List.map_append, List.take_append_drop]
  rw [this, List.length_append]
  omega
set_option maxHeartbeats 4000000 in
theorem names_any (H : PutAt B b tb pb X W) (K : NmK B b pb W pn bn on_ ln L nm) (l : List Int) (p : Option Addr) (bl off n c : Nat) (hl : n ≤ 1000000) (HN : ∀ u, Kp B b pb W u → Nums u p bl off n l) (hv : VarK L nm l)
    (hX : X.length + (putT (l.map nm)).length ≤ 100000000000) :
    Calls Tryz.prog 43 #[.agg #[.slice pn ln cn, putV tb pb], .slice p n c] W fun e w' => e = .returned (.tuple #[]) ∧ PutAt B b tb pb (X ++ putT (l.map nm)) w' ∧ Kp B b pb W w' := by
  have BX := Lib.hid (bx_start (pn := pn) (ln := ln) (cn := cn) H)
  have HP := Lib.hid (H.alloc (.cells #[.slice pn ln cn, putV tb pb] 55))
  have NM := Lib.hid HN
  have hlen := (HN W (Kp.refl W)).long
  have HL := Lib.hid hlen
  have hat := (HN W (Kp.refl W)).at_
  have hnt := (K.at_ W (Kp.refl W)).at_
  have HLN := Lib.hid (K.at_ W (Kp.refl W)).long
  have hln := K.few
  have KK := Lib.hid K
  have HV := Lib.hid hv
  have HX := Lib.hid hX
  clear H HN hlen hv hX K
  unfold putV at *
  go_enter Tryz.func43, Tryz.ntmps43
  go_wp2_with fail
  go_loopw [8] (fun i wr => ∃ k : Nat, k ≤ n ∧ i = .int .i64 k ∧ PutAt B b tb pb (X ++ putT ((l.take k).map nm)) wr ∧ Bx B b tb pb W.heap.size pn ln cn W wr) (fun i _ => n - (intOf i).toNat)
  case atStart =>
    refine ⟨0, by omega, rfl, ?_, BX.out⟩
    simpa [putT, putX] using HP.out
  case round =>
    obtain ⟨k, hk, rfl, hP, hB⟩ := hrel
    by_cases hlt : k < n
    · obtain rfl := hat (by omega)
      have hkl : k < l.length := by have := HL.out; omega
      obtain ⟨z, hz⟩ : ∃ z, z = l.getD k 0 := ⟨_, rfl⟩
      have hze : l[k]? = some z := by rw [hz, List.getD_eq_getElem?_getD, List.getElem?_eq_getElem hkl]; rfl
      have hc := (NM.out wr hB.kept).cell k hlt
      rw [← hz] at hc
      obtain ⟨⟨z0, z1⟩, z2⟩ := HV.out z (List.mem_of_getElem? hze)
      obtain ⟨vi, rfl⟩ : ∃ vi : Nat, z = (vi : Int) := ⟨z.toNat, by omega⟩
      rw [Int.toNat_natCast] at z1 z2
      have hvl : vi < ln := by have := HLN.out; omega
      obtain rfl := hnt (by omega)
      obtain ⟨d, hd⟩ : ∃ d, L[vi]? = some d := ⟨_, List.getElem?_eq_getElem z1⟩
      have hdn : (nm (vi : Int)).text = d.name := by rw [z2, List.getD_eq_getElem?_getD, hd]; rfl
      have HC := Lib.hid (fun v (hv : Kp B b pb W v) => (KK.out.at_ v hv).cell vi d hd)
      obtain ⟨Y, eY⟩ : ∃ Y, Y = X ++ putT ((l.take k).map nm) := ⟨_, rfl⟩
      rw [← eY] at hP
      have hlen : Y.length + (sepO (nm (vi : Int)).text).length ≤ 100000000000 := by
        have q := take_mlong (nm := nm) l (k + 1)
        rw [take_map hze, List.length_append] at q
        have := HX.out
        rw [eY, List.length_append]
        omega
      have HO := Lib.hid (fun (v : World) (h : PutAt B b tb pb Y v) => put_one h (nm (vi : Int)).text hlen)
      rw [hdn] at HO
      have HPY := Lib.hid hP
      have H0 := Lib.hid hB.cells
      have HN0 := Lib.hid (HC.out wr hB.kept)
      have HE := Lib.hid hze
      have EY := Lib.hid eY
      have HDN := Lib.hid hdn
      have i0 : (0 : Int) ≤ (vi : Int) := by omega
      have i1 : (vi : Int) < (ln : Int) := by omega
      unfold putV at H0
      clear hP hB hkl hz hze z0 z1 z2 eY hlen hd hdn
      go_wp2_with fail
      go_region_held3 (fun w' => w'.cell? ⟨W.heap.size, 0, none⟩ = some (.slice (some ⟨bn, on_, none⟩) ln cn) ∧ w'.cell? ⟨W.heap.size, 1, none⟩ = some (.func (.func 28) #[] #[.pointer (some ⟨tb, 0, none⟩), .pointer (some ⟨pb, 0, none⟩)]) ∧ w'.cell? ⟨bn, on_ + vi * 2, none⟩ = some (.string ⟨d.name.toArray⟩) ∧ Bx B b tb pb W.heap.size (some ⟨bn, on_, none⟩) ln cn W w')
        (first | exact bxm3 (by assumption) HC.out (by assumption) | exact bxm3 ⟨H0.out.1, H0.out.2.1, HN0.out, H0.out.2.2⟩ HC.out (kp_drewN 1) | exact bxm3 (by assumption) HC.out (kp_alloc (HPY.out.drewN 1).size _))
        (first
          | (go_at_call 28; refine (HO.out _ (HPY.out.drewN 1)).mono ?_; rintro e u3 ⟨rfl, hP4, hK3⟩; have HP4 := Lib.hid hP4; clear hP4))
      have HB2 := Lib.hid (And.right (And.right (And.right (by assumption : u3.cell? ⟨W.heap.size, 0, none⟩ = some (.slice (some ⟨bn, on_, none⟩) ln cn) ∧ u3.cell? ⟨W.heap.size, 1, none⟩ = some (.func (.func 28) #[] #[.pointer (some ⟨tb, 0, none⟩), .pointer (some ⟨pb, 0, none⟩)]) ∧ u3.cell? ⟨bn, on_ + vi * 2, none⟩ = some (.string ⟨d.name.toArray⟩) ∧ Bx B b tb pb W.heap.size (some ⟨bn, on_, none⟩) ln cn W u3))))
      go_wp2_with fail
      go_roundw
      case rel =>
        refine ⟨k + 1, by omega, rfl, ?_, HB2.out⟩
        rw [take_map HE.out, ← List.append_assoc, ← EY.out, HDN.out]
        exact HP4.out
      case measure =>
        simp [intOf]
        omega
    · obtain rfl : k = n := by omega
      have e : l.take k = l := by rw [HL.out]; simp
      rw [e] at hP
      have hK := hB.kept
      clear HL HV hlt hk e hB
      go_wp2_with fail
      go_end0
      exact ⟨rfl, hP, hK⟩
end
end Go.Proofs.YtkgieaoahijheaaGreatDoor.Wt
namespace Go.Proofs.YtkgieaoahijheaaGreatDoor.Wt
open Go.RowKit
open Sc (Tok)
set_option maxRecDepth 100000

section
variable {B b tb pb k : Nat} {W w u u' : World} {X : List UInt8} {pn : Option Addr} {bn on_ ln cn : Nat} {L : List PDecl} {nm : Int → Tok}
set_option maxHeartbeats 2000000 in
theorem rel_any (r : Nat) (hr : r ≤ 5) (W : World) : Calls Tryz.prog 68 #[.int .i64 (r : Int)] W fun e w' => e = .returned (.string ⟨(Pa.relsL.getD r []).toArray⟩) ∧ Below W.heap.size W w' := by
  have hB := Lib.hid (fun o => (Below.refl _ W).alloc (Nat.le_refl _) o)
  rcases (by omega : r = 0 ∨ r = 1 ∨ r = 2 ∨ r = 3 ∨ r = 4 ∨ r = 5) with rfl | rfl | rfl | rfl | rfl | rfl <;>
  · go_enter Tryz.func68, Tryz.ntmps68
    go_wp2_with fail
    go_ret
    exact ⟨rfl, hB.out _⟩
theorem puts (t : Tok) : putT [t] = sepO t.text := putT_one t
set_option maxHeartbeats 2000000 in
theorem row_any (H : PutAt B b tb pb X W) (l : List Int) (p : Option Addr) (bl off n c : Nat) (hl : n ≤ 1000000) (HN : ∀ u, Kp B b pb W u → Nums u p bl off n l) (hz : ∀ z ∈ l, z.natAbs ≤ 9000000000000000000)
    (hX : X.length + (putT (numsT l)).length ≤ 100000000000) :
    Calls Tryz.prog 44 #[.agg #[.slice pn ln cn, putV tb pb], .slice p n c] W fun e w' => e = .returned (.tuple #[]) ∧ PutAt B b tb pb (X ++ putT (numsT l)) w' ∧ Kp B b pb W w' := by
  have e0 : putT (numsT l) = sepO [91] ++ (putT (l.flatMap numT) ++ sepO [93]) := by
    unfold numsT
    rw [show (tM Pa.tOpen :: (l.flatMap numT ++ [tM Pa.tShut])) = [tM Pa.tOpen] ++ (l.flatMap numT ++ [tM Pa.tShut]) from rfl, putT_app, putT_app, putT_one, putT_one]
    rfl
  rw [e0] at hX ⊢
  simp only [List.length_append] at hX
  have h0 := bx_start (pn := pn) (ln := ln) (cn := cn) H
  have BX := Lib.hid h0
  have x0 := h0.cells.1
  have x1 := h0.cells.2.1
  have HP := Lib.hid (H.alloc (.cells #[.slice pn ln cn, putV tb pb] 55))
  have C1 := Lib.hid (put_one HP.out [91] (by omega))
  have C2 := Lib.hid (fun v (h : PutAt B b tb pb (X ++ sepO [91]) v) (hK : Kp B b pb W v) => nums_any (pn := pn) (ln := ln) (cn := cn) h l p bl off n c hl (fun u hu => HN u (hK.trans hu)) hz (by simp only [List.length_append]; omega))
  have C3 := Lib.hid (fun v (h : PutAt B b tb pb ((X ++ sepO [91]) ++ putT (l.flatMap numT)) v) => put_one h [93] (by simp only [List.length_append]; omega))
  clear H HN hz hX h0 e0
  unfold putV at *
  go_enter Tryz.func44, Tryz.ntmps44
  go_wp2_with fail
  simp only [World.size_alloc] at C1
  refine C1.out.mono ?_
  rintro e u1 ⟨rfl, hP1, hK1⟩
  have hb := BX.out.move ((kp_alloc HP.out.size _).trans hK1)
  obtain ⟨y0, y1, _⟩ := hb.cells
  have BX1 := Lib.hid hb
  have HP1 := Lib.hid hP1
  unfold putV at y1
  clear hP1 hK1 hb
  go_wp2_with fail
  refine (C2.out _ HP1.out BX1.out.kept).mono ?_
  rintro e u2 ⟨rfl, hP2, hK2⟩
  have hb := BX1.out.move hK2
  obtain ⟨z0, z1, _⟩ := hb.cells
  have BX2 := Lib.hid hb
  have HP2 := Lib.hid hP2
  unfold putV at z1
  clear hP2 hK2 hb
  go_wp2_with fail
  refine (C3.out _ HP2.out).mono ?_
  rintro e u3 ⟨rfl, hP3, hK3⟩
  have hb := (BX2.out.move ((kp_alloc HP2.out.size _).trans hK3)).kept
  have HK := Lib.hid hb
  have HP3 := Lib.hid hP3
  clear hP3 hK3 hb
  go_wp2_with fail
  go_end0
  refine ⟨rfl, ?_, HK.out⟩
  have := HP3.out
  rw [List.append_assoc, List.append_assoc] at this
  exact this
end
end Go.Proofs.YtkgieaoahijheaaGreatDoor.Wt
namespace Go.Proofs.YtkgieaoahijheaaGreatDoor.Wt
open Go.RowKit
open Sc (Tok)
set_option maxRecDepth 100000

section
variable {B b tb pb k kc : Nat} {W w u u' : World} {X : List UInt8} {pn : Option Addr} {bn on_ ln cn : Nat} {L : List PDecl} {nm : Int → Tok}
/-- the writer's own variable, and one more of a type that is not the bytes' -/
structure Bc (B b tb pb k kc : Nat) (pn : Option Addr) (ln cn : Nat) (cs : Array Value) (t : TypeId) (W w : World) : Prop where
  bx : Bx B b tb pb k pn ln cn W w
  row : w.heap[kc]? = some (.cells cs t)
  ty : t ≠ TU
  kb : kc ≠ b
  kp : kc ≠ pb
theorem Bc.move {cs : Array Value} {t : TypeId} (h : Bc B b tb pb k kc pn ln cn cs t W u) (hK : Kp B b pb u u') : Bc B b tb pb k kc pn ln cn cs t W u' := ⟨h.bx.move hK, hK.row h.row h.kb h.kp h.ty, h.ty, h.kb, h.kp⟩
theorem Bc.cell {cs : Array Value} {t : TypeId} (h : Bc B b tb pb k kc pn ln cn cs t W u) (j : Nat) : u.cell? ⟨kc, j, none⟩ = cs[j]? := cell_of_row u kc j cs t (0, 0) h.row
theorem bc_start (H : PutAt B b tb pb X W) (cs : Array Value) (t : TypeId) (ht : t ≠ TU) : Bc B b tb pb W.heap.size (W.heap.size + 1) pn ln cn cs t W ((W.alloc (.cells #[.slice pn ln cn, putV tb pb] 55)).alloc (.cells cs t)) := by
  have h := bx_start (pn := pn) (ln := ln) (cn := cn) H
  have s1 : (W.alloc (.cells #[.slice pn ln cn, putV tb pb] 55)).heap.size = W.heap.size + 1 := by simp
  have h1 := heap_alloc_new (W.alloc (.cells #[.slice pn ln cn, putV tb pb] 55)) (.cells cs t)
  rw [s1] at h1
  exact ⟨h.move (kp_alloc (H.alloc _).size _), h1, ht, by have := H.lt; omega, by have := H.ltp; omega⟩
/-- what stands in a region: the writer's variable, one cell more -/
theorem bcm {cs : Array Value} {t : TypeId} {a : Addr} {x : Value} (h : u.cell? ⟨k, 0, none⟩ = some (.slice pn ln cn) ∧ u.cell? ⟨k, 1, none⟩ = some (putV tb pb) ∧ u.cell? a = some x ∧ Bc B b tb pb k kc pn ln cn cs t W u) (hx : ∀ v, Bc B b tb pb k kc pn ln cn cs t W v → v.cell? a = some x) (hK : Kp B b pb u u') :
    u'.cell? ⟨k, 0, none⟩ = some (.slice pn ln cn) ∧ u'.cell? ⟨k, 1, none⟩ = some (putV tb pb) ∧ u'.cell? a = some x ∧ Bc B b tb pb k kc pn ln cn cs t W u' := by
  have h2 := h.2.2.2.move hK
  obtain ⟨h0, h1, _⟩ := h2.bx.cells
  exact ⟨h0, h1, hx u' h2, h2⟩
theorem one_num (H : PutAt B b tb pb X w) (z : Int) (hf : Fit z) : ∀ u, Kp B b pb (w.alloc (.cells #[.int .i64 z] 3)) u → Nums u (some ⟨w.heap.size, 0, none⟩) w.heap.size 0 1 [z] := fun u hK => by
  have h1 := hK.row (heap_alloc_new w (.cells #[.int .i64 z] 3)) (by have := H.lt; omega) (by have := H.ltp; omega) (by decide)
  refine ⟨rfl, fun _ => rfl, fun k hk => ?_, fun k hk => ?_⟩
  · obtain rfl : k = 0 := by omega
    exact cell_of_row u w.heap.size 0 _ 3 (0, 0) h1
  · obtain rfl : k = 0 := by omega
    exact hf
/-- what stands ahead of a term -/
def plusT (k : Nat) (c : Int) : List Tok := if 0 < k ∧ 0 < c then [tM Pa.tPlus] else []
theorem sign_plus (k : Nat) (c : Int) (hc : c ≠ 0) : signT (if k = 0 then true else false) c = plusT k c ++ signN c := by
  unfold signT plusT signN
  by_cases h : c < 0
  · rw [if_pos h, if_pos h, if_neg (by omega)]
    rfl
  · rw [if_neg h, if_neg h]
    by_cases h0 : k = 0
    · rw [if_pos h0, if_pos rfl, if_neg (by omega)]
      rfl
    · rw [if_neg h0, if_neg (by decide), if_pos ⟨by omega, by omega⟩]
      rfl
theorem take_nil (l : List (Int × Int)) (k : Nat) (hk : k < l.length) : (l.take k = []) = (k = 0) := by
  rw [List.take_eq_nil_iff, eq_iff_iff]
  constructor
  · rintro (h | h)
    · exact h
    · rw [h] at hk; simp at hk
  · exact .inl
theorem term_put {vs ks : List Int} {k : Nat} {v c : Int} (hv : vs[k]? = some v) (hc : ks[k]? = some c) (h0 : c ≠ 0) :
    putT (sumT nm true ((vs.zip ks).take (k + 1))) = putT (sumT nm true ((vs.zip ks).take k)) ++ (putT (plusT k c) ++ (putT (signN c) ++ (putT (coefT c) ++ sepO (nm v).text))) := by
  have hz := zip_at hv hc
  have hk := (List.getElem?_eq_some_iff.1 hz).1
  rw [List.take_add_one, hz]
  simp only [Option.toList_some]
  rw [sum_snoc]
  simp only [take_nil _ _ hk]
  rw [sign_plus k c h0]
  simp only [putT_app, putT_one, List.append_assoc]
theorem sum_drop : ∀ (l : List (Int × Int)) (first : Bool) (k : Nat), ∃ s, sumT nm first l = sumT nm first (l.take k) ++ s
  | l, first, 0 => ⟨sumT nm first l, by simp [sumT]⟩
  | [], first, k + 1 => ⟨[], by simp [sumT]⟩
  | (x, y) :: l, first, k + 1 => by
    obtain ⟨s, hs⟩ := sum_drop l false k
    refine ⟨s, ?_⟩
    show signT first y ++ (coefT y ++ ([nm x] ++ sumT nm false l)) = (signT first y ++ (coefT y ++ ([nm x] ++ sumT nm false (l.take k)))) ++ s
    rw [hs]
    simp
theorem sump_long (l : List (Int × Int)) (k : Nat) : (putT (sumT nm true (l.take k))).length ≤ (putT (sumT nm true l)).length := by
  obtain ⟨s, hs⟩ := sum_drop (nm := nm) l true k
  rw [hs, putT_app, List.length_append]
  omega
/-- a sum of a constraint, and what is known of it -/
structure SumK (L : List PDecl) (nm : Int → Tok) (vs ks : List Int) : Prop where
  same : vs.length = ks.length
  vars : VarK L nm vs
  coefs : ∀ k ∈ ks, k ≠ 0 ∧ k.natAbs ≤ 1000000000000000000
  few : ks.length ≤ 1000000
end
end Go.Proofs.YtkgieaoahijheaaGreatDoor.Wt
