/-
  A constraint that the program's parser takes (iff).
  A constraint that the program's parser takes (element).
  A constraint that the program's parser takes (different).
  A constraint that the program's parser takes (table).
  A constraint that the program's parser takes (sum).
  A constraint that the program's parser takes: all ways.
-/
import Derived.Test.YtkgieaoahijheaaGreatDoorZYAZ
namespace Go.Proofs.YtkgieaoahijheaaGreatDoor.Pp
open Go.RowKit
open Sc (Tok Cells str noTok)
open Pa
set_option maxRecDepth 100000

section
variable {w w' : World} {g n bl ol cl nb : Nat} {pv : Option Addr} {m cv : Nat} {T : List Tok} {len : Nat} {r : Rd}
set_option maxHeartbeats 8000000 in
theorem con_iff (K : Nat) (h : PAt w g n bl ol cl nb pv m cv T len r) (hv : ∀ t ∈ T, t.value ≤ 2000000000000) (hm : m ≤ 1000000) (hK : n < K) (hn : n ≤ 9000) (ht : textO (next T r) = tIff) :
    Calls Tryz.prog 82 #[.pointer (some ⟨g, 0, none⟩)] w (Ends w (fun i => i = g) g n bl ol cl nb pv m cv T len (conQ K T r) (ConE w (conQ K T r).1)) := by
  obtain ⟨X, hX⟩ : ∃ X, X = conQ K T r := ⟨_, rfl⟩
  rw [← hX]
  rw [conQ2 ht] at hX
  have HX := Lib.hid hX
  have N0 := Lib.hid (show textO (next T r) ≠ tProduct by rw [ht]; decide)
  have HT := Lib.hid ht
  have HC := Lib.hid (cat_new h)
  clear h hX ht
  go_enter Tryz.func82, Tryz.ntmps82
  go_wp2_with fail
  refine (took_no ⟨#[112, 114, 111, 100, 117, 99, 116]⟩ (by decide) N0.out HC.out.k.rd).mono ?_
  rintro e wn0 ⟨rfl, hP, hB⟩
  have HC0 := Lib.hid (show CAt w wn0 g n bl ol cl nb pv m cv T len (conOf 0) r (.slice none 0 0) (.slice none 0 0) (.slice none 0 0) from HC.out.moved hP hB)
  clear hP hB
  go_wp2_with fail
  refine (took_yes ⟨#[105, 102, 102]⟩ (by decide) HT.out HC0.out.k.rd).mono ?_
  rintro e wy ⟨rfl, hP, hB⟩
  have HY := Lib.hid (show CAt w wy g n bl ol cl nb pv m cv T len (conOf 0) (step1 r) (.slice none 0 0) (.slice none 0 0) (.slice none 0 0) from HC0.out.moved hP hB)
  clear hP hB
  have VX := Lib.hid (vars_any 1 (by decide) HY.out.k.rd hm)
  rw [show ((1 : Nat) : Int) = 1 from rfl] at VX
  have HS0 := Lib.hid (show w.heap.size + 2 ≤ wy.heap.size from HY.out.k.low)
  obtain ⟨y, hy⟩ : ∃ y, y = varsQ 1 [] T (step1 r) := ⟨_, rfl⟩
  have HXY := Lib.hid (show X = sumQ K { conOf 3 with vars := y.1 } T y.2 by rw [HX.out, hy]; rfl)
  have HSL := Lib.hid (show y.1.length = 1 by rw [hy, vars_size]; rfl)
  rw [← hy] at VX
  clear hy
  obtain ⟨L, r2⟩ := y
  simp only at HXY
  go_wp2_with fail
  refine VX.out.mono ?_
  rintro e w2 ⟨hB, ⟨hw, hP, p1, c1, rfl, ho⟩ | ⟨hw, rfl⟩⟩
  rotate_left
  · have HG := Lib.hid (ends_no (T := T) (len := len) (n := n) (bl := bl) (ol := ol) (cl := cl) (base := nb) (pv := pv) (m := m) (cv := cv) (g := g) (x := X) (V := ConE w X.1) (HY.out.k.but.trans hB (fun i _ e => e)) ((tame_sum K { conOf 3 with vars := L }).after HXY.out hw).1)
    rw [((tame_sum K { conOf 3 with vars := L }).after HXY.out hw).2] at HG
    unfold gone at HG ⊢
    clear hw hB
    go_wp2_with fail
    exact ⟨rfl, HG.out⟩
  have HV0 := Lib.hid (show CAt w w2 g n bl ol cl nb pv m cv T len (conOf 0) r2 (.slice none 0 0) (.slice none 0 0) (.slice none 0 0) from HY.out.moved hP hB)
  have HV := Lib.hid (show CAt w ((w2.setCell ⟨w.heap.size + 1, 0, none⟩ (.int .i64 3)).setCell ⟨w.heap.size + 1, 1, none⟩ (.slice p1 L.length c1)) g n bl ol cl nb pv m cv T len { conOf 3 with vars := L } r2 (.slice p1 L.length c1) (.slice none 0 0) (.slice none 0 0) from HV0.out.kindVars ho HS0.out)
  have b0 := HV0.out.k.box.cell 0 rfl
  have f0 := HV0.out.k.box.frozen 0
  have b1 := HV0.out.k.box.cell 1 rfl
  have f1 := HV0.out.k.box.frozen 1
  have HOL := Lib.hid ho
  clear hB hw hP ho
  obtain ⟨wb, hwb⟩ : ∃ wb, wb = ((w2.setCell ⟨w.heap.size + 1, 0, none⟩ (.int .i64 3)).setCell ⟨w.heap.size + 1, 1, none⟩ (.slice p1 L.length c1)) := ⟨_, rfl⟩
  rw [← hwb] at HV
  have SX := Lib.hid (sum_any K HV.out.tight hv hm hK (by omega) (by have := HSL.out; simp only at this ⊢; omega) (by simp [conOf]))
  rw [← HXY.out] at SX
  go_wp2_with fail
  rw [← hwb]
  clear hwb b0 f0 b1 f1
  refine SX.out.mono ?_
  rintro e w3 ⟨hB, ⟨hw, rfl, y1, y2, hk⟩ | ⟨hw, rfl⟩⟩
  rotate_left
  · have HG := Lib.hid (ends_no (T := T) (len := len) (n := n) (bl := bl) (ol := ol) (cl := cl) (base := nb) (pv := pv) (m := m) (cv := cv) (g := g) (x := X) (V := ConE w X.1) (tight_but HV.out.k.but hB) hw)
    unfold gone at HG ⊢
    clear hw hB
    go_wp2_with fail
    exact ⟨rfl, HG.out⟩
  obtain ⟨p1, l1, k1, e1⟩ : ∃ p l k, y1 = .slice p l k := by
    obtain ⟨p, k, e⟩ := hk.own.o1.shape
    exact ⟨p, _, k, e⟩
  subst e1
  obtain ⟨p2, l2, k2, e2⟩ : ∃ p l k, y2 = .slice p l k := by
    obtain ⟨p, k, e⟩ := hk.own.o2.shape
    exact ⟨p, _, k, e⟩
  subst e2
  have HN0 := Lib.hid (HV.out.back hk)
  obtain ⟨cx, rx⟩ := X
  obtain ⟨kk, hkk⟩ : ∃ kk, kk = cx.kind := ⟨_, rfl⟩
  obtain ⟨rr, hrr⟩ : ∃ rr, rr = cx.rel := ⟨_, rfl⟩
  obtain ⟨tt, htt⟩ : ∃ tt, tt = cx.const := ⟨_, rfl⟩
  have HKK := Lib.hid (And.intro hkk (And.intro hrr htt))
  have n0 := HN0.out.k.box.cell 0 rfl
  have n1 := HN0.out.k.box.cell 1 rfl
  have n2 := HN0.out.k.box.cell 2 rfl
  have n3 := HN0.out.k.box.cell 3 rfl
  have n4 := HN0.out.k.box.cell 4 rfl
  have n5 := HN0.out.k.box.cell 5 rfl
  simp only at n0 n1 n2 n3 n4 n5
  rw [← hkk] at n0
  rw [← hrr] at n3
  rw [← htt] at n4
  have q0 := HN0.out.res.cell 0 rfl
  have g0 := HN0.out.res.frozen 0
  have q1 := HN0.out.res.cell 1 rfl
  have g1 := HN0.out.res.frozen 1
  have q2 := HN0.out.res.cell 2 rfl
  have g2 := HN0.out.res.frozen 2
  have q3 := HN0.out.res.cell 3 rfl
  have g3 := HN0.out.res.frozen 3
  have q4 := HN0.out.res.cell 4 rfl
  have g4 := HN0.out.res.frozen 4
  have q5 := HN0.out.res.cell 5 rfl
  have g5 := HN0.out.res.frozen 5
  clear hB hw hk hkk hrr htt
  go_wp2_with fail
  (try simp only [Exit.inBlock, Exit.then])
  refine bodyPost_ret (results_con rfl _ _ w.heap.size (.int .i64 kk) (.slice p1 l1 k1) (.slice p2 l2 k2) (.int .i64 rr) (.int .i64 tt) (.slice none 0 0) rfl ?c0a ?c1a ?c2a ?c3a ?c4a ?c5a) rfl ?resta
  case c0a => go_simp
  case c1a => go_simp
  case c2a => go_simp
  case c3a => go_simp
  case c4a => go_simp
  case c5a => go_simp
  case resta =>
    obtain ⟨e1, e2, e3⟩ := HN0.out.ends (x0 := .int .i64 kk) (x1 := .slice p1 l1 k1) (x2 := .slice p2 l2 k2) (x3 := .int .i64 rr) (x4 := .int .i64 tt) (x5 := .slice none 0 0)
    exact ⟨e3, .inl ⟨HN0.out.k.rd.ok, e1, _, _, _, by rw [HKK.out.1, HKK.out.2.1, HKK.out.2.2], e2⟩⟩
end
end Go.Proofs.YtkgieaoahijheaaGreatDoor.Pp
namespace Go.Proofs.YtkgieaoahijheaaGreatDoor.Pp
open Go.RowKit
open Sc (Tok Cells str noTok)
open Pa
set_option maxRecDepth 100000

section
variable {w w' : World} {g n bl ol cl nb : Nat} {pv : Option Addr} {m cv : Nat} {T : List Tok} {len : Nat} {r : Rd}
set_option maxHeartbeats 8000000 in
theorem con_element (K : Nat) (h : PAt w g n bl ol cl nb pv m cv T len r) (hv : ∀ t ∈ T, t.value ≤ 2000000000000) (hm : m ≤ 1000000) (hK : n < K) (hn : n ≤ 9000) (ht : textO (next T r) = tElement) :
    Calls Tryz.prog 82 #[.pointer (some ⟨g, 0, none⟩)] w (Ends w (fun i => i = g) g n bl ol cl nb pv m cv T len (conQ K T r) (ConE w (conQ K T r).1)) := by
  obtain ⟨X, hX⟩ : ∃ X, X = conQ K T r := ⟨_, rfl⟩
  rw [← hX]
  rw [conQ3 ht] at hX
  have HX := Lib.hid hX
  have N0 := Lib.hid (show textO (next T r) ≠ tProduct by rw [ht]; decide)
  have N1 := Lib.hid (show textO (next T r) ≠ tIff by rw [ht]; decide)
  have HT := Lib.hid ht
  have HC := Lib.hid (cat_new h)
  clear h hX ht
  go_enter Tryz.func82, Tryz.ntmps82
  go_wp2_with fail
  refine (took_no ⟨#[112, 114, 111, 100, 117, 99, 116]⟩ (by decide) N0.out HC.out.k.rd).mono ?_
  rintro e wn0 ⟨rfl, hP, hB⟩
  have HC0 := Lib.hid (show CAt w wn0 g n bl ol cl nb pv m cv T len (conOf 0) r (.slice none 0 0) (.slice none 0 0) (.slice none 0 0) from HC.out.moved hP hB)
  clear hP hB
  go_wp2_with fail
  refine (took_no ⟨#[105, 102, 102]⟩ (by decide) N1.out HC0.out.k.rd).mono ?_
  rintro e wn1 ⟨rfl, hP, hB⟩
  have HC1 := Lib.hid (show CAt w wn1 g n bl ol cl nb pv m cv T len (conOf 0) r (.slice none 0 0) (.slice none 0 0) (.slice none 0 0) from HC0.out.moved hP hB)
  clear hP hB
  go_wp2_with fail
  refine (took_yes ⟨#[101, 108, 101, 109, 101, 110, 116]⟩ (by decide) HT.out HC1.out.k.rd).mono ?_
  rintro e wy ⟨rfl, hP, hB⟩
  have HY := Lib.hid (show CAt w wy g n bl ol cl nb pv m cv T len (conOf 0) (step1 r) (.slice none 0 0) (.slice none 0 0) (.slice none 0 0) from HC1.out.moved hP hB)
  clear hP hB
  have VX := Lib.hid (vars_any 2 (by decide) HY.out.k.rd hm)
  rw [show ((2 : Nat) : Int) = 2 from rfl] at VX
  have HS0 := Lib.hid (show w.heap.size + 2 ≤ wy.heap.size from HY.out.k.low)
  obtain ⟨y, hy⟩ : ∃ y, y = varsQ 2 [] T (step1 r) := ⟨_, rfl⟩
  have HXY := Lib.hid (show X = tableQ K 1 { conOf 4 with vars := y.1 } T y.2 by rw [HX.out, hy]; rfl)
  rw [← hy] at VX
  clear hy
  obtain ⟨L, r2⟩ := y
  simp only at HXY
  go_wp2_with fail
  refine VX.out.mono ?_
  rintro e w2 ⟨hB, ⟨hw, hP, p1, c1, rfl, ho⟩ | ⟨hw, rfl⟩⟩
  rotate_left
  · have HG := Lib.hid (ends_no (T := T) (len := len) (n := n) (bl := bl) (ol := ol) (cl := cl) (base := nb) (pv := pv) (m := m) (cv := cv) (g := g) (x := X) (V := ConE w X.1) (HY.out.k.but.trans hB (fun i _ e => e)) ((tame_table K 1 { conOf 4 with vars := L }).after HXY.out hw).1)
    rw [((tame_table K 1 { conOf 4 with vars := L }).after HXY.out hw).2] at HG
    unfold gone at HG ⊢
    clear hw hB
    go_wp2_with fail
    exact ⟨rfl, HG.out⟩
  have HV0 := Lib.hid (show CAt w w2 g n bl ol cl nb pv m cv T len (conOf 0) r2 (.slice none 0 0) (.slice none 0 0) (.slice none 0 0) from HY.out.moved hP hB)
  have HV := Lib.hid (show CAt w ((w2.setCell ⟨w.heap.size + 1, 0, none⟩ (.int .i64 4)).setCell ⟨w.heap.size + 1, 1, none⟩ (.slice p1 L.length c1)) g n bl ol cl nb pv m cv T len { conOf 4 with vars := L } r2 (.slice p1 L.length c1) (.slice none 0 0) (.slice none 0 0) from HV0.out.kindVars ho HS0.out)
  have b0 := HV0.out.k.box.cell 0 rfl
  have f0 := HV0.out.k.box.frozen 0
  have b1 := HV0.out.k.box.cell 1 rfl
  have f1 := HV0.out.k.box.frozen 1
  have HOL := Lib.hid ho
  clear hB hw hP ho
  obtain ⟨wb, hwb⟩ : ∃ wb, wb = ((w2.setCell ⟨w.heap.size + 1, 0, none⟩ (.int .i64 4)).setCell ⟨w.heap.size + 1, 1, none⟩ (.slice p1 L.length c1)) := ⟨_, rfl⟩
  rw [← hwb] at HV
  have HLT := Lib.hid (show ∀ k, (Value.slice p1 L.length c1).ownBlock = some k → k < wb.heap.size from fun k e => (HV.out.k.own.o1.lt k e).2)
  have NX := Lib.hid (nums_any K 1 (by decide) HV.out.k.rd hv hK (by omega))
  rw [show ((1 : Nat) : Int) = 1 from rfl] at NX
  have HS1 := Lib.hid (show w.heap.size + 2 ≤ wb.heap.size from HV.out.k.low)
  obtain ⟨y, hy⟩ : ∃ y, y = numsQ K 1 T r2 := ⟨_, rfl⟩
  have HXZ := Lib.hid (show X = ({ conOf 4 with vars := L, nums := y.1 }, y.2) by rw [HXY.out, hy]; rfl)
  rw [← hy] at NX
  clear hy
  obtain ⟨M, r3⟩ := y
  simp only at HXZ
  go_wp2_with fail
  rw [← hwb]
  clear hwb b0 f0 b1 f1
  refine NX.out.mono ?_
  rintro e w3 ⟨hB, ⟨hw, hP, p3, c3, rfl, ho⟩ | ⟨hw, rfl⟩⟩
  rotate_left
  · have HG := Lib.hid (ends_no (T := T) (len := len) (n := n) (bl := bl) (ol := ol) (cl := cl) (base := nb) (pv := pv) (m := m) (cv := cv) (g := g) (x := X) (V := ConE w X.1) (HV.out.k.but.trans hB (fun i _ e => e)) (by rw [HXZ.out]; exact hw))
    rw [show X.2.at_ = r3.at_ by rw [HXZ.out]] at HG
    unfold gone at HG ⊢
    clear hw hB
    go_wp2_with fail
    exact ⟨rfl, HG.out⟩
  have HN0 := Lib.hid (show CAt w w3 g n bl ol cl nb pv m cv T len { conOf 4 with vars := L } r3 (.slice p1 L.length c1) (.slice none 0 0) (.slice none 0 0) from HV.out.moved hP hB)
  have HN := Lib.hid (show CAt w (w3.setCell ⟨w.heap.size + 1, 5, none⟩ (.slice p3 M.length c3)) g n bl ol cl nb pv m cv T len { conOf 4 with vars := L, nums := M } r3 (.slice p1 L.length c1) (.slice none 0 0) (.slice p3 M.length c3) from HN0.out.giveNums ho HLT.out HS1.out)
  have n0 := HN0.out.k.box.cell 0 rfl
  have n1 := HN0.out.k.box.cell 1 rfl
  have n2 := HN0.out.k.box.cell 2 rfl
  have n3 := HN0.out.k.box.cell 3 rfl
  have n4 := HN0.out.k.box.cell 4 rfl
  have n5 := HN0.out.k.box.cell 5 rfl
  have f5 := HN0.out.k.box.frozen 5
  clear hB hw hP ho
  have HXE := Lib.hid (show X = ({ conOf 4 with vars := L, nums := M }, r3) from HXZ.out)
  have b0 := HN.out.k.box.cell 0 rfl
  have b1 := HN.out.k.box.cell 1 rfl
  have b2 := HN.out.k.box.cell 2 rfl
  have b3 := HN.out.k.box.cell 3 rfl
  have b4 := HN.out.k.box.cell 4 rfl
  have b5 := HN.out.k.box.cell 5 rfl
  have q0 := HN.out.res.cell 0 rfl
  have g0 := HN.out.res.frozen 0
  have q1 := HN.out.res.cell 1 rfl
  have g1 := HN.out.res.frozen 1
  have q2 := HN.out.res.cell 2 rfl
  have g2 := HN.out.res.frozen 2
  have q3 := HN.out.res.cell 3 rfl
  have g3 := HN.out.res.frozen 3
  have q4 := HN.out.res.cell 4 rfl
  have g4 := HN.out.res.frozen 4
  have q5 := HN.out.res.cell 5 rfl
  have g5 := HN.out.res.frozen 5
  have HEX := Lib.hid (show X = ({ conOf 4 with vars := L, nums := M }, r3) from HXE.out)
  (try simp only [conOf] at b0 b1 b2 b3 b4 b5)
  go_wp2_with fail
  (try simp only [Exit.inBlock, Exit.then])
  refine bodyPost_ret (results_con rfl _ _ w.heap.size (.int .i64 4) (.slice p1 L.length c1) (.slice none 0 0) (.int .i64 0) (.int .i64 0) (.slice p3 M.length c3) rfl ?c0a ?c1a ?c2a ?c3a ?c4a ?c5a) rfl ?resta
  case c0a => go_simp
  case c1a => go_simp
  case c2a => go_simp
  case c3a => go_simp
  case c4a => go_simp
  case c5a => go_simp
  case resta =>
    obtain ⟨e1, e2, e3⟩ := HN.out.ends (x0 := .int .i64 4) (x1 := (.slice p1 L.length c1)) (x2 := (.slice none 0 0)) (x3 := .int .i64 0) (x4 := .int .i64 0) (x5 := (.slice p3 M.length c3))
    exact ⟨e3, .inl ⟨by rw [HEX.out]; exact HN.out.k.rd.ok, by rw [HEX.out]; exact e1, (.slice p1 L.length c1), (.slice none 0 0), (.slice p3 M.length c3), by rw [HEX.out]; rfl, by rw [HEX.out]; exact e2⟩⟩
end
end Go.Proofs.YtkgieaoahijheaaGreatDoor.Pp
namespace Go.Proofs.YtkgieaoahijheaaGreatDoor.Pp
open Go.RowKit
open Sc (Tok Cells str noTok)
open Pa
set_option maxRecDepth 100000

section
variable {w w' : World} {g n bl ol cl nb : Nat} {pv : Option Addr} {m cv : Nat} {T : List Tok} {len : Nat} {r : Rd}
set_option maxHeartbeats 8000000 in
theorem con_different (K : Nat) (h : PAt w g n bl ol cl nb pv m cv T len r) (_ : ∀ t ∈ T, t.value ≤ 2000000000000) (hm : m ≤ 1000000) (hK : n < K) (hn : n ≤ 9000) (ht : textO (next T r) = tDifferent) :
    Calls Tryz.prog 82 #[.pointer (some ⟨g, 0, none⟩)] w (Ends w (fun i => i = g) g n bl ol cl nb pv m cv T len (conQ K T r) (ConE w (conQ K T r).1)) := by
  obtain ⟨X, hX⟩ : ∃ X, X = conQ K T r := ⟨_, rfl⟩
  rw [← hX]
  rw [conQ4 ht] at hX
  have HX := Lib.hid hX
  have N0 := Lib.hid (show textO (next T r) ≠ tProduct by rw [ht]; decide)
  have N1 := Lib.hid (show textO (next T r) ≠ tIff by rw [ht]; decide)
  have N2 := Lib.hid (show textO (next T r) ≠ tElement by rw [ht]; decide)
  have HT := Lib.hid ht
  have HC := Lib.hid (cat_new h)
  clear h hX ht
  go_enter Tryz.func82, Tryz.ntmps82
  go_wp2_with fail
  refine (took_no ⟨#[112, 114, 111, 100, 117, 99, 116]⟩ (by decide) N0.out HC.out.k.rd).mono ?_
  rintro e wn0 ⟨rfl, hP, hB⟩
  have HC0 := Lib.hid (show CAt w wn0 g n bl ol cl nb pv m cv T len (conOf 0) r (.slice none 0 0) (.slice none 0 0) (.slice none 0 0) from HC.out.moved hP hB)
  clear hP hB
  go_wp2_with fail
  refine (took_no ⟨#[105, 102, 102]⟩ (by decide) N1.out HC0.out.k.rd).mono ?_
  rintro e wn1 ⟨rfl, hP, hB⟩
  have HC1 := Lib.hid (show CAt w wn1 g n bl ol cl nb pv m cv T len (conOf 0) r (.slice none 0 0) (.slice none 0 0) (.slice none 0 0) from HC0.out.moved hP hB)
  clear hP hB
  go_wp2_with fail
  refine (took_no ⟨#[101, 108, 101, 109, 101, 110, 116]⟩ (by decide) N2.out HC1.out.k.rd).mono ?_
  rintro e wn2 ⟨rfl, hP, hB⟩
  have HC2 := Lib.hid (show CAt w wn2 g n bl ol cl nb pv m cv T len (conOf 0) r (.slice none 0 0) (.slice none 0 0) (.slice none 0 0) from HC1.out.moved hP hB)
  clear hP hB
  go_wp2_with fail
  refine (took_yes ⟨#[100, 105, 102, 102, 101, 114, 101, 110, 116]⟩ (by decide) HT.out HC2.out.k.rd).mono ?_
  rintro e wy ⟨rfl, hP, hB⟩
  have HY := Lib.hid (show CAt w wy g n bl ol cl nb pv m cv T len (conOf 0) (step1 r) (.slice none 0 0) (.slice none 0 0) (.slice none 0 0) from HC2.out.moved hP hB)
  clear hP hB
  have VX := Lib.hid (from_any K 2 (by decide) HY.out.k.rd hm hK (by omega))
  rw [show ((2 : Nat) : Int) = 2 from rfl] at VX
  have HS0 := Lib.hid (show w.heap.size + 2 ≤ wy.heap.size from HY.out.k.low)
  obtain ⟨y, hy⟩ : ∃ y, y = fromQ K 2 T (step1 r) := ⟨_, rfl⟩
  have HXY := Lib.hid (show X = ret { conOf 5 with vars := y.1 } T y.2 by rw [HX.out, hy]; rfl)
  rw [← hy] at VX
  clear hy
  obtain ⟨L, r2⟩ := y
  simp only at HXY
  go_wp2_with fail
  refine VX.out.mono ?_
  rintro e w2 ⟨hB, ⟨hw, hP, p1, c1, rfl, ho⟩ | ⟨hw, rfl⟩⟩
  rotate_left
  · have HG := Lib.hid (ends_no (T := T) (len := len) (n := n) (bl := bl) (ol := ol) (cl := cl) (base := nb) (pv := pv) (m := m) (cv := cv) (g := g) (x := X) (V := ConE w X.1) (HY.out.k.but.trans hB (fun i _ e => e)) ((tame_ret { conOf 5 with vars := L }).after HXY.out hw).1)
    rw [((tame_ret { conOf 5 with vars := L }).after HXY.out hw).2] at HG
    unfold gone at HG ⊢
    clear hw hB
    go_wp2_with fail
    exact ⟨rfl, HG.out⟩
  have HV0 := Lib.hid (show CAt w w2 g n bl ol cl nb pv m cv T len (conOf 0) r2 (.slice none 0 0) (.slice none 0 0) (.slice none 0 0) from HY.out.moved hP hB)
  have HV := Lib.hid (show CAt w ((w2.setCell ⟨w.heap.size + 1, 0, none⟩ (.int .i64 5)).setCell ⟨w.heap.size + 1, 1, none⟩ (.slice p1 L.length c1)) g n bl ol cl nb pv m cv T len { conOf 5 with vars := L } r2 (.slice p1 L.length c1) (.slice none 0 0) (.slice none 0 0) from HV0.out.kindVars ho HS0.out)
  have b0 := HV0.out.k.box.cell 0 rfl
  have f0 := HV0.out.k.box.frozen 0
  have b1 := HV0.out.k.box.cell 1 rfl
  have f1 := HV0.out.k.box.frozen 1
  have HOL := Lib.hid ho
  clear hB hw hP ho
  have HXE := Lib.hid (show X = ({ conOf 5 with vars := L }, r2) from HXY.out)
  have b0 := HV.out.k.box.cell 0 rfl
  have b1 := HV.out.k.box.cell 1 rfl
  have b2 := HV.out.k.box.cell 2 rfl
  have b3 := HV.out.k.box.cell 3 rfl
  have b4 := HV.out.k.box.cell 4 rfl
  have b5 := HV.out.k.box.cell 5 rfl
  have q0 := HV.out.res.cell 0 rfl
  have g0 := HV.out.res.frozen 0
  have q1 := HV.out.res.cell 1 rfl
  have g1 := HV.out.res.frozen 1
  have q2 := HV.out.res.cell 2 rfl
  have g2 := HV.out.res.frozen 2
  have q3 := HV.out.res.cell 3 rfl
  have g3 := HV.out.res.frozen 3
  have q4 := HV.out.res.cell 4 rfl
  have g4 := HV.out.res.frozen 4
  have q5 := HV.out.res.cell 5 rfl
  have g5 := HV.out.res.frozen 5
  have HEX := Lib.hid (show X = ({ conOf 5 with vars := L }, r2) from HXE.out)
  (try simp only [conOf] at b0 b1 b2 b3 b4 b5)
  go_wp2_with fail
  (try simp only [Exit.inBlock, Exit.then])
  refine bodyPost_ret (results_con rfl _ _ w.heap.size (.int .i64 5) (.slice p1 L.length c1) (.slice none 0 0) (.int .i64 0) (.int .i64 0) (.slice none 0 0) rfl ?c0a ?c1a ?c2a ?c3a ?c4a ?c5a) rfl ?resta
  case c0a => go_simp
  case c1a => go_simp
  case c2a => go_simp
  case c3a => go_simp
  case c4a => go_simp
  case c5a => go_simp
  case resta =>
    obtain ⟨e1, e2, e3⟩ := HV.out.ends (x0 := .int .i64 5) (x1 := (.slice p1 L.length c1)) (x2 := (.slice none 0 0)) (x3 := .int .i64 0) (x4 := .int .i64 0) (x5 := (.slice none 0 0))
    exact ⟨e3, .inl ⟨by rw [HEX.out]; exact HV.out.k.rd.ok, by rw [HEX.out]; exact e1, (.slice p1 L.length c1), (.slice none 0 0), (.slice none 0 0), by rw [HEX.out]; rfl, by rw [HEX.out]; exact e2⟩⟩
end
end Go.Proofs.YtkgieaoahijheaaGreatDoor.Pp
namespace Go.Proofs.YtkgieaoahijheaaGreatDoor.Pp
open Go.RowKit
open Sc (Tok Cells str noTok)
open Pa
set_option maxRecDepth 100000

section
variable {w w' : World} {g n bl ol cl nb : Nat} {pv : Option Addr} {m cv : Nat} {T : List Tok} {len : Nat} {r : Rd}
set_option maxHeartbeats 8000000 in
theorem con_table (K : Nat) (h : PAt w g n bl ol cl nb pv m cv T len r) (hv : ∀ t ∈ T, t.value ≤ 2000000000000) (hm : m ≤ 1000000) (hK : n < K) (hn : n ≤ 9000) (ht : textO (next T r) = tTable) :
    Calls Tryz.prog 82 #[.pointer (some ⟨g, 0, none⟩)] w (Ends w (fun i => i = g) g n bl ol cl nb pv m cv T len (conQ K T r) (ConE w (conQ K T r).1)) := by
  obtain ⟨X, hX⟩ : ∃ X, X = conQ K T r := ⟨_, rfl⟩
  rw [← hX]
  rw [conQ5 ht] at hX
  have HX := Lib.hid hX
  have N0 := Lib.hid (show textO (next T r) ≠ tProduct by rw [ht]; decide)
  have N1 := Lib.hid (show textO (next T r) ≠ tIff by rw [ht]; decide)
  have N2 := Lib.hid (show textO (next T r) ≠ tElement by rw [ht]; decide)
  have N3 := Lib.hid (show textO (next T r) ≠ tDifferent by rw [ht]; decide)
  have HT := Lib.hid ht
  have HC := Lib.hid (cat_new h)
  clear h hX ht
  go_enter Tryz.func82, Tryz.ntmps82
  go_wp2_with fail
  refine (took_no ⟨#[112, 114, 111, 100, 117, 99, 116]⟩ (by decide) N0.out HC.out.k.rd).mono ?_
  rintro e wn0 ⟨rfl, hP, hB⟩
  have HC0 := Lib.hid (show CAt w wn0 g n bl ol cl nb pv m cv T len (conOf 0) r (.slice none 0 0) (.slice none 0 0) (.slice none 0 0) from HC.out.moved hP hB)
  clear hP hB
  go_wp2_with fail
  refine (took_no ⟨#[105, 102, 102]⟩ (by decide) N1.out HC0.out.k.rd).mono ?_
  rintro e wn1 ⟨rfl, hP, hB⟩
  have HC1 := Lib.hid (show CAt w wn1 g n bl ol cl nb pv m cv T len (conOf 0) r (.slice none 0 0) (.slice none 0 0) (.slice none 0 0) from HC0.out.moved hP hB)
  clear hP hB
  go_wp2_with fail
  refine (took_no ⟨#[101, 108, 101, 109, 101, 110, 116]⟩ (by decide) N2.out HC1.out.k.rd).mono ?_
  rintro e wn2 ⟨rfl, hP, hB⟩
  have HC2 := Lib.hid (show CAt w wn2 g n bl ol cl nb pv m cv T len (conOf 0) r (.slice none 0 0) (.slice none 0 0) (.slice none 0 0) from HC1.out.moved hP hB)
  clear hP hB
  go_wp2_with fail
  refine (took_no ⟨#[100, 105, 102, 102, 101, 114, 101, 110, 116]⟩ (by decide) N3.out HC2.out.k.rd).mono ?_
  rintro e wn3 ⟨rfl, hP, hB⟩
  have HC3 := Lib.hid (show CAt w wn3 g n bl ol cl nb pv m cv T len (conOf 0) r (.slice none 0 0) (.slice none 0 0) (.slice none 0 0) from HC2.out.moved hP hB)
  clear hP hB
  go_wp2_with fail
  refine (took_yes ⟨#[116, 97, 98, 108, 101]⟩ (by decide) HT.out HC3.out.k.rd).mono ?_
  rintro e wy ⟨rfl, hP, hB⟩
  have HY := Lib.hid (show CAt w wy g n bl ol cl nb pv m cv T len (conOf 0) (step1 r) (.slice none 0 0) (.slice none 0 0) (.slice none 0 0) from HC3.out.moved hP hB)
  clear hP hB
  have VX := Lib.hid (from_any K 1 (by decide) HY.out.k.rd hm hK (by omega))
  rw [show ((1 : Nat) : Int) = 1 from rfl] at VX
  have HS0 := Lib.hid (show w.heap.size + 2 ≤ wy.heap.size from HY.out.k.low)
  obtain ⟨y, hy⟩ : ∃ y, y = fromQ K 1 T (step1 r) := ⟨_, rfl⟩
  have HXY := Lib.hid (show X = tableQ K 0 { conOf 6 with vars := y.1 } T y.2 by rw [HX.out, hy]; rfl)
  rw [← hy] at VX
  clear hy
  obtain ⟨L, r2⟩ := y
  simp only at HXY
  go_wp2_with fail
  refine VX.out.mono ?_
  rintro e w2 ⟨hB, ⟨hw, hP, p1, c1, rfl, ho⟩ | ⟨hw, rfl⟩⟩
  rotate_left
  · have HG := Lib.hid (ends_no (T := T) (len := len) (n := n) (bl := bl) (ol := ol) (cl := cl) (base := nb) (pv := pv) (m := m) (cv := cv) (g := g) (x := X) (V := ConE w X.1) (HY.out.k.but.trans hB (fun i _ e => e)) ((tame_table K 0 { conOf 6 with vars := L }).after HXY.out hw).1)
    rw [((tame_table K 0 { conOf 6 with vars := L }).after HXY.out hw).2] at HG
    unfold gone at HG ⊢
    clear hw hB
    go_wp2_with fail
    exact ⟨rfl, HG.out⟩
  have HV0 := Lib.hid (show CAt w w2 g n bl ol cl nb pv m cv T len (conOf 0) r2 (.slice none 0 0) (.slice none 0 0) (.slice none 0 0) from HY.out.moved hP hB)
  have HV := Lib.hid (show CAt w ((w2.setCell ⟨w.heap.size + 1, 0, none⟩ (.int .i64 6)).setCell ⟨w.heap.size + 1, 1, none⟩ (.slice p1 L.length c1)) g n bl ol cl nb pv m cv T len { conOf 6 with vars := L } r2 (.slice p1 L.length c1) (.slice none 0 0) (.slice none 0 0) from HV0.out.kindVars ho HS0.out)
  have b0 := HV0.out.k.box.cell 0 rfl
  have f0 := HV0.out.k.box.frozen 0
  have b1 := HV0.out.k.box.cell 1 rfl
  have f1 := HV0.out.k.box.frozen 1
  have HOL := Lib.hid ho
  clear hB hw hP ho
  obtain ⟨wb, hwb⟩ : ∃ wb, wb = ((w2.setCell ⟨w.heap.size + 1, 0, none⟩ (.int .i64 6)).setCell ⟨w.heap.size + 1, 1, none⟩ (.slice p1 L.length c1)) := ⟨_, rfl⟩
  rw [← hwb] at HV
  have HLT := Lib.hid (show ∀ k, (Value.slice p1 L.length c1).ownBlock = some k → k < wb.heap.size from fun k e => (HV.out.k.own.o1.lt k e).2)
  have NX := Lib.hid (nums_any K 0 (by decide) HV.out.k.rd hv hK (by omega))
  rw [show ((0 : Nat) : Int) = 0 from rfl] at NX
  have HS1 := Lib.hid (show w.heap.size + 2 ≤ wb.heap.size from HV.out.k.low)
  obtain ⟨y, hy⟩ : ∃ y, y = numsQ K 0 T r2 := ⟨_, rfl⟩
  have HXZ := Lib.hid (show X = ({ conOf 6 with vars := L, nums := y.1 }, y.2) by rw [HXY.out, hy]; rfl)
  rw [← hy] at NX
  clear hy
  obtain ⟨M, r3⟩ := y
  simp only at HXZ
  go_wp2_with fail
  rw [← hwb]
  clear hwb b0 f0 b1 f1
  refine NX.out.mono ?_
  rintro e w3 ⟨hB, ⟨hw, hP, p3, c3, rfl, ho⟩ | ⟨hw, rfl⟩⟩
  rotate_left
  · have HG := Lib.hid (ends_no (T := T) (len := len) (n := n) (bl := bl) (ol := ol) (cl := cl) (base := nb) (pv := pv) (m := m) (cv := cv) (g := g) (x := X) (V := ConE w X.1) (HV.out.k.but.trans hB (fun i _ e => e)) (by rw [HXZ.out]; exact hw))
    rw [show X.2.at_ = r3.at_ by rw [HXZ.out]] at HG
    unfold gone at HG ⊢
    clear hw hB
    go_wp2_with fail
    exact ⟨rfl, HG.out⟩
  have HN0 := Lib.hid (show CAt w w3 g n bl ol cl nb pv m cv T len { conOf 6 with vars := L } r3 (.slice p1 L.length c1) (.slice none 0 0) (.slice none 0 0) from HV.out.moved hP hB)
  have HN := Lib.hid (show CAt w (w3.setCell ⟨w.heap.size + 1, 5, none⟩ (.slice p3 M.length c3)) g n bl ol cl nb pv m cv T len { conOf 6 with vars := L, nums := M } r3 (.slice p1 L.length c1) (.slice none 0 0) (.slice p3 M.length c3) from HN0.out.giveNums ho HLT.out HS1.out)
  have n0 := HN0.out.k.box.cell 0 rfl
  have n1 := HN0.out.k.box.cell 1 rfl
  have n2 := HN0.out.k.box.cell 2 rfl
  have n3 := HN0.out.k.box.cell 3 rfl
  have n4 := HN0.out.k.box.cell 4 rfl
  have n5 := HN0.out.k.box.cell 5 rfl
  have f5 := HN0.out.k.box.frozen 5
  clear hB hw hP ho
  have HXE := Lib.hid (show X = ({ conOf 6 with vars := L, nums := M }, r3) from HXZ.out)
  have b0 := HN.out.k.box.cell 0 rfl
  have b1 := HN.out.k.box.cell 1 rfl
  have b2 := HN.out.k.box.cell 2 rfl
  have b3 := HN.out.k.box.cell 3 rfl
  have b4 := HN.out.k.box.cell 4 rfl
  have b5 := HN.out.k.box.cell 5 rfl
  have q0 := HN.out.res.cell 0 rfl
  have g0 := HN.out.res.frozen 0
  have q1 := HN.out.res.cell 1 rfl
  have g1 := HN.out.res.frozen 1
  have q2 := HN.out.res.cell 2 rfl
  have g2 := HN.out.res.frozen 2
  have q3 := HN.out.res.cell 3 rfl
  have g3 := HN.out.res.frozen 3
  have q4 := HN.out.res.cell 4 rfl
  have g4 := HN.out.res.frozen 4
  have q5 := HN.out.res.cell 5 rfl
  have g5 := HN.out.res.frozen 5
  have HEX := Lib.hid (show X = ({ conOf 6 with vars := L, nums := M }, r3) from HXE.out)
  (try simp only [conOf] at b0 b1 b2 b3 b4 b5)
  go_wp2_with fail
  (try simp only [Exit.inBlock, Exit.then])
  refine bodyPost_ret (results_con rfl _ _ w.heap.size (.int .i64 6) (.slice p1 L.length c1) (.slice none 0 0) (.int .i64 0) (.int .i64 0) (.slice p3 M.length c3) rfl ?c0a ?c1a ?c2a ?c3a ?c4a ?c5a) rfl ?resta
  case c0a => go_simp
  case c1a => go_simp
  case c2a => go_simp
  case c3a => go_simp
  case c4a => go_simp
  case c5a => go_simp
  case resta =>
    obtain ⟨e1, e2, e3⟩ := HN.out.ends (x0 := .int .i64 6) (x1 := (.slice p1 L.length c1)) (x2 := (.slice none 0 0)) (x3 := .int .i64 0) (x4 := .int .i64 0) (x5 := (.slice p3 M.length c3))
    exact ⟨e3, .inl ⟨by rw [HEX.out]; exact HN.out.k.rd.ok, by rw [HEX.out]; exact e1, (.slice p1 L.length c1), (.slice none 0 0), (.slice p3 M.length c3), by rw [HEX.out]; rfl, by rw [HEX.out]; exact e2⟩⟩
end
end Go.Proofs.YtkgieaoahijheaaGreatDoor.Pp
namespace Go.Proofs.YtkgieaoahijheaaGreatDoor.Pp
open Go.RowKit
open Sc (Tok Cells str noTok)
open Pa
set_option maxRecDepth 100000

section
variable {w w' : World} {g n bl ol cl nb : Nat} {pv : Option Addr} {m cv : Nat} {T : List Tok} {len : Nat} {r : Rd}
set_option maxHeartbeats 8000000 in
theorem con_sum (K : Nat) (h : PAt w g n bl ol cl nb pv m cv T len r) (hv : ∀ t ∈ T, t.value ≤ 2000000000000) (hm : m ≤ 1000000) (hK : n < K) (hn : n ≤ 9000) (h1 : textO (next T r) ≠ tProduct) (h2 : textO (next T r) ≠ tIff) (h3 : textO (next T r) ≠ tElement) (h4 : textO (next T r) ≠ tDifferent) (h5 : textO (next T r) ≠ tTable) :
    Calls Tryz.prog 82 #[.pointer (some ⟨g, 0, none⟩)] w (Ends w (fun i => i = g) g n bl ol cl nb pv m cv T len (conQ K T r) (ConE w (conQ K T r).1)) := by
  obtain ⟨X, hX⟩ : ∃ X, X = conQ K T r := ⟨_, rfl⟩
  rw [← hX]
  rw [conQ6 h1 h2 h3 h4 h5] at hX
  have HX := Lib.hid hX
  have N0 := Lib.hid h1
  have N1 := Lib.hid h2
  have N2 := Lib.hid h3
  have N3 := Lib.hid h4
  have N4 := Lib.hid h5
  have HC := Lib.hid (cat_new h)
  clear h hX h1 h2 h3 h4 h5
  go_enter Tryz.func82, Tryz.ntmps82
  go_wp2_with fail
  refine (took_no ⟨#[112, 114, 111, 100, 117, 99, 116]⟩ (by decide) N0.out HC.out.k.rd).mono ?_
  rintro e wn0 ⟨rfl, hP, hB⟩
  have HC0 := Lib.hid (show CAt w wn0 g n bl ol cl nb pv m cv T len (conOf 0) r (.slice none 0 0) (.slice none 0 0) (.slice none 0 0) from HC.out.moved hP hB)
  clear hP hB
  go_wp2_with fail
  refine (took_no ⟨#[105, 102, 102]⟩ (by decide) N1.out HC0.out.k.rd).mono ?_
  rintro e wn1 ⟨rfl, hP, hB⟩
  have HC1 := Lib.hid (show CAt w wn1 g n bl ol cl nb pv m cv T len (conOf 0) r (.slice none 0 0) (.slice none 0 0) (.slice none 0 0) from HC0.out.moved hP hB)
  clear hP hB
  go_wp2_with fail
  refine (took_no ⟨#[101, 108, 101, 109, 101, 110, 116]⟩ (by decide) N2.out HC1.out.k.rd).mono ?_
  rintro e wn2 ⟨rfl, hP, hB⟩
  have HC2 := Lib.hid (show CAt w wn2 g n bl ol cl nb pv m cv T len (conOf 0) r (.slice none 0 0) (.slice none 0 0) (.slice none 0 0) from HC1.out.moved hP hB)
  clear hP hB
  go_wp2_with fail
  refine (took_no ⟨#[100, 105, 102, 102, 101, 114, 101, 110, 116]⟩ (by decide) N3.out HC2.out.k.rd).mono ?_
  rintro e wn3 ⟨rfl, hP, hB⟩
  have HC3 := Lib.hid (show CAt w wn3 g n bl ol cl nb pv m cv T len (conOf 0) r (.slice none 0 0) (.slice none 0 0) (.slice none 0 0) from HC2.out.moved hP hB)
  clear hP hB
  go_wp2_with fail
  refine (took_no ⟨#[116, 97, 98, 108, 101]⟩ (by decide) N4.out HC3.out.k.rd).mono ?_
  rintro e wn4 ⟨rfl, hP, hB⟩
  have HC4 := Lib.hid (show CAt w wn4 g n bl ol cl nb pv m cv T len (conOf 0) r (.slice none 0 0) (.slice none 0 0) (.slice none 0 0) from HC3.out.moved hP hB)
  clear hP hB
  have HV := Lib.hid (show CAt w (wn4.setCell ⟨w.heap.size + 1, 0, none⟩ (.int .i64 1)) g n bl ol cl nb pv m cv T len (conOf 1) r (.slice none 0 0) (.slice none 0 0) (.slice none 0 0) from HC4.out.setKind)
  have HXY := Lib.hid (show X = sumQ K (conOf 1) T r from HX.out)
  have b0 := HC4.out.k.box.cell 0 rfl
  have f0 := HC4.out.k.box.frozen 0
  have HSL := Lib.hid (show (conOf 1).vars.length ≤ 1 by decide)
  obtain ⟨wb, hwb⟩ : ∃ wb, wb = (wn4.setCell ⟨w.heap.size + 1, 0, none⟩ (.int .i64 1)) := ⟨_, rfl⟩
  rw [← hwb] at HV
  have SX := Lib.hid (sum_any K HV.out.tight hv hm hK (by omega) (by have := HSL.out; omega) (by simp [conOf]))
  rw [← HXY.out] at SX
  go_wp2_with fail
  rw [← hwb]
  clear hwb b0 f0
  refine SX.out.mono ?_
  rintro e w3 ⟨hB, ⟨hw, rfl, y1, y2, hk⟩ | ⟨hw, rfl⟩⟩
  rotate_left
  · have HG := Lib.hid (ends_no (T := T) (len := len) (n := n) (bl := bl) (ol := ol) (cl := cl) (base := nb) (pv := pv) (m := m) (cv := cv) (g := g) (x := X) (V := ConE w X.1) (tight_but HV.out.k.but hB) hw)
    unfold gone at HG ⊢
    clear hw hB
    go_wp2_with fail
    exact ⟨rfl, HG.out⟩
  obtain ⟨p1, l1, k1, e1⟩ : ∃ p l k, y1 = .slice p l k := by
    obtain ⟨p, k, e⟩ := hk.own.o1.shape
    exact ⟨p, _, k, e⟩
  subst e1
  obtain ⟨p2, l2, k2, e2⟩ : ∃ p l k, y2 = .slice p l k := by
    obtain ⟨p, k, e⟩ := hk.own.o2.shape
    exact ⟨p, _, k, e⟩
  subst e2
  have HN0 := Lib.hid (HV.out.back hk)
  obtain ⟨cx, rx⟩ := X
  obtain ⟨kk, hkk⟩ : ∃ kk, kk = cx.kind := ⟨_, rfl⟩
  obtain ⟨rr, hrr⟩ : ∃ rr, rr = cx.rel := ⟨_, rfl⟩
  obtain ⟨tt, htt⟩ : ∃ tt, tt = cx.const := ⟨_, rfl⟩
  have HKK := Lib.hid (And.intro hkk (And.intro hrr htt))
  have n0 := HN0.out.k.box.cell 0 rfl
  have n1 := HN0.out.k.box.cell 1 rfl
  have n2 := HN0.out.k.box.cell 2 rfl
  have n3 := HN0.out.k.box.cell 3 rfl
  have n4 := HN0.out.k.box.cell 4 rfl
  have n5 := HN0.out.k.box.cell 5 rfl
  simp only at n0 n1 n2 n3 n4 n5
  rw [← hkk] at n0
  rw [← hrr] at n3
  rw [← htt] at n4
  have q0 := HN0.out.res.cell 0 rfl
  have g0 := HN0.out.res.frozen 0
  have q1 := HN0.out.res.cell 1 rfl
  have g1 := HN0.out.res.frozen 1
  have q2 := HN0.out.res.cell 2 rfl
  have g2 := HN0.out.res.frozen 2
  have q3 := HN0.out.res.cell 3 rfl
  have g3 := HN0.out.res.frozen 3
  have q4 := HN0.out.res.cell 4 rfl
  have g4 := HN0.out.res.frozen 4
  have q5 := HN0.out.res.cell 5 rfl
  have g5 := HN0.out.res.frozen 5
  clear hB hw hk hkk hrr htt
  go_wp2_with fail
  (try simp only [Exit.inBlock, Exit.then])
  refine bodyPost_ret (results_con rfl _ _ w.heap.size (.int .i64 kk) (.slice p1 l1 k1) (.slice p2 l2 k2) (.int .i64 rr) (.int .i64 tt) (.slice none 0 0) rfl ?c0a ?c1a ?c2a ?c3a ?c4a ?c5a) rfl ?resta
  case c0a => go_simp
  case c1a => go_simp
  case c2a => go_simp
  case c3a => go_simp
  case c4a => go_simp
  case c5a => go_simp
  case resta =>
    obtain ⟨e1, e2, e3⟩ := HN0.out.ends (x0 := .int .i64 kk) (x1 := .slice p1 l1 k1) (x2 := .slice p2 l2 k2) (x3 := .int .i64 rr) (x4 := .int .i64 tt) (x5 := .slice none 0 0)
    exact ⟨e3, .inl ⟨HN0.out.k.rd.ok, e1, _, _, _, by rw [HKK.out.1, HKK.out.2.1, HKK.out.2.2], e2⟩⟩
end
end Go.Proofs.YtkgieaoahijheaaGreatDoor.Pp
namespace Go.Proofs.YtkgieaoahijheaaGreatDoor.Pp
open Go.RowKit
open Sc (Tok Cells str noTok)
open Pa
set_option maxRecDepth 100000

section
variable {w w' : World} {g n bl ol cl nb : Nat} {pv : Option Addr} {m cv : Nat} {T : List Tok} {len : Nat} {r : Rd}
theorem conP_any (K : Nat) (h : PAt w g n bl ol cl nb pv m cv T len r) (hv : ∀ t ∈ T, t.value ≤ 2000000000000) (hm : m ≤ 1000000) (hK : n < K) (hn : n ≤ 9000) :
    Calls Tryz.prog 82 #[.pointer (some ⟨g, 0, none⟩)] w (Ends w (fun i => i = g) g n bl ol cl nb pv m cv T len (conQ K T r) (ConE w (conQ K T r).1)) := by
  by_cases h1 : textO (next T r) = tProduct
  · exact con_product K h hv hm hK hn h1
  by_cases h2 : textO (next T r) = tIff
  · exact con_iff K h hv hm hK hn h2
  by_cases h3 : textO (next T r) = tElement
  · exact con_element K h hv hm hK hn h3
  by_cases h4 : textO (next T r) = tDifferent
  · exact con_different K h hv hm hK hn h4
  by_cases h5 : textO (next T r) = tTable
  · exact con_table K h hv hm hK hn h5
  exact con_sum K h hv hm hK hn h1 h2 h3 h4 h5
end
end Go.Proofs.YtkgieaoahijheaaGreatDoor.Pp
