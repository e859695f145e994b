/-
  What awake of the law answers: true.
-/
import Derived.Test.YthoakeekfajhaaaMAwN
import Derived.Test.YthoakeekfajhaaaRInv
namespace Go.Proofs.Ythoakeekfajhaaa
open Go.RowKit

theorem name_a1 (w : World) : Calls Try.prog 11 #[.string ⟨#[97, 95, 49]⟩] w fun e w' => e = .returned (.bool true) ∧ w' = w := by
  have h := pname_any ⟨#[97, 95, 49]⟩ w (by decide)
  rw [show nameL (txt ⟨#[97, 95, 49]⟩) = true by decide] at h
  exact h
theorem name_goal (w : World) : Calls Try.prog 11 #[.string ⟨#[103, 111, 97, 108]⟩] w fun e w' => e = .returned (.bool false) ∧ w' = w := by
  have h := pname_any ⟨#[103, 111, 97, 108]⟩ w (by decide)
  rw [show nameL (txt ⟨#[103, 111, 97, 108]⟩) = false by decide] at h
  exact h
theorem name_1a (w : World) : Calls Try.prog 11 #[.string ⟨#[49, 97]⟩] w fun e w' => e = .returned (.bool false) ∧ w' = w := by
  have h := pname_any ⟨#[49, 97]⟩ w (by decide)
  rw [show nameL (txt ⟨#[49, 97]⟩) = false by decide] at h
  exact h
theorem x_small : txt ⟨#[120]⟩ = [120] := rfl
theorem y_small : txt ⟨#[121]⟩ = [121] := rfl
theorem SmallAt.mx {w : World} {n : Nat} (h : SmallAt w n ⟨#[120]⟩) : rModel w [.slice (some ⟨n + 3, 0, none⟩) 2 2, .slice (some ⟨n + 6, 0, none⟩) 1 1] (smallP [120]) := h.model
theorem SmallAt.my {w : World} {n : Nat} (h : SmallAt w n ⟨#[121]⟩) : rModel w [.slice (some ⟨n + 3, 0, none⟩) 2 2, .slice (some ⟨n + 6, 0, none⟩) 1 1] (smallP [121]) := h.model
theorem few_x : Few (smallP [120]) := few_small _ (by simp)
theorem few_y : Few (smallP [121]) := few_small _ (by simp)
theorem cx {w : World} {n : Nat} (h : SmallAt w n ⟨#[120]⟩) : Calls Try.prog 9 #[.agg #[.slice (some ⟨n + 3, 0, none⟩) 2 2, .slice (some ⟨n + 6, 0, none⟩) 1 1]] w fun e w' => e = .returned (.int .i64 0) ∧ Below w.heap.size w w' := by
  have := check_any h.mx few_x
  rw [check_x] at this
  exact this
theorem cy {w : World} {n : Nat} (h : SmallAt w n ⟨#[121]⟩) : Calls Try.prog 9 #[.agg #[.slice (some ⟨n + 3, 0, none⟩) 2 2, .slice (some ⟨n + 6, 0, none⟩) 1 1]] w fun e w' => e = .returned (.int .i64 8) ∧ Below w.heap.size w w' := by
  have := check_any h.my few_y
  rw [check_y] at this
  exact this
theorem cnone (w : World) : Calls Try.prog 9 #[.agg #[.slice none 0 0, .slice none 0 0]] w fun e w' => e = .returned (.int .i64 2) ∧ Below w.heap.size w w' := by
  have := check_any (none_model w) few_none
  rw [check_none] at this
  exact this
theorem rx {w : World} {n : Nat} (vs : Int) (b : Bool) (hb : rightC conS vs = b) (h : SmallAt w n ⟨#[120]⟩) : Calls Try.prog 13 #[.agg #[.int .i64 1, .slice (some ⟨n + 4, 0, none⟩) 2 2, .slice (some ⟨n + 5, 0, none⟩) 2 2, .int .i64 0, .int .i64 0, .slice none 0 0], .int .i64 vs] w fun e w' => e = .returned (.bool b) ∧ Below w.heap.size w w' := by
  have := pright_any vs h.con (by simp [Short, conS])
  rw [hb] at this
  exact this
theorem sxx {w : World} {n k : Nat} (h : SmallAt w n ⟨#[120]⟩) (h' : SmallAt w k ⟨#[120]⟩) : Calls Try.prog 21 #[.agg #[.slice (some ⟨n + 3, 0, none⟩) 2 2, .slice (some ⟨n + 6, 0, none⟩) 1 1], .agg #[.slice (some ⟨k + 3, 0, none⟩) 2 2, .slice (some ⟨k + 6, 0, none⟩) 1 1]] w fun e w' => e = .returned (.bool true) ∧ Below w.heap.size w w' := by
  have := psame_any h.mx h'.mx few_x few_x
  rw [same_xx] at this
  exact this
theorem sxy {w : World} {n k : Nat} (h : SmallAt w n ⟨#[120]⟩) (h' : SmallAt w k ⟨#[121]⟩) : Calls Try.prog 21 #[.agg #[.slice (some ⟨n + 3, 0, none⟩) 2 2, .slice (some ⟨n + 6, 0, none⟩) 1 1], .agg #[.slice (some ⟨k + 3, 0, none⟩) 2 2, .slice (some ⟨k + 6, 0, none⟩) 1 1]] w fun e w' => e = .returned (.bool false) ∧ Below w.heap.size w w' := by
  have := psame_any h.mx h'.my few_x few_y
  rw [same_xy] at this
  exact this
theorem nx {w : World} {n : Nat} (h : SmallAt w n ⟨#[120]⟩) : Calls Try.prog 23 #[.agg #[.slice (some ⟨n + 3, 0, none⟩) 2 2, .slice (some ⟨n + 6, 0, none⟩) 1 1]] w fun e w' => e = .returned (.int .i64 18) ∧ Below w.heap.size w w' := by
  have := pnodes_any h.mx few_x
  rw [nodes_x] at this
  exact this
theorem vx {w : World} {n : Nat} (h : SmallAt w n ⟨#[120]⟩) : Calls Try.prog 16 #[.agg #[.slice (some ⟨n + 3, 0, none⟩) 2 2, .slice (some ⟨n + 6, 0, none⟩) 1 1]] w fun e w' => ∃ (b off c : Nat) (s : ByteArray) (u : Value), e = .returned (.slice (some ⟨b, off, none⟩) 2 c) ∧ w'.cell? ⟨b, off + 2, none⟩ = some (.string s) ∧ w'.cell? ⟨b, off + 2 + 1, none⟩ = some u ∧ txt s = [120] ∧ Below w.heap.size w w' := by
  refine (pvars_any h.mx few_x).mono ?_
  rintro e w' ⟨v, rfl, hs, hB⟩
  obtain ⟨p, b, off, c, len, rfl, h3⟩ := hs.open_
  have hl := h3.long
  rw [vars_small] at hl h3
  have hl : len = 2 := hl
  subst hl
  obtain rfl := h3.at_ (by omega)
  obtain ⟨d, s, u, ex, a0, a1, hsn, _⟩ := decl_at h3 (k := 1) (by omega)
  cases ex
  exact ⟨b, off, c, s, u, rfl, a0, a1, hsn, hB⟩
theorem ex_ {w : World} {n : Nat} (h : SmallAt w n ⟨#[120]⟩) : Calls Try.prog 19 #[.agg #[.slice (some ⟨n + 3, 0, none⟩) 2 2, .slice (some ⟨n + 6, 0, none⟩) 1 1]] w fun e w' => ∃ v, e = .returned v ∧ Slc rNum 1 w' v [1, 2] ∧ Below w.heap.size w w' := by
  have := pends_any h.mx (by simp [smallP]) (fun x hx => by have := few_x.vars x hx; omega)
  rw [ends_x] at this
  exact this
theorem two_ints (w : World) : Slc rNum 1 (w.alloc (.cells #[.int .i64 1, .int .i64 2] 3)) (.slice (some ⟨w.heap.size, 0, none⟩) 2 2) [1, 2] :=
  two_slc (cs := [.int .i64 1]) (cs' := [.int .i64 2]) rfl rfl (fun j hj => match j, hj with | 0, _ => by rw [World.cell?_alloc_mark]; rfl) (fun j hj => match j, hj with | 0, _ => by rw [World.cell?_alloc_mark]; rfl) ⟨rfl, by unfold Fit; omega⟩ ⟨rfl, by unfold Fit; omega⟩ (by omega)

theorem field25 (p q : Option Addr) (l c l1 c1 : Nat) (W : World) : Sem.run Try.prog (Instr.field 25 (.agg #[.slice p l c, .slice q l1 c1]) 1) W = .ok (.slice q l1 c1) W := by kernel_rfl
theorem same_12 {w : World} {u v : Value} (hx : Slc rNum 1 w u [1, 2]) (hy : Slc rNum 1 w v [1, 2]) : Calls Try.prog 18 #[u, v] w fun e w' => e = .returned (.bool true) ∧ ∃ n, w' = w.drewN n := by
  have := nsame_any hx hy (by simp) (by simp)
  rw [decide_eq_true rfl] at this
  exact this
theorem below_one (w : World) (o : Obj) : Below w.heap.size w (w.alloc o) := (Below.refl _ w).alloc (Nat.le_refl _) _

/-- what an operation's value is, in whatever memory comes behind -/
structure Fact where
  p : World → Value → Prop
  mono : ∀ (u u' : World) (v : Value), Below u.heap.size u u' → p u v → p u' v
def constF (c : Value) : Fact := ⟨fun _ v => v = c, fun _ _ _ _ h => h⟩
def mdlF : Fact := ⟨fun u v => ∃ n, v = .agg #[.slice (some ⟨n + 3, 0, none⟩) 2 2, .slice (some ⟨n + 6, 0, none⟩) 1 1] ∧ SmallAt u n ⟨#[120]⟩, fun _ _ _ hB ⟨n, h1, h2⟩ => ⟨n, h1, h2.below hB⟩⟩
def gslF : Fact := ⟨fun u v => ∃ n, v = .slice (some ⟨n + 6, 0, none⟩) 1 1 ∧ SmallAt u n ⟨#[120]⟩, fun _ _ _ hB ⟨n, h1, h2⟩ => ⟨n, h1, h2.below hB⟩⟩
def ptrF : Fact := ⟨fun u v => ∃ n, v = .pointer (some ⟨n + 6, 0, none⟩) ∧ SmallAt u n ⟨#[120]⟩, fun _ _ _ hB ⟨n, h1, h2⟩ => ⟨n, h1, h2.below hB⟩⟩
def conF_ : Fact := ⟨fun u v => ∃ n, v = .agg #[.int .i64 1, .slice (some ⟨n + 4, 0, none⟩) 2 2, .slice (some ⟨n + 5, 0, none⟩) 2 2, .int .i64 0, .int .i64 0, .slice none 0 0] ∧ SmallAt u n ⟨#[120]⟩, fun _ _ _ hB ⟨n, h1, h2⟩ => ⟨n, h1, h2.below hB⟩⟩
def intsF : Fact := ⟨fun u v => Slc rNum 1 u v [1, 2], fun _ _ _ hB h => h.below rNum_stays hB⟩
/-- what stays throughout: the first model, and the list of its variables -/
structure StA (W : World) (B n lb lo : Nat) (ls : ByteArray) (u : World) : Prop where
  c0 : u.cell? ⟨B, 0, none⟩ = some (.slice (some ⟨n + 3, 0, none⟩) 2 2)
  c1 : u.cell? ⟨B, 1, none⟩ = some (.slice (some ⟨n + 6, 0, none⟩) 1 1)
  l0 : u.cell? ⟨lb, lo + 2, none⟩ = some (.string ls)
  small : SmallAt u n ⟨#[121]⟩
  below : Below W.heap.size W u
theorem StA.on {W u u' : World} {B n lb lo : Nat} {ls : ByteArray} (h : StA W B n lb lo ls u) (hB : Below u.heap.size u u') : StA W B n lb lo ls u' :=
  ⟨cell_stays hB h.c0, cell_stays hB h.c1, cell_stays hB h.l0, h.small.below hB, h.below.trans (hB.mono h.below.size)⟩
def factsA (n lb lo lc : Nat) (ls : ByteArray) : List Fact := [mdlF, constF (.int .i64 0), constF (.bool true), constF (.bool true), constF (.agg #[.slice (some ⟨n + 3, 0, none⟩) 2 2, .slice (some ⟨n + 6, 0, none⟩) 1 1]), constF (.int .i64 8), constF (.bool true), constF (.bool true), constF (.bool true), constF (.agg #[.slice none 0 0, .slice none 0 0]), constF (.int .i64 2), constF (.bool true), constF (.bool true), constF (.bool true), constF (.bool true), constF (.bool true), constF (.bool true), constF (.bool false), constF (.bool true), constF (.bool true), constF (.bool true), constF (.bool false), constF (.bool true), constF (.bool true), constF (.bool true), mdlF, gslF, ptrF, conF_, constF (.bool true), constF (.bool true), constF (.bool true), mdlF, gslF, ptrF, conF_, constF (.bool false), constF (.bool true), constF (.bool true), constF (.bool true), mdlF, intsF, intsF, constF (.bool true), constF (.bool true), constF (.bool true), constF (.slice (some ⟨lb, lo, none⟩) 2 lc), constF (.int .i64 2), constF (.bool true), constF (.bool true), constF (.bool true), constF (.slice (some ⟨lb, lo, none⟩) 2 lc), constF (.pointer (some ⟨lb, lo + 2, none⟩)), constF (.pointer (some ⟨lb, lo + 2, none⟩)), constF (.string ls), constF (.bool true), constF (.bool true), constF (.bool true), mdlF, mdlF, constF (.bool true), constF (.bool true), constF (.bool true), mdlF, constF (.agg #[.slice (some ⟨n + 3, 0, none⟩) 2 2, .slice (some ⟨n + 6, 0, none⟩) 1 1]), constF (.bool false), constF (.bool true), constF (.bool true), constF (.bool true), mdlF, constF (.int .i64 18), constF (.bool true), constF (.bool true), constF (.bool true)]
def factAt (n lb lo lc : Nat) (ls : ByteArray) (i : Nat) : Fact := (factsA n lb lo lc ls).getD i ⟨fun _ _ => True, fun _ _ _ _ _ => trivial⟩
/-- what has come up is as it must be -/
structure JA (W : World) (B n lb lo lc : Nat) (ls : ByteArray) (g : Nat → Value) (l : Nat → Bool) (u : World) : Prop where
  base : StA W B n lb lo ls u
  f : ∀ i, l i = true → (factAt n lb lo lc ls i).p u (g i)
def setG (g : Nat → Value) (i : Nat) (z : Value) : Nat → Value := fun j => if j = i then z else g j
theorem JA.set {W : World} {B n lb lo lc : Nat} {ls : ByteArray} {g : Nat → Value} {l : Nat → Bool} {u u' : World} (S : JA W B n lb lo lc ls g l u) (i : Nat) (z : Value) (hB : Below u.heap.size u u') (hz : (factAt n lb lo lc ls i).p u' z) : JA W B n lb lo lc ls (setG g i z) (upd l i) u' :=
  ⟨S.base.on hB, fun j hj => by
    by_cases e : j = i
    · subst e
      rw [show setG g j z j = z from if_pos rfl]
      exact hz
    · rw [show setG g i z j = g j from if_neg e]
      exact (factAt n lb lo lc ls j).mono u u' _ hB (S.f j (upd_old e hj))⟩
def putA (s1 s2 s3 s4 s5 s6 s7 s8 s9 s10 s11 s12 : Value) (g : Nat → Value) (_ : Array Value) : Array Value := #[g 73, s1, s2, s3, s4, s5, s6, s7, s8, s9, s10, s11, s12, g 0, g 1, g 2, g 3, g 4, g 5, g 6, g 7, g 8, g 9, g 10, g 11, g 12, g 13, g 14, g 15, g 16, g 17, g 18, g 19, g 20, g 21, g 22, g 23, g 24, g 25, g 26, g 27, g 28, g 29, g 30, g 31, g 32, g 33, g 34, g 35, g 36, g 37, g 38, g 39, g 40, g 41, g 42, g 43, g 44, g 45, g 46, g 47, g 48, g 49, g 50, g 51, g 52, g 53, g 54, g 55, g 56, g 57, g 58, g 59, g 60, g 61, g 62, g 63, g 64, g 65, g 66, g 67, g 68, g 69, g 70, g 71, g 72]

set_option maxRecDepth 100000 in
set_option maxHeartbeats 8000000 in
theorem awake_any (w : World) : Calls Try.prog 6 #[] w fun e w' => e = .returned (.bool true) ∧ Below w.heap.size w w' := by
  go_enter Try.func6, Try.ntmps6
  go_wp2_with fail
  refine (small_any _).mono ?_
  rintro e w1 ⟨n, rfl, hs, hge, hB⟩
  obtain ⟨W0, hW0⟩ : ∃ W0, W0 = w1.alloc (.cells #[.slice (some ⟨n + 3, 0, none⟩) 2 2, .slice (some ⟨n + 6, 0, none⟩) 1 1] 25) := ⟨_, rfl⟩
  have hB0 : Below w1.heap.size w1 W0 := by rw [hW0]; exact (Below.refl _ w1).alloc (Nat.le_refl _) _
  have m0 : W0.cell? ⟨w1.heap.size, 0, none⟩ = some (.slice (some ⟨n + 3, 0, none⟩) 2 2) := by rw [hW0]; go_simp
  have m1 : W0.cell? ⟨w1.heap.size, 1, none⟩ = some (.slice (some ⟨n + 6, 0, none⟩) 1 1) := by rw [hW0]; go_simp
  have hs := hs.below hB0
  have hn2 : n + 2 < w1.heap.size := World.block_lt_of_cell? w1 _ (by assumption : SmallAt w1 n ⟨#[120]⟩).x0
  obtain ⟨B, hBe⟩ : ∃ B, B = w1.heap.size := ⟨_, rfl⟩
  have HW := Lib.hid hW0
  have HB0 := Lib.hid (hB.trans (hB0.mono hB.size))
  have x0 := hs.x0
  have xf := hs.xf
  have b4 := hs.b4
  have HS := Lib.hid hs
  have HG := Lib.hid hge
  have HN := Lib.hid hn2
  have HE := Lib.hid hBe
  clear hs hge hB hB0 hW0 hn2 hBe
  go_upto_region 2 with fail
  rw [← HW.out]
  rw [← HE.out] at m0 m1 ⊢
  have HC := Lib.hid (And.intro m0 m1)
  go_upto_region 3 with fail
  obtain ⟨M, hM⟩ : ∃ M, M = W0.setCell ⟨n + 2, 0, none⟩ (.string ⟨#[121]⟩) := ⟨_, rfl⟩
  rw [← hM]
  have hsm : SmallAt M n ⟨#[121]⟩ := by rw [hM]; exact HS.out.name _
  have hbm : Below w.heap.size w M := by rw [hM]; exact HB0.out.setCell (by have := HG.out; show w.heap.size ≤ n + 2; omega) _
  have hne : B ≠ n + 2 := by have := HN.out; have := HE.out; omega
  have c0 : M.cell? ⟨B, 0, none⟩ = some (.slice (some ⟨n + 3, 0, none⟩) 2 2) := by rw [hM]; exact cell_set HC.out.1 hne
  have c1 : M.cell? ⟨B, 1, none⟩ = some (.slice (some ⟨n + 6, 0, none⟩) 1 1) := by rw [hM]; exact cell_set HC.out.2 hne
  have HSM := Lib.hid hsm
  have HBM := Lib.hid hbm
  have HC := Lib.hid (And.intro c0 c1)
  clear m0 m1 x0 xf b4 hsm hbm hne c0 c1 hM
  go_wp2_with fail
  refine (small_any _).mono ?_
  rintro e w2 ⟨na, rfl, hs, _, hB⟩
  have HB2 := Lib.hid hB
  have HSA := Lib.hid hs
  clear hs hB
  go_wp2_with fail
  refine (vx HSA.out).mono ?_
  rintro e w3 ⟨lb, lo, lc, ls, lu, rfl, l0, l1, lt, hB⟩
  have hbm := HB2.out.trans (hB.mono HB2.out.size)
  have h0 : StA w B n lb lo ls w3 := ⟨cell_stays hbm HC.out.1, cell_stays hbm HC.out.2, l0, HSM.out.below hbm, HBM.out.trans (hbm.mono HBM.out.size)⟩
  have H0 := Lib.hid h0
  have hq := eql_txt ls ⟨#[120]⟩
  rw [lt, x_small, decide_eq_true rfl] at hq
  clear l0 l1 lt hB hbm h0 HB2 HSA
  go_upto_region 4 with fail
  dsimp only [List.append]
  have hfl := field25
  refine wp_region_at (γ := Nat → Value) (fun g l u => JA w B n lb lo lc ls g l u) (putA _ _ _ _ _ _ _ _ _ _ _ _) (fun i => if i = 73 then .bool false else undef) (by kernel_rfl) (by kernel_rfl) (by rfl) ⟨H0.out.on (below_drewN (n := 1) (Below.refl _ _)), fun i h => by cases h⟩ ⟨?s0, ?s1, ?s2, ?s3, ?s4, ?s5, ?s6, ?s7, ?s8, ?s9, ?s10, ?s11, ?s12, ?s13, ?s14, ?s15, ?s16, ?s17, ?s18, ?s19, ?s20, ?s21, ?s22, ?s23, ?s24, ?s25, ?s26, ?s27, ?s28, ?s29, ?s30, ?s31, ?s32, ?s33, ?s34, ?s35, ?s36, ?s37, ?s38, ?s39, ?s40, ?s41, ?s42, ?s43, ?s44, ?s45, ?s46, ?s47, ?s48, ?s49, ?s50, ?s51, ?s52, ?s53, ?s54, ?s55, ?s56, ?s57, ?s58, ?s59, ?s60, ?s61, ?s62, ?s63, ?s64, ?s65, ?s66, ?s67, ?s68, ?s69, ?s70, ?s71, ?s72, ?s73, trivial⟩ ?hd
  case s0 =>
    intro l g u hl haf S K hK
    refine ⟨?_⟩
    simp only [putA]
    go_simp
    refine (small_any _).mono ?_
    rintro e u2 ⟨k, rfl, hs, _, hB⟩
    have nx : K ⟨#[g 73, _, _, _, _, _, _, _, _, _, _, _, _, _, g 1, g 2, g 3, g 4, g 5, g 6, g 7, g 8, g 9, g 10, g 11, g 12, g 13, g 14, g 15, g 16, g 17, g 18, g 19, g 20, g 21, g 22, g 23, g 24, g 25, g 26, g 27, g 28, g 29, g 30, g 31, g 32, g 33, g 34, g 35, g 36, g 37, g 38, g 39, g 40, g 41, g 42, g 43, g 44, g 45, g 46, g 47, g 48, g 49, g 50, g 51, g 52, g 53, g 54, g 55, g 56, g 57, g 58, g 59, g 60, g 61, g 62, g 63, g 64, g 65, g 66, g 67, g 68, g 69, g 70, g 71, g 72], _⟩ _ := hK.out (setG g 0 (.agg #[.slice (some ⟨k + 3, 0, none⟩) 2 2, .slice (some ⟨k + 6, 0, none⟩) 1 1])) u2 (S.set 0 (.agg #[.slice (some ⟨k + 3, 0, none⟩) 2 2, .slice (some ⟨k + 6, 0, none⟩) 1 1]) hB ⟨k, rfl, hs⟩)
    clear hK
    exact nx
  case s1 =>
    intro l g u hl haf S K hK
    obtain ⟨n1, hv1, hs⟩ := S.f 0 (haf 0 (by kernel_rfl))
    refine ⟨?_⟩
    simp only [putA, hv1]
    go_simp
    refine (cx hs).mono ?_
    rintro e u2 ⟨rfl, hB⟩
    have nx : K ⟨#[g 73, _, _, _, _, _, _, _, _, _, _, _, _, g 0, _, g 2, g 3, g 4, g 5, g 6, g 7, g 8, g 9, g 10, g 11, g 12, g 13, g 14, g 15, g 16, g 17, g 18, g 19, g 20, g 21, g 22, g 23, g 24, g 25, g 26, g 27, g 28, g 29, g 30, g 31, g 32, g 33, g 34, g 35, g 36, g 37, g 38, g 39, g 40, g 41, g 42, g 43, g 44, g 45, g 46, g 47, g 48, g 49, g 50, g 51, g 52, g 53, g 54, g 55, g 56, g 57, g 58, g 59, g 60, g 61, g 62, g 63, g 64, g 65, g 66, g 67, g 68, g 69, g 70, g 71, g 72], _⟩ _ := hK.out (setG g 1 (.int .i64 0)) u2 (S.set 1 (.int .i64 0) hB rfl)
    clear hK
    simp only [hv1] at nx
    exact nx
  case s2 =>
    intro l g u hl haf S K hK
    have hd1 : g 1 = .int .i64 0 := S.f 1 (haf 1 (by kernel_rfl))
    refine ⟨?_⟩
    simp only [putA, hd1]
    go_simp
    have nx : K ⟨#[g 73, _, _, _, _, _, _, _, _, _, _, _, _, g 0, g 1, _, g 3, g 4, g 5, g 6, g 7, g 8, g 9, g 10, g 11, g 12, g 13, g 14, g 15, g 16, g 17, g 18, g 19, g 20, g 21, g 22, g 23, g 24, g 25, g 26, g 27, g 28, g 29, g 30, g 31, g 32, g 33, g 34, g 35, g 36, g 37, g 38, g 39, g 40, g 41, g 42, g 43, g 44, g 45, g 46, g 47, g 48, g 49, g 50, g 51, g 52, g 53, g 54, g 55, g 56, g 57, g 58, g 59, g 60, g 61, g 62, g 63, g 64, g 65, g 66, g 67, g 68, g 69, g 70, g 71, g 72], _⟩ _ := hK.out (setG g 2 (.bool true)) u (S.set 2 (.bool true) (Below.refl _ u) rfl)
    clear hK
    simp only [hd1] at nx
    exact nx
  case s3 =>
    intro l g u hl haf S K hK
    have hd1 : g 2 = .bool true := S.f 2 (haf 2 (by kernel_rfl))
    refine ⟨?_⟩
    simp only [putA, hd1]
    go_simp
    have nx : K ⟨#[g 73, _, _, _, _, _, _, _, _, _, _, _, _, g 0, g 1, g 2, _, g 4, g 5, g 6, g 7, g 8, g 9, g 10, g 11, g 12, g 13, g 14, g 15, g 16, g 17, g 18, g 19, g 20, g 21, g 22, g 23, g 24, g 25, g 26, g 27, g 28, g 29, g 30, g 31, g 32, g 33, g 34, g 35, g 36, g 37, g 38, g 39, g 40, g 41, g 42, g 43, g 44, g 45, g 46, g 47, g 48, g 49, g 50, g 51, g 52, g 53, g 54, g 55, g 56, g 57, g 58, g 59, g 60, g 61, g 62, g 63, g 64, g 65, g 66, g 67, g 68, g 69, g 70, g 71, g 72], _⟩ _ := hK.out (setG g 3 (.bool true)) u (S.set 3 (.bool true) (Below.refl _ u) rfl)
    clear hK
    simp only [hd1] at nx
    exact nx
  case s4 =>
    intro l g u hl haf S K hK
    have hg : g 3 = .bool true := S.f 3 (haf 3 (by kernel_rfl))
    have lc0 := S.base.c0
    have lc1 := S.base.c1
    have ll0 := S.base.l0
    refine ⟨?_⟩
    simp only [putA, hg]
    go_simp
    have nx : K ⟨#[g 73, _, _, _, _, _, _, _, _, _, _, _, _, g 0, g 1, g 2, g 3, _, g 5, g 6, g 7, g 8, g 9, g 10, g 11, g 12, g 13, g 14, g 15, g 16, g 17, g 18, g 19, g 20, g 21, g 22, g 23, g 24, g 25, g 26, g 27, g 28, g 29, g 30, g 31, g 32, g 33, g 34, g 35, g 36, g 37, g 38, g 39, g 40, g 41, g 42, g 43, g 44, g 45, g 46, g 47, g 48, g 49, g 50, g 51, g 52, g 53, g 54, g 55, g 56, g 57, g 58, g 59, g 60, g 61, g 62, g 63, g 64, g 65, g 66, g 67, g 68, g 69, g 70, g 71, g 72], _⟩ _ := hK.out (setG g 4 (.agg #[.slice (some ⟨n + 3, 0, none⟩) 2 2, .slice (some ⟨n + 6, 0, none⟩) 1 1])) u (S.set 4 (.agg #[.slice (some ⟨n + 3, 0, none⟩) 2 2, .slice (some ⟨n + 6, 0, none⟩) 1 1]) (Below.refl _ u) rfl)
    clear hK
    simp only [hg] at nx
    exact nx
  case s5 =>
    intro l g u hl haf S K hK
    have hg : g 3 = .bool true := S.f 3 (haf 3 (by kernel_rfl))
    have hd1 : g 4 = .agg #[.slice (some ⟨n + 3, 0, none⟩) 2 2, .slice (some ⟨n + 6, 0, none⟩) 1 1] := S.f 4 (haf 4 (by kernel_rfl))
    refine ⟨?_⟩
    simp only [putA, hg, hd1]
    go_simp
    refine (cy S.base.small).mono ?_
    rintro e u2 ⟨rfl, hB⟩
    have nx : K ⟨#[g 73, _, _, _, _, _, _, _, _, _, _, _, _, g 0, g 1, g 2, g 3, g 4, _, g 6, g 7, g 8, g 9, g 10, g 11, g 12, g 13, g 14, g 15, g 16, g 17, g 18, g 19, g 20, g 21, g 22, g 23, g 24, g 25, g 26, g 27, g 28, g 29, g 30, g 31, g 32, g 33, g 34, g 35, g 36, g 37, g 38, g 39, g 40, g 41, g 42, g 43, g 44, g 45, g 46, g 47, g 48, g 49, g 50, g 51, g 52, g 53, g 54, g 55, g 56, g 57, g 58, g 59, g 60, g 61, g 62, g 63, g 64, g 65, g 66, g 67, g 68, g 69, g 70, g 71, g 72], _⟩ _ := hK.out (setG g 5 (.int .i64 8)) u2 (S.set 5 (.int .i64 8) hB rfl)
    clear hK
    simp only [hg, hd1] at nx
    exact nx
  case s6 =>
    intro l g u hl haf S K hK
    have hg : g 3 = .bool true := S.f 3 (haf 3 (by kernel_rfl))
    have hd1 : g 5 = .int .i64 8 := S.f 5 (haf 5 (by kernel_rfl))
    refine ⟨?_⟩
    simp only [putA, hg, hd1]
    go_simp
    have nx : K ⟨#[g 73, _, _, _, _, _, _, _, _, _, _, _, _, g 0, g 1, g 2, g 3, g 4, g 5, _, g 7, g 8, g 9, g 10, g 11, g 12, g 13, g 14, g 15, g 16, g 17, g 18, g 19, g 20, g 21, g 22, g 23, g 24, g 25, g 26, g 27, g 28, g 29, g 30, g 31, g 32, g 33, g 34, g 35, g 36, g 37, g 38, g 39, g 40, g 41, g 42, g 43, g 44, g 45, g 46, g 47, g 48, g 49, g 50, g 51, g 52, g 53, g 54, g 55, g 56, g 57, g 58, g 59, g 60, g 61, g 62, g 63, g 64, g 65, g 66, g 67, g 68, g 69, g 70, g 71, g 72], _⟩ _ := hK.out (setG g 6 (.bool true)) u (S.set 6 (.bool true) (Below.refl _ u) rfl)
    clear hK
    simp only [hg, hd1] at nx
    exact nx
  case s7 =>
    intro l g u hl haf S K hK
    have hd1 : g 3 = .bool true := S.f 3 (haf 3 (by kernel_rfl))
    have hd2 : g 6 = .bool true := S.f 6 (haf 6 (by kernel_rfl))
    refine ⟨?_⟩
    simp only [putA, hd1, hd2]
    go_simp
    have nx : K ⟨#[g 73, _, _, _, _, _, _, _, _, _, _, _, _, g 0, g 1, g 2, g 3, g 4, g 5, g 6, _, g 8, g 9, g 10, g 11, g 12, g 13, g 14, g 15, g 16, g 17, g 18, g 19, g 20, g 21, g 22, g 23, g 24, g 25, g 26, g 27, g 28, g 29, g 30, g 31, g 32, g 33, g 34, g 35, g 36, g 37, g 38, g 39, g 40, g 41, g 42, g 43, g 44, g 45, g 46, g 47, g 48, g 49, g 50, g 51, g 52, g 53, g 54, g 55, g 56, g 57, g 58, g 59, g 60, g 61, g 62, g 63, g 64, g 65, g 66, g 67, g 68, g 69, g 70, g 71, g 72], _⟩ _ := hK.out (setG g 7 (.bool true)) u (S.set 7 (.bool true) (Below.refl _ u) rfl)
    clear hK
    simp only [hd1, hd2] at nx
    exact nx
  case s8 =>
    intro l g u hl haf S K hK
    have hd1 : g 7 = .bool true := S.f 7 (haf 7 (by kernel_rfl))
    refine ⟨?_⟩
    simp only [putA, hd1]
    go_simp
    have nx : K ⟨#[g 73, _, _, _, _, _, _, _, _, _, _, _, _, g 0, g 1, g 2, g 3, g 4, g 5, g 6, g 7, _, g 9, g 10, g 11, g 12, g 13, g 14, g 15, g 16, g 17, g 18, g 19, g 20, g 21, g 22, g 23, g 24, g 25, g 26, g 27, g 28, g 29, g 30, g 31, g 32, g 33, g 34, g 35, g 36, g 37, g 38, g 39, g 40, g 41, g 42, g 43, g 44, g 45, g 46, g 47, g 48, g 49, g 50, g 51, g 52, g 53, g 54, g 55, g 56, g 57, g 58, g 59, g 60, g 61, g 62, g 63, g 64, g 65, g 66, g 67, g 68, g 69, g 70, g 71, g 72], _⟩ _ := hK.out (setG g 8 (.bool true)) u (S.set 8 (.bool true) (Below.refl _ u) rfl)
    clear hK
    simp only [hd1] at nx
    exact nx
  case s9 =>
    intro l g u hl haf S K hK
    have hg : g 8 = .bool true := S.f 8 (haf 8 (by kernel_rfl))
    refine ⟨?_⟩
    simp only [putA, hg]
    go_simp
    have nx : K ⟨#[g 73, _, _, _, _, _, _, _, _, _, _, _, _, g 0, g 1, g 2, g 3, g 4, g 5, g 6, g 7, g 8, _, g 10, g 11, g 12, g 13, g 14, g 15, g 16, g 17, g 18, g 19, g 20, g 21, g 22, g 23, g 24, g 25, g 26, g 27, g 28, g 29, g 30, g 31, g 32, g 33, g 34, g 35, g 36, g 37, g 38, g 39, g 40, g 41, g 42, g 43, g 44, g 45, g 46, g 47, g 48, g 49, g 50, g 51, g 52, g 53, g 54, g 55, g 56, g 57, g 58, g 59, g 60, g 61, g 62, g 63, g 64, g 65, g 66, g 67, g 68, g 69, g 70, g 71, g 72], _⟩ _ := hK.out (setG g 9 (.agg #[.slice none 0 0, .slice none 0 0])) u (S.set 9 (.agg #[.slice none 0 0, .slice none 0 0]) (Below.refl _ u) rfl)
    clear hK
    simp only [hg] at nx
    exact nx
  case s10 =>
    intro l g u hl haf S K hK
    have hg : g 8 = .bool true := S.f 8 (haf 8 (by kernel_rfl))
    have hd1 : g 9 = .agg #[.slice none 0 0, .slice none 0 0] := S.f 9 (haf 9 (by kernel_rfl))
    refine ⟨?_⟩
    simp only [putA, hg, hd1]
    go_simp
    refine (cnone _).mono ?_
    rintro e u2 ⟨rfl, hB⟩
    have nx : K ⟨#[g 73, _, _, _, _, _, _, _, _, _, _, _, _, g 0, g 1, g 2, g 3, g 4, g 5, g 6, g 7, g 8, g 9, _, g 11, g 12, g 13, g 14, g 15, g 16, g 17, g 18, g 19, g 20, g 21, g 22, g 23, g 24, g 25, g 26, g 27, g 28, g 29, g 30, g 31, g 32, g 33, g 34, g 35, g 36, g 37, g 38, g 39, g 40, g 41, g 42, g 43, g 44, g 45, g 46, g 47, g 48, g 49, g 50, g 51, g 52, g 53, g 54, g 55, g 56, g 57, g 58, g 59, g 60, g 61, g 62, g 63, g 64, g 65, g 66, g 67, g 68, g 69, g 70, g 71, g 72], _⟩ _ := hK.out (setG g 10 (.int .i64 2)) u2 (S.set 10 (.int .i64 2) hB rfl)
    clear hK
    simp only [hg, hd1] at nx
    exact nx
  case s11 =>
    intro l g u hl haf S K hK
    have hg : g 8 = .bool true := S.f 8 (haf 8 (by kernel_rfl))
    have hd1 : g 10 = .int .i64 2 := S.f 10 (haf 10 (by kernel_rfl))
    refine ⟨?_⟩
    simp only [putA, hg, hd1]
    go_simp
    have nx : K ⟨#[g 73, _, _, _, _, _, _, _, _, _, _, _, _, g 0, g 1, g 2, g 3, g 4, g 5, g 6, g 7, g 8, g 9, g 10, _, g 12, g 13, g 14, g 15, g 16, g 17, g 18, g 19, g 20, g 21, g 22, g 23, g 24, g 25, g 26, g 27, g 28, g 29, g 30, g 31, g 32, g 33, g 34, g 35, g 36, g 37, g 38, g 39, g 40, g 41, g 42, g 43, g 44, g 45, g 46, g 47, g 48, g 49, g 50, g 51, g 52, g 53, g 54, g 55, g 56, g 57, g 58, g 59, g 60, g 61, g 62, g 63, g 64, g 65, g 66, g 67, g 68, g 69, g 70, g 71, g 72], _⟩ _ := hK.out (setG g 11 (.bool true)) u (S.set 11 (.bool true) (Below.refl _ u) rfl)
    clear hK
    simp only [hg, hd1] at nx
    exact nx
  case s12 =>
    intro l g u hl haf S K hK
    have hd1 : g 8 = .bool true := S.f 8 (haf 8 (by kernel_rfl))
    have hd2 : g 11 = .bool true := S.f 11 (haf 11 (by kernel_rfl))
    refine ⟨?_⟩
    simp only [putA, hd1, hd2]
    go_simp
    have nx : K ⟨#[g 73, _, _, _, _, _, _, _, _, _, _, _, _, g 0, g 1, g 2, g 3, g 4, g 5, g 6, g 7, g 8, g 9, g 10, g 11, _, g 13, g 14, g 15, g 16, g 17, g 18, g 19, g 20, g 21, g 22, g 23, g 24, g 25, g 26, g 27, g 28, g 29, g 30, g 31, g 32, g 33, g 34, g 35, g 36, g 37, g 38, g 39, g 40, g 41, g 42, g 43, g 44, g 45, g 46, g 47, g 48, g 49, g 50, g 51, g 52, g 53, g 54, g 55, g 56, g 57, g 58, g 59, g 60, g 61, g 62, g 63, g 64, g 65, g 66, g 67, g 68, g 69, g 70, g 71, g 72], _⟩ _ := hK.out (setG g 12 (.bool true)) u (S.set 12 (.bool true) (Below.refl _ u) rfl)
    clear hK
    simp only [hd1, hd2] at nx
    exact nx
  case s13 =>
    intro l g u hl haf S K hK
    have hd1 : g 12 = .bool true := S.f 12 (haf 12 (by kernel_rfl))
    refine ⟨?_⟩
    simp only [putA, hd1]
    go_simp
    have nx : K ⟨#[g 73, _, _, _, _, _, _, _, _, _, _, _, _, g 0, g 1, g 2, g 3, g 4, g 5, g 6, g 7, g 8, g 9, g 10, g 11, g 12, _, g 14, g 15, g 16, g 17, g 18, g 19, g 20, g 21, g 22, g 23, g 24, g 25, g 26, g 27, g 28, g 29, g 30, g 31, g 32, g 33, g 34, g 35, g 36, g 37, g 38, g 39, g 40, g 41, g 42, g 43, g 44, g 45, g 46, g 47, g 48, g 49, g 50, g 51, g 52, g 53, g 54, g 55, g 56, g 57, g 58, g 59, g 60, g 61, g 62, g 63, g 64, g 65, g 66, g 67, g 68, g 69, g 70, g 71, g 72], _⟩ _ := hK.out (setG g 13 (.bool true)) u (S.set 13 (.bool true) (Below.refl _ u) rfl)
    clear hK
    simp only [hd1] at nx
    exact nx
  case s14 =>
    intro l g u hl haf S K hK
    have hg : g 13 = .bool true := S.f 13 (haf 13 (by kernel_rfl))
    refine ⟨?_⟩
    simp only [putA, hg]
    go_simp
    refine (name_a1 _).mono ?_
    rintro e u2 ⟨rfl, rfl⟩
    have nx : K ⟨#[g 73, _, _, _, _, _, _, _, _, _, _, _, _, g 0, g 1, g 2, g 3, g 4, g 5, g 6, g 7, g 8, g 9, g 10, g 11, g 12, g 13, _, g 15, g 16, g 17, g 18, g 19, g 20, g 21, g 22, g 23, g 24, g 25, g 26, g 27, g 28, g 29, g 30, g 31, g 32, g 33, g 34, g 35, g 36, g 37, g 38, g 39, g 40, g 41, g 42, g 43, g 44, g 45, g 46, g 47, g 48, g 49, g 50, g 51, g 52, g 53, g 54, g 55, g 56, g 57, g 58, g 59, g 60, g 61, g 62, g 63, g 64, g 65, g 66, g 67, g 68, g 69, g 70, g 71, g 72], _⟩ _ := hK.out (setG g 14 (.bool true)) _ (S.set 14 (.bool true) (Below.refl _ _) rfl)
    clear hK
    simp only [hg] at nx
    exact nx
  case s15 =>
    intro l g u hl haf S K hK
    have hd1 : g 13 = .bool true := S.f 13 (haf 13 (by kernel_rfl))
    have hd2 : g 14 = .bool true := S.f 14 (haf 14 (by kernel_rfl))
    refine ⟨?_⟩
    simp only [putA, hd1, hd2]
    go_simp
    have nx : K ⟨#[g 73, _, _, _, _, _, _, _, _, _, _, _, _, g 0, g 1, g 2, g 3, g 4, g 5, g 6, g 7, g 8, g 9, g 10, g 11, g 12, g 13, g 14, _, g 16, g 17, g 18, g 19, g 20, g 21, g 22, g 23, g 24, g 25, g 26, g 27, g 28, g 29, g 30, g 31, g 32, g 33, g 34, g 35, g 36, g 37, g 38, g 39, g 40, g 41, g 42, g 43, g 44, g 45, g 46, g 47, g 48, g 49, g 50, g 51, g 52, g 53, g 54, g 55, g 56, g 57, g 58, g 59, g 60, g 61, g 62, g 63, g 64, g 65, g 66, g 67, g 68, g 69, g 70, g 71, g 72], _⟩ _ := hK.out (setG g 15 (.bool true)) u (S.set 15 (.bool true) (Below.refl _ u) rfl)
    clear hK
    simp only [hd1, hd2] at nx
    exact nx
  case s16 =>
    intro l g u hl haf S K hK
    have hd1 : g 15 = .bool true := S.f 15 (haf 15 (by kernel_rfl))
    refine ⟨?_⟩
    simp only [putA, hd1]
    go_simp
    have nx : K ⟨#[g 73, _, _, _, _, _, _, _, _, _, _, _, _, g 0, g 1, g 2, g 3, g 4, g 5, g 6, g 7, g 8, g 9, g 10, g 11, g 12, g 13, g 14, g 15, _, g 17, g 18, g 19, g 20, g 21, g 22, g 23, g 24, g 25, g 26, g 27, g 28, g 29, g 30, g 31, g 32, g 33, g 34, g 35, g 36, g 37, g 38, g 39, g 40, g 41, g 42, g 43, g 44, g 45, g 46, g 47, g 48, g 49, g 50, g 51, g 52, g 53, g 54, g 55, g 56, g 57, g 58, g 59, g 60, g 61, g 62, g 63, g 64, g 65, g 66, g 67, g 68, g 69, g 70, g 71, g 72], _⟩ _ := hK.out (setG g 16 (.bool true)) u (S.set 16 (.bool true) (Below.refl _ u) rfl)
    clear hK
    simp only [hd1] at nx
    exact nx
  case s17 =>
    intro l g u hl haf S K hK
    have hg : g 16 = .bool true := S.f 16 (haf 16 (by kernel_rfl))
    refine ⟨?_⟩
    simp only [putA, hg]
    go_simp
    refine (name_goal _).mono ?_
    rintro e u2 ⟨rfl, rfl⟩
    have nx : K ⟨#[g 73, _, _, _, _, _, _, _, _, _, _, _, _, g 0, g 1, g 2, g 3, g 4, g 5, g 6, g 7, g 8, g 9, g 10, g 11, g 12, g 13, g 14, g 15, g 16, _, g 18, g 19, g 20, g 21, g 22, g 23, g 24, g 25, g 26, g 27, g 28, g 29, g 30, g 31, g 32, g 33, g 34, g 35, g 36, g 37, g 38, g 39, g 40, g 41, g 42, g 43, g 44, g 45, g 46, g 47, g 48, g 49, g 50, g 51, g 52, g 53, g 54, g 55, g 56, g 57, g 58, g 59, g 60, g 61, g 62, g 63, g 64, g 65, g 66, g 67, g 68, g 69, g 70, g 71, g 72], _⟩ _ := hK.out (setG g 17 (.bool false)) _ (S.set 17 (.bool false) (Below.refl _ _) rfl)
    clear hK
    simp only [hg] at nx
    exact nx
  case s18 =>
    intro l g u hl haf S K hK
    have hg : g 16 = .bool true := S.f 16 (haf 16 (by kernel_rfl))
    have hd1 : g 17 = .bool false := S.f 17 (haf 17 (by kernel_rfl))
    refine ⟨?_⟩
    simp only [putA, hg, hd1]
    go_simp
    have nx : K ⟨#[g 73, _, _, _, _, _, _, _, _, _, _, _, _, g 0, g 1, g 2, g 3, g 4, g 5, g 6, g 7, g 8, g 9, g 10, g 11, g 12, g 13, g 14, g 15, g 16, g 17, _, g 19, g 20, g 21, g 22, g 23, g 24, g 25, g 26, g 27, g 28, g 29, g 30, g 31, g 32, g 33, g 34, g 35, g 36, g 37, g 38, g 39, g 40, g 41, g 42, g 43, g 44, g 45, g 46, g 47, g 48, g 49, g 50, g 51, g 52, g 53, g 54, g 55, g 56, g 57, g 58, g 59, g 60, g 61, g 62, g 63, g 64, g 65, g 66, g 67, g 68, g 69, g 70, g 71, g 72], _⟩ _ := hK.out (setG g 18 (.bool true)) u (S.set 18 (.bool true) (Below.refl _ u) rfl)
    clear hK
    simp only [hg, hd1] at nx
    exact nx
  case s19 =>
    intro l g u hl haf S K hK
    have hd1 : g 16 = .bool true := S.f 16 (haf 16 (by kernel_rfl))
    have hd2 : g 18 = .bool true := S.f 18 (haf 18 (by kernel_rfl))
    refine ⟨?_⟩
    simp only [putA, hd1, hd2]
    go_simp
    have nx : K ⟨#[g 73, _, _, _, _, _, _, _, _, _, _, _, _, g 0, g 1, g 2, g 3, g 4, g 5, g 6, g 7, g 8, g 9, g 10, g 11, g 12, g 13, g 14, g 15, g 16, g 17, g 18, _, g 20, g 21, g 22, g 23, g 24, g 25, g 26, g 27, g 28, g 29, g 30, g 31, g 32, g 33, g 34, g 35, g 36, g 37, g 38, g 39, g 40, g 41, g 42, g 43, g 44, g 45, g 46, g 47, g 48, g 49, g 50, g 51, g 52, g 53, g 54, g 55, g 56, g 57, g 58, g 59, g 60, g 61, g 62, g 63, g 64, g 65, g 66, g 67, g 68, g 69, g 70, g 71, g 72], _⟩ _ := hK.out (setG g 19 (.bool true)) u (S.set 19 (.bool true) (Below.refl _ u) rfl)
    clear hK
    simp only [hd1, hd2] at nx
    exact nx
  case s20 =>
    intro l g u hl haf S K hK
    have hd1 : g 19 = .bool true := S.f 19 (haf 19 (by kernel_rfl))
    refine ⟨?_⟩
    simp only [putA, hd1]
    go_simp
    have nx : K ⟨#[g 73, _, _, _, _, _, _, _, _, _, _, _, _, g 0, g 1, g 2, g 3, g 4, g 5, g 6, g 7, g 8, g 9, g 10, g 11, g 12, g 13, g 14, g 15, g 16, g 17, g 18, g 19, _, g 21, g 22, g 23, g 24, g 25, g 26, g 27, g 28, g 29, g 30, g 31, g 32, g 33, g 34, g 35, g 36, g 37, g 38, g 39, g 40, g 41, g 42, g 43, g 44, g 45, g 46, g 47, g 48, g 49, g 50, g 51, g 52, g 53, g 54, g 55, g 56, g 57, g 58, g 59, g 60, g 61, g 62, g 63, g 64, g 65, g 66, g 67, g 68, g 69, g 70, g 71, g 72], _⟩ _ := hK.out (setG g 20 (.bool true)) u (S.set 20 (.bool true) (Below.refl _ u) rfl)
    clear hK
    simp only [hd1] at nx
    exact nx
  case s21 =>
    intro l g u hl haf S K hK
    have hg : g 20 = .bool true := S.f 20 (haf 20 (by kernel_rfl))
    refine ⟨?_⟩
    simp only [putA, hg]
    go_simp
    refine (name_1a _).mono ?_
    rintro e u2 ⟨rfl, rfl⟩
    have nx : K ⟨#[g 73, _, _, _, _, _, _, _, _, _, _, _, _, g 0, g 1, g 2, g 3, g 4, g 5, g 6, g 7, g 8, g 9, g 10, g 11, g 12, g 13, g 14, g 15, g 16, g 17, g 18, g 19, g 20, _, g 22, g 23, g 24, g 25, g 26, g 27, g 28, g 29, g 30, g 31, g 32, g 33, g 34, g 35, g 36, g 37, g 38, g 39, g 40, g 41, g 42, g 43, g 44, g 45, g 46, g 47, g 48, g 49, g 50, g 51, g 52, g 53, g 54, g 55, g 56, g 57, g 58, g 59, g 60, g 61, g 62, g 63, g 64, g 65, g 66, g 67, g 68, g 69, g 70, g 71, g 72], _⟩ _ := hK.out (setG g 21 (.bool false)) _ (S.set 21 (.bool false) (Below.refl _ _) rfl)
    clear hK
    simp only [hg] at nx
    exact nx
  case s22 =>
    intro l g u hl haf S K hK
    have hg : g 20 = .bool true := S.f 20 (haf 20 (by kernel_rfl))
    have hd1 : g 21 = .bool false := S.f 21 (haf 21 (by kernel_rfl))
    refine ⟨?_⟩
    simp only [putA, hg, hd1]
    go_simp
    have nx : K ⟨#[g 73, _, _, _, _, _, _, _, _, _, _, _, _, g 0, g 1, g 2, g 3, g 4, g 5, g 6, g 7, g 8, g 9, g 10, g 11, g 12, g 13, g 14, g 15, g 16, g 17, g 18, g 19, g 20, g 21, _, g 23, g 24, g 25, g 26, g 27, g 28, g 29, g 30, g 31, g 32, g 33, g 34, g 35, g 36, g 37, g 38, g 39, g 40, g 41, g 42, g 43, g 44, g 45, g 46, g 47, g 48, g 49, g 50, g 51, g 52, g 53, g 54, g 55, g 56, g 57, g 58, g 59, g 60, g 61, g 62, g 63, g 64, g 65, g 66, g 67, g 68, g 69, g 70, g 71, g 72], _⟩ _ := hK.out (setG g 22 (.bool true)) u (S.set 22 (.bool true) (Below.refl _ u) rfl)
    clear hK
    simp only [hg, hd1] at nx
    exact nx
  case s23 =>
    intro l g u hl haf S K hK
    have hd1 : g 20 = .bool true := S.f 20 (haf 20 (by kernel_rfl))
    have hd2 : g 22 = .bool true := S.f 22 (haf 22 (by kernel_rfl))
    refine ⟨?_⟩
    simp only [putA, hd1, hd2]
    go_simp
    have nx : K ⟨#[g 73, _, _, _, _, _, _, _, _, _, _, _, _, g 0, g 1, g 2, g 3, g 4, g 5, g 6, g 7, g 8, g 9, g 10, g 11, g 12, g 13, g 14, g 15, g 16, g 17, g 18, g 19, g 20, g 21, g 22, _, g 24, g 25, g 26, g 27, g 28, g 29, g 30, g 31, g 32, g 33, g 34, g 35, g 36, g 37, g 38, g 39, g 40, g 41, g 42, g 43, g 44, g 45, g 46, g 47, g 48, g 49, g 50, g 51, g 52, g 53, g 54, g 55, g 56, g 57, g 58, g 59, g 60, g 61, g 62, g 63, g 64, g 65, g 66, g 67, g 68, g 69, g 70, g 71, g 72], _⟩ _ := hK.out (setG g 23 (.bool true)) u (S.set 23 (.bool true) (Below.refl _ u) rfl)
    clear hK
    simp only [hd1, hd2] at nx
    exact nx
  case s24 =>
    intro l g u hl haf S K hK
    have hd1 : g 23 = .bool true := S.f 23 (haf 23 (by kernel_rfl))
    refine ⟨?_⟩
    simp only [putA, hd1]
    go_simp
    have nx : K ⟨#[g 73, _, _, _, _, _, _, _, _, _, _, _, _, g 0, g 1, g 2, g 3, g 4, g 5, g 6, g 7, g 8, g 9, g 10, g 11, g 12, g 13, g 14, g 15, g 16, g 17, g 18, g 19, g 20, g 21, g 22, g 23, _, g 25, g 26, g 27, g 28, g 29, g 30, g 31, g 32, g 33, g 34, g 35, g 36, g 37, g 38, g 39, g 40, g 41, g 42, g 43, g 44, g 45, g 46, g 47, g 48, g 49, g 50, g 51, g 52, g 53, g 54, g 55, g 56, g 57, g 58, g 59, g 60, g 61, g 62, g 63, g 64, g 65, g 66, g 67, g 68, g 69, g 70, g 71, g 72], _⟩ _ := hK.out (setG g 24 (.bool true)) u (S.set 24 (.bool true) (Below.refl _ u) rfl)
    clear hK
    simp only [hd1] at nx
    exact nx
  case s25 =>
    intro l g u hl haf S K hK
    have hg : g 24 = .bool true := S.f 24 (haf 24 (by kernel_rfl))
    refine ⟨?_⟩
    simp only [putA, hg]
    go_simp
    refine (small_any _).mono ?_
    rintro e u2 ⟨k, rfl, hs, _, hB⟩
    have nx : K ⟨#[g 73, _, _, _, _, _, _, _, _, _, _, _, _, g 0, g 1, g 2, g 3, g 4, g 5, g 6, g 7, g 8, g 9, g 10, g 11, g 12, g 13, g 14, g 15, g 16, g 17, g 18, g 19, g 20, g 21, g 22, g 23, g 24, _, g 26, g 27, g 28, g 29, g 30, g 31, g 32, g 33, g 34, g 35, g 36, g 37, g 38, g 39, g 40, g 41, g 42, g 43, g 44, g 45, g 46, g 47, g 48, g 49, g 50, g 51, g 52, g 53, g 54, g 55, g 56, g 57, g 58, g 59, g 60, g 61, g 62, g 63, g 64, g 65, g 66, g 67, g 68, g 69, g 70, g 71, g 72], _⟩ _ := hK.out (setG g 25 (.agg #[.slice (some ⟨k + 3, 0, none⟩) 2 2, .slice (some ⟨k + 6, 0, none⟩) 1 1])) u2 (S.set 25 (.agg #[.slice (some ⟨k + 3, 0, none⟩) 2 2, .slice (some ⟨k + 6, 0, none⟩) 1 1]) hB ⟨k, rfl, hs⟩)
    clear hK
    simp only [hg] at nx
    exact nx
  case s26 =>
    intro l g u hl haf S K hK
    have hg : g 24 = .bool true := S.f 24 (haf 24 (by kernel_rfl))
    obtain ⟨n1, hv1, hs⟩ := S.f 25 (haf 25 (by kernel_rfl))
    refine ⟨?_⟩
    simp only [putA, hg, hv1]
    go_simp
    have nx : K ⟨#[g 73, _, _, _, _, _, _, _, _, _, _, _, _, g 0, g 1, g 2, g 3, g 4, g 5, g 6, g 7, g 8, g 9, g 10, g 11, g 12, g 13, g 14, g 15, g 16, g 17, g 18, g 19, g 20, g 21, g 22, g 23, g 24, g 25, _, g 27, g 28, g 29, g 30, g 31, g 32, g 33, g 34, g 35, g 36, g 37, g 38, g 39, g 40, g 41, g 42, g 43, g 44, g 45, g 46, g 47, g 48, g 49, g 50, g 51, g 52, g 53, g 54, g 55, g 56, g 57, g 58, g 59, g 60, g 61, g 62, g 63, g 64, g 65, g 66, g 67, g 68, g 69, g 70, g 71, g 72], _⟩ _ := hK.out (setG g 26 (.slice (some ⟨n1 + 6, 0, none⟩) 1 1)) u (S.set 26 (.slice (some ⟨n1 + 6, 0, none⟩) 1 1) (Below.refl _ u) ⟨n1, rfl, hs⟩)
    clear hK
    simp only [hg, hv1] at nx
    exact nx
  case s27 =>
    intro l g u hl haf S K hK
    have hg : g 24 = .bool true := S.f 24 (haf 24 (by kernel_rfl))
    obtain ⟨n1, hv1, hs⟩ := S.f 26 (haf 26 (by kernel_rfl))
    refine ⟨?_⟩
    simp only [putA, hg, hv1]
    go_simp
    have nx : K ⟨#[g 73, _, _, _, _, _, _, _, _, _, _, _, _, g 0, g 1, g 2, g 3, g 4, g 5, g 6, g 7, g 8, g 9, g 10, g 11, g 12, g 13, g 14, g 15, g 16, g 17, g 18, g 19, g 20, g 21, g 22, g 23, g 24, g 25, g 26, _, g 28, g 29, g 30, g 31, g 32, g 33, g 34, g 35, g 36, g 37, g 38, g 39, g 40, g 41, g 42, g 43, g 44, g 45, g 46, g 47, g 48, g 49, g 50, g 51, g 52, g 53, g 54, g 55, g 56, g 57, g 58, g 59, g 60, g 61, g 62, g 63, g 64, g 65, g 66, g 67, g 68, g 69, g 70, g 71, g 72], _⟩ _ := hK.out (setG g 27 (.pointer (some ⟨n1 + 6, 0, none⟩))) u (S.set 27 (.pointer (some ⟨n1 + 6, 0, none⟩)) (Below.refl _ u) ⟨n1, rfl, hs⟩)
    clear hK
    simp only [hg, hv1] at nx
    exact nx
  case s28 =>
    intro l g u hl haf S K hK
    have hg : g 24 = .bool true := S.f 24 (haf 24 (by kernel_rfl))
    obtain ⟨n1, hv1, hs⟩ := S.f 27 (haf 27 (by kernel_rfl))
    have q0 := hs.c0
    have q1 := hs.c1
    have q2 := hs.c2
    have q3 := hs.c3
    have q4 := hs.c4
    have q5 := hs.c5
    refine ⟨?_⟩
    simp only [putA, hg, hv1]
    go_simp
    have nx : K ⟨#[g 73, _, _, _, _, _, _, _, _, _, _, _, _, g 0, g 1, g 2, g 3, g 4, g 5, g 6, g 7, g 8, g 9, g 10, g 11, g 12, g 13, g 14, g 15, g 16, g 17, g 18, g 19, g 20, g 21, g 22, g 23, g 24, g 25, g 26, g 27, _, g 29, g 30, g 31, g 32, g 33, g 34, g 35, g 36, g 37, g 38, g 39, g 40, g 41, g 42, g 43, g 44, g 45, g 46, g 47, g 48, g 49, g 50, g 51, g 52, g 53, g 54, g 55, g 56, g 57, g 58, g 59, g 60, g 61, g 62, g 63, g 64, g 65, g 66, g 67, g 68, g 69, g 70, g 71, g 72], _⟩ _ := hK.out (setG g 28 (.agg #[.int .i64 1, .slice (some ⟨n1 + 4, 0, none⟩) 2 2, .slice (some ⟨n1 + 5, 0, none⟩) 2 2, .int .i64 0, .int .i64 0, .slice none 0 0])) u (S.set 28 (.agg #[.int .i64 1, .slice (some ⟨n1 + 4, 0, none⟩) 2 2, .slice (some ⟨n1 + 5, 0, none⟩) 2 2, .int .i64 0, .int .i64 0, .slice none 0 0]) (Below.refl _ u) ⟨n1, rfl, hs⟩)
    clear hK
    simp only [hg, hv1] at nx
    exact nx
  case s29 =>
    intro l g u hl haf S K hK
    have hg : g 24 = .bool true := S.f 24 (haf 24 (by kernel_rfl))
    obtain ⟨n1, hv1, hs⟩ := S.f 28 (haf 28 (by kernel_rfl))
    refine ⟨?_⟩
    simp only [putA, hg, hv1]
    go_simp
    refine (rx 2 true right_two hs).mono ?_
    rintro e u2 ⟨rfl, hB⟩
    have nx : K ⟨#[g 73, _, _, _, _, _, _, _, _, _, _, _, _, g 0, g 1, g 2, g 3, g 4, g 5, g 6, g 7, g 8, g 9, g 10, g 11, g 12, g 13, g 14, g 15, g 16, g 17, g 18, g 19, g 20, g 21, g 22, g 23, g 24, g 25, g 26, g 27, g 28, _, g 30, g 31, g 32, g 33, g 34, g 35, g 36, g 37, g 38, g 39, g 40, g 41, g 42, g 43, g 44, g 45, g 46, g 47, g 48, g 49, g 50, g 51, g 52, g 53, g 54, g 55, g 56, g 57, g 58, g 59, g 60, g 61, g 62, g 63, g 64, g 65, g 66, g 67, g 68, g 69, g 70, g 71, g 72], _⟩ _ := hK.out (setG g 29 (.bool true)) u2 (S.set 29 (.bool true) hB rfl)
    clear hK
    simp only [hg, hv1] at nx
    exact nx
  case s30 =>
    intro l g u hl haf S K hK
    have hd1 : g 24 = .bool true := S.f 24 (haf 24 (by kernel_rfl))
    have hd2 : g 29 = .bool true := S.f 29 (haf 29 (by kernel_rfl))
    refine ⟨?_⟩
    simp only [putA, hd1, hd2]
    go_simp
    have nx : K ⟨#[g 73, _, _, _, _, _, _, _, _, _, _, _, _, g 0, g 1, g 2, g 3, g 4, g 5, g 6, g 7, g 8, g 9, g 10, g 11, g 12, g 13, g 14, g 15, g 16, g 17, g 18, g 19, g 20, g 21, g 22, g 23, g 24, g 25, g 26, g 27, g 28, g 29, _, g 31, g 32, g 33, g 34, g 35, g 36, g 37, g 38, g 39, g 40, g 41, g 42, g 43, g 44, g 45, g 46, g 47, g 48, g 49, g 50, g 51, g 52, g 53, g 54, g 55, g 56, g 57, g 58, g 59, g 60, g 61, g 62, g 63, g 64, g 65, g 66, g 67, g 68, g 69, g 70, g 71, g 72], _⟩ _ := hK.out (setG g 30 (.bool true)) u (S.set 30 (.bool true) (Below.refl _ u) rfl)
    clear hK
    simp only [hd1, hd2] at nx
    exact nx
  case s31 =>
    intro l g u hl haf S K hK
    have hd1 : g 30 = .bool true := S.f 30 (haf 30 (by kernel_rfl))
    refine ⟨?_⟩
    simp only [putA, hd1]
    go_simp
    have nx : K ⟨#[g 73, _, _, _, _, _, _, _, _, _, _, _, _, g 0, g 1, g 2, g 3, g 4, g 5, g 6, g 7, g 8, g 9, g 10, g 11, g 12, g 13, g 14, g 15, g 16, g 17, g 18, g 19, g 20, g 21, g 22, g 23, g 24, g 25, g 26, g 27, g 28, g 29, g 30, _, g 32, g 33, g 34, g 35, g 36, g 37, g 38, g 39, g 40, g 41, g 42, g 43, g 44, g 45, g 46, g 47, g 48, g 49, g 50, g 51, g 52, g 53, g 54, g 55, g 56, g 57, g 58, g 59, g 60, g 61, g 62, g 63, g 64, g 65, g 66, g 67, g 68, g 69, g 70, g 71, g 72], _⟩ _ := hK.out (setG g 31 (.bool true)) u (S.set 31 (.bool true) (Below.refl _ u) rfl)
    clear hK
    simp only [hd1] at nx
    exact nx
  case s32 =>
    intro l g u hl haf S K hK
    have hg : g 31 = .bool true := S.f 31 (haf 31 (by kernel_rfl))
    refine ⟨?_⟩
    simp only [putA, hg]
    go_simp
    refine (small_any _).mono ?_
    rintro e u2 ⟨k, rfl, hs, _, hB⟩
    have nx : K ⟨#[g 73, _, _, _, _, _, _, _, _, _, _, _, _, g 0, g 1, g 2, g 3, g 4, g 5, g 6, g 7, g 8, g 9, g 10, g 11, g 12, g 13, g 14, g 15, g 16, g 17, g 18, g 19, g 20, g 21, g 22, g 23, g 24, g 25, g 26, g 27, g 28, g 29, g 30, g 31, _, g 33, g 34, g 35, g 36, g 37, g 38, g 39, g 40, g 41, g 42, g 43, g 44, g 45, g 46, g 47, g 48, g 49, g 50, g 51, g 52, g 53, g 54, g 55, g 56, g 57, g 58, g 59, g 60, g 61, g 62, g 63, g 64, g 65, g 66, g 67, g 68, g 69, g 70, g 71, g 72], _⟩ _ := hK.out (setG g 32 (.agg #[.slice (some ⟨k + 3, 0, none⟩) 2 2, .slice (some ⟨k + 6, 0, none⟩) 1 1])) u2 (S.set 32 (.agg #[.slice (some ⟨k + 3, 0, none⟩) 2 2, .slice (some ⟨k + 6, 0, none⟩) 1 1]) hB ⟨k, rfl, hs⟩)
    clear hK
    simp only [hg] at nx
    exact nx
  case s33 =>
    intro l g u hl haf S K hK
    have hg : g 31 = .bool true := S.f 31 (haf 31 (by kernel_rfl))
    obtain ⟨n1, hv1, hs⟩ := S.f 32 (haf 32 (by kernel_rfl))
    refine ⟨?_⟩
    simp only [putA, hg, hv1]
    go_simp
    have nx : K ⟨#[g 73, _, _, _, _, _, _, _, _, _, _, _, _, g 0, g 1, g 2, g 3, g 4, g 5, g 6, g 7, g 8, g 9, g 10, g 11, g 12, g 13, g 14, g 15, g 16, g 17, g 18, g 19, g 20, g 21, g 22, g 23, g 24, g 25, g 26, g 27, g 28, g 29, g 30, g 31, g 32, _, g 34, g 35, g 36, g 37, g 38, g 39, g 40, g 41, g 42, g 43, g 44, g 45, g 46, g 47, g 48, g 49, g 50, g 51, g 52, g 53, g 54, g 55, g 56, g 57, g 58, g 59, g 60, g 61, g 62, g 63, g 64, g 65, g 66, g 67, g 68, g 69, g 70, g 71, g 72], _⟩ _ := hK.out (setG g 33 (.slice (some ⟨n1 + 6, 0, none⟩) 1 1)) u (S.set 33 (.slice (some ⟨n1 + 6, 0, none⟩) 1 1) (Below.refl _ u) ⟨n1, rfl, hs⟩)
    clear hK
    simp only [hg, hv1] at nx
    exact nx
  case s34 =>
    intro l g u hl haf S K hK
    have hg : g 31 = .bool true := S.f 31 (haf 31 (by kernel_rfl))
    obtain ⟨n1, hv1, hs⟩ := S.f 33 (haf 33 (by kernel_rfl))
    refine ⟨?_⟩
    simp only [putA, hg, hv1]
    go_simp
    have nx : K ⟨#[g 73, _, _, _, _, _, _, _, _, _, _, _, _, g 0, g 1, g 2, g 3, g 4, g 5, g 6, g 7, g 8, g 9, g 10, g 11, g 12, g 13, g 14, g 15, g 16, g 17, g 18, g 19, g 20, g 21, g 22, g 23, g 24, g 25, g 26, g 27, g 28, g 29, g 30, g 31, g 32, g 33, _, g 35, g 36, g 37, g 38, g 39, g 40, g 41, g 42, g 43, g 44, g 45, g 46, g 47, g 48, g 49, g 50, g 51, g 52, g 53, g 54, g 55, g 56, g 57, g 58, g 59, g 60, g 61, g 62, g 63, g 64, g 65, g 66, g 67, g 68, g 69, g 70, g 71, g 72], _⟩ _ := hK.out (setG g 34 (.pointer (some ⟨n1 + 6, 0, none⟩))) u (S.set 34 (.pointer (some ⟨n1 + 6, 0, none⟩)) (Below.refl _ u) ⟨n1, rfl, hs⟩)
    clear hK
    simp only [hg, hv1] at nx
    exact nx
  case s35 =>
    intro l g u hl haf S K hK
    have hg : g 31 = .bool true := S.f 31 (haf 31 (by kernel_rfl))
    obtain ⟨n1, hv1, hs⟩ := S.f 34 (haf 34 (by kernel_rfl))
    have q0 := hs.c0
    have q1 := hs.c1
    have q2 := hs.c2
    have q3 := hs.c3
    have q4 := hs.c4
    have q5 := hs.c5
    refine ⟨?_⟩
    simp only [putA, hg, hv1]
    go_simp
    have nx : K ⟨#[g 73, _, _, _, _, _, _, _, _, _, _, _, _, g 0, g 1, g 2, g 3, g 4, g 5, g 6, g 7, g 8, g 9, g 10, g 11, g 12, g 13, g 14, g 15, g 16, g 17, g 18, g 19, g 20, g 21, g 22, g 23, g 24, g 25, g 26, g 27, g 28, g 29, g 30, g 31, g 32, g 33, g 34, _, g 36, g 37, g 38, g 39, g 40, g 41, g 42, g 43, g 44, g 45, g 46, g 47, g 48, g 49, g 50, g 51, g 52, g 53, g 54, g 55, g 56, g 57, g 58, g 59, g 60, g 61, g 62, g 63, g 64, g 65, g 66, g 67, g 68, g 69, g 70, g 71, g 72], _⟩ _ := hK.out (setG g 35 (.agg #[.int .i64 1, .slice (some ⟨n1 + 4, 0, none⟩) 2 2, .slice (some ⟨n1 + 5, 0, none⟩) 2 2, .int .i64 0, .int .i64 0, .slice none 0 0])) u (S.set 35 (.agg #[.int .i64 1, .slice (some ⟨n1 + 4, 0, none⟩) 2 2, .slice (some ⟨n1 + 5, 0, none⟩) 2 2, .int .i64 0, .int .i64 0, .slice none 0 0]) (Below.refl _ u) ⟨n1, rfl, hs⟩)
    clear hK
    simp only [hg, hv1] at nx
    exact nx
  case s36 =>
    intro l g u hl haf S K hK
    have hg : g 31 = .bool true := S.f 31 (haf 31 (by kernel_rfl))
    obtain ⟨n1, hv1, hs⟩ := S.f 35 (haf 35 (by kernel_rfl))
    refine ⟨?_⟩
    simp only [putA, hg, hv1]
    go_simp
    refine (rx 1 false right_one hs).mono ?_
    rintro e u2 ⟨rfl, hB⟩
    have nx : K ⟨#[g 73, _, _, _, _, _, _, _, _, _, _, _, _, g 0, g 1, g 2, g 3, g 4, g 5, g 6, g 7, g 8, g 9, g 10, g 11, g 12, g 13, g 14, g 15, g 16, g 17, g 18, g 19, g 20, g 21, g 22, g 23, g 24, g 25, g 26, g 27, g 28, g 29, g 30, g 31, g 32, g 33, g 34, g 35, _, g 37, g 38, g 39, g 40, g 41, g 42, g 43, g 44, g 45, g 46, g 47, g 48, g 49, g 50, g 51, g 52, g 53, g 54, g 55, g 56, g 57, g 58, g 59, g 60, g 61, g 62, g 63, g 64, g 65, g 66, g 67, g 68, g 69, g 70, g 71, g 72], _⟩ _ := hK.out (setG g 36 (.bool false)) u2 (S.set 36 (.bool false) hB rfl)
    clear hK
    simp only [hg, hv1] at nx
    exact nx
  case s37 =>
    intro l g u hl haf S K hK
    have hg : g 31 = .bool true := S.f 31 (haf 31 (by kernel_rfl))
    have hd1 : g 36 = .bool false := S.f 36 (haf 36 (by kernel_rfl))
    refine ⟨?_⟩
    simp only [putA, hg, hd1]
    go_simp
    have nx : K ⟨#[g 73, _, _, _, _, _, _, _, _, _, _, _, _, g 0, g 1, g 2, g 3, g 4, g 5, g 6, g 7, g 8, g 9, g 10, g 11, g 12, g 13, g 14, g 15, g 16, g 17, g 18, g 19, g 20, g 21, g 22, g 23, g 24, g 25, g 26, g 27, g 28, g 29, g 30, g 31, g 32, g 33, g 34, g 35, g 36, _, g 38, g 39, g 40, g 41, g 42, g 43, g 44, g 45, g 46, g 47, g 48, g 49, g 50, g 51, g 52, g 53, g 54, g 55, g 56, g 57, g 58, g 59, g 60, g 61, g 62, g 63, g 64, g 65, g 66, g 67, g 68, g 69, g 70, g 71, g 72], _⟩ _ := hK.out (setG g 37 (.bool true)) u (S.set 37 (.bool true) (Below.refl _ u) rfl)
    clear hK
    simp only [hg, hd1] at nx
    exact nx
  case s38 =>
    intro l g u hl haf S K hK
    have hd1 : g 31 = .bool true := S.f 31 (haf 31 (by kernel_rfl))
    have hd2 : g 37 = .bool true := S.f 37 (haf 37 (by kernel_rfl))
    refine ⟨?_⟩
    simp only [putA, hd1, hd2]
    go_simp
    have nx : K ⟨#[g 73, _, _, _, _, _, _, _, _, _, _, _, _, g 0, g 1, g 2, g 3, g 4, g 5, g 6, g 7, g 8, g 9, g 10, g 11, g 12, g 13, g 14, g 15, g 16, g 17, g 18, g 19, g 20, g 21, g 22, g 23, g 24, g 25, g 26, g 27, g 28, g 29, g 30, g 31, g 32, g 33, g 34, g 35, g 36, g 37, _, g 39, g 40, g 41, g 42, g 43, g 44, g 45, g 46, g 47, g 48, g 49, g 50, g 51, g 52, g 53, g 54, g 55, g 56, g 57, g 58, g 59, g 60, g 61, g 62, g 63, g 64, g 65, g 66, g 67, g 68, g 69, g 70, g 71, g 72], _⟩ _ := hK.out (setG g 38 (.bool true)) u (S.set 38 (.bool true) (Below.refl _ u) rfl)
    clear hK
    simp only [hd1, hd2] at nx
    exact nx
  case s39 =>
    intro l g u hl haf S K hK
    have hd1 : g 38 = .bool true := S.f 38 (haf 38 (by kernel_rfl))
    refine ⟨?_⟩
    simp only [putA, hd1]
    go_simp
    have nx : K ⟨#[g 73, _, _, _, _, _, _, _, _, _, _, _, _, g 0, g 1, g 2, g 3, g 4, g 5, g 6, g 7, g 8, g 9, g 10, g 11, g 12, g 13, g 14, g 15, g 16, g 17, g 18, g 19, g 20, g 21, g 22, g 23, g 24, g 25, g 26, g 27, g 28, g 29, g 30, g 31, g 32, g 33, g 34, g 35, g 36, g 37, g 38, _, g 40, g 41, g 42, g 43, g 44, g 45, g 46, g 47, g 48, g 49, g 50, g 51, g 52, g 53, g 54, g 55, g 56, g 57, g 58, g 59, g 60, g 61, g 62, g 63, g 64, g 65, g 66, g 67, g 68, g 69, g 70, g 71, g 72], _⟩ _ := hK.out (setG g 39 (.bool true)) u (S.set 39 (.bool true) (Below.refl _ u) rfl)
    clear hK
    simp only [hd1] at nx
    exact nx
  case s40 =>
    intro l g u hl haf S K hK
    have hg : g 39 = .bool true := S.f 39 (haf 39 (by kernel_rfl))
    refine ⟨?_⟩
    simp only [putA, hg]
    go_simp
    refine (small_any _).mono ?_
    rintro e u2 ⟨k, rfl, hs, _, hB⟩
    have nx : K ⟨#[g 73, _, _, _, _, _, _, _, _, _, _, _, _, g 0, g 1, g 2, g 3, g 4, g 5, g 6, g 7, g 8, g 9, g 10, g 11, g 12, g 13, g 14, g 15, g 16, g 17, g 18, g 19, g 20, g 21, g 22, g 23, g 24, g 25, g 26, g 27, g 28, g 29, g 30, g 31, g 32, g 33, g 34, g 35, g 36, g 37, g 38, g 39, _, g 41, g 42, g 43, g 44, g 45, g 46, g 47, g 48, g 49, g 50, g 51, g 52, g 53, g 54, g 55, g 56, g 57, g 58, g 59, g 60, g 61, g 62, g 63, g 64, g 65, g 66, g 67, g 68, g 69, g 70, g 71, g 72], _⟩ _ := hK.out (setG g 40 (.agg #[.slice (some ⟨k + 3, 0, none⟩) 2 2, .slice (some ⟨k + 6, 0, none⟩) 1 1])) u2 (S.set 40 (.agg #[.slice (some ⟨k + 3, 0, none⟩) 2 2, .slice (some ⟨k + 6, 0, none⟩) 1 1]) hB ⟨k, rfl, hs⟩)
    clear hK
    simp only [hg] at nx
    exact nx
  case s41 =>
    intro l g u hl haf S K hK
    have hg : g 39 = .bool true := S.f 39 (haf 39 (by kernel_rfl))
    obtain ⟨n1, hv1, hs⟩ := S.f 40 (haf 40 (by kernel_rfl))
    refine ⟨?_⟩
    simp only [putA, hg, hv1]
    go_simp
    refine (ex_ hs).mono ?_
    rintro e u2 ⟨v, rfl, hev, hB⟩
    have nx : K ⟨#[g 73, _, _, _, _, _, _, _, _, _, _, _, _, g 0, g 1, g 2, g 3, g 4, g 5, g 6, g 7, g 8, g 9, g 10, g 11, g 12, g 13, g 14, g 15, g 16, g 17, g 18, g 19, g 20, g 21, g 22, g 23, g 24, g 25, g 26, g 27, g 28, g 29, g 30, g 31, g 32, g 33, g 34, g 35, g 36, g 37, g 38, g 39, g 40, _, g 42, g 43, g 44, g 45, g 46, g 47, g 48, g 49, g 50, g 51, g 52, g 53, g 54, g 55, g 56, g 57, g 58, g 59, g 60, g 61, g 62, g 63, g 64, g 65, g 66, g 67, g 68, g 69, g 70, g 71, g 72], _⟩ _ := hK.out (setG g 41 v) u2 (S.set 41 v hB hev)
    clear hK
    simp only [hg, hv1] at nx
    exact nx
  case s42 =>
    intro l g u hl haf S K hK
    have hg : g 39 = .bool true := S.f 39 (haf 39 (by kernel_rfl))
    refine ⟨?_⟩
    simp only [putA, hg]
    go_simp
    have nx : K ⟨#[g 73, _, _, _, _, _, _, _, _, _, _, _, _, g 0, g 1, g 2, g 3, g 4, g 5, g 6, g 7, g 8, g 9, g 10, g 11, g 12, g 13, g 14, g 15, g 16, g 17, g 18, g 19, g 20, g 21, g 22, g 23, g 24, g 25, g 26, g 27, g 28, g 29, g 30, g 31, g 32, g 33, g 34, g 35, g 36, g 37, g 38, g 39, g 40, g 41, _, g 43, g 44, g 45, g 46, g 47, g 48, g 49, g 50, g 51, g 52, g 53, g 54, g 55, g 56, g 57, g 58, g 59, g 60, g 61, g 62, g 63, g 64, g 65, g 66, g 67, g 68, g 69, g 70, g 71, g 72], _⟩ _ := hK.out (setG g 42 (.slice (some ⟨u.heap.size, 0, none⟩) 2 2)) _ (S.set 42 (.slice (some ⟨u.heap.size, 0, none⟩) 2 2) (below_one _ _) (two_ints u))
    clear hK
    simp only [hg] at nx
    exact nx
  case s43 =>
    intro l g u hl haf S K hK
    have hg : g 39 = .bool true := S.f 39 (haf 39 (by kernel_rfl))
    have hi1 : Slc rNum 1 u (g 41) [1, 2] := S.f 41 (haf 41 (by kernel_rfl))
    have hi2 : Slc rNum 1 u (g 42) [1, 2] := S.f 42 (haf 42 (by kernel_rfl))
    refine ⟨?_⟩
    simp only [putA, hg]
    go_simp
    refine (same_12 hi1 hi2).mono ?_
    rintro e u2 ⟨rfl, nq, rfl⟩
    have nx : K ⟨#[g 73, _, _, _, _, _, _, _, _, _, _, _, _, g 0, g 1, g 2, g 3, g 4, g 5, g 6, g 7, g 8, g 9, g 10, g 11, g 12, g 13, g 14, g 15, g 16, g 17, g 18, g 19, g 20, g 21, g 22, g 23, g 24, g 25, g 26, g 27, g 28, g 29, g 30, g 31, g 32, g 33, g 34, g 35, g 36, g 37, g 38, g 39, g 40, g 41, g 42, _, g 44, g 45, g 46, g 47, g 48, g 49, g 50, g 51, g 52, g 53, g 54, g 55, g 56, g 57, g 58, g 59, g 60, g 61, g 62, g 63, g 64, g 65, g 66, g 67, g 68, g 69, g 70, g 71, g 72], _⟩ _ := hK.out (setG g 43 (.bool true)) (u.drewN nq) (S.set 43 (.bool true) (below_drewN (n := nq) (Below.refl _ _)) rfl)
    clear hK
    simp only [hg] at nx
    exact nx
  case s44 =>
    intro l g u hl haf S K hK
    have hd1 : g 39 = .bool true := S.f 39 (haf 39 (by kernel_rfl))
    have hd2 : g 43 = .bool true := S.f 43 (haf 43 (by kernel_rfl))
    refine ⟨?_⟩
    simp only [putA, hd1, hd2]
    go_simp
    have nx : K ⟨#[g 73, _, _, _, _, _, _, _, _, _, _, _, _, g 0, g 1, g 2, g 3, g 4, g 5, g 6, g 7, g 8, g 9, g 10, g 11, g 12, g 13, g 14, g 15, g 16, g 17, g 18, g 19, g 20, g 21, g 22, g 23, g 24, g 25, g 26, g 27, g 28, g 29, g 30, g 31, g 32, g 33, g 34, g 35, g 36, g 37, g 38, g 39, g 40, g 41, g 42, g 43, _, g 45, g 46, g 47, g 48, g 49, g 50, g 51, g 52, g 53, g 54, g 55, g 56, g 57, g 58, g 59, g 60, g 61, g 62, g 63, g 64, g 65, g 66, g 67, g 68, g 69, g 70, g 71, g 72], _⟩ _ := hK.out (setG g 44 (.bool true)) u (S.set 44 (.bool true) (Below.refl _ u) rfl)
    clear hK
    simp only [hd1, hd2] at nx
    exact nx
  case s45 =>
    intro l g u hl haf S K hK
    have hd1 : g 44 = .bool true := S.f 44 (haf 44 (by kernel_rfl))
    refine ⟨?_⟩
    simp only [putA, hd1]
    go_simp
    have nx : K ⟨#[g 73, _, _, _, _, _, _, _, _, _, _, _, _, g 0, g 1, g 2, g 3, g 4, g 5, g 6, g 7, g 8, g 9, g 10, g 11, g 12, g 13, g 14, g 15, g 16, g 17, g 18, g 19, g 20, g 21, g 22, g 23, g 24, g 25, g 26, g 27, g 28, g 29, g 30, g 31, g 32, g 33, g 34, g 35, g 36, g 37, g 38, g 39, g 40, g 41, g 42, g 43, g 44, _, g 46, g 47, g 48, g 49, g 50, g 51, g 52, g 53, g 54, g 55, g 56, g 57, g 58, g 59, g 60, g 61, g 62, g 63, g 64, g 65, g 66, g 67, g 68, g 69, g 70, g 71, g 72], _⟩ _ := hK.out (setG g 45 (.bool true)) u (S.set 45 (.bool true) (Below.refl _ u) rfl)
    clear hK
    simp only [hd1] at nx
    exact nx
  case s46 =>
    intro l g u hl haf S K hK
    have hg : g 45 = .bool true := S.f 45 (haf 45 (by kernel_rfl))
    refine ⟨?_⟩
    simp only [putA, hg]
    go_simp
    have nx : K ⟨#[g 73, _, _, _, _, _, _, _, _, _, _, _, _, g 0, g 1, g 2, g 3, g 4, g 5, g 6, g 7, g 8, g 9, g 10, g 11, g 12, g 13, g 14, g 15, g 16, g 17, g 18, g 19, g 20, g 21, g 22, g 23, g 24, g 25, g 26, g 27, g 28, g 29, g 30, g 31, g 32, g 33, g 34, g 35, g 36, g 37, g 38, g 39, g 40, g 41, g 42, g 43, g 44, g 45, _, g 47, g 48, g 49, g 50, g 51, g 52, g 53, g 54, g 55, g 56, g 57, g 58, g 59, g 60, g 61, g 62, g 63, g 64, g 65, g 66, g 67, g 68, g 69, g 70, g 71, g 72], _⟩ _ := hK.out (setG g 46 (.slice (some ⟨lb, lo, none⟩) 2 lc)) u (S.set 46 (.slice (some ⟨lb, lo, none⟩) 2 lc) (Below.refl _ u) rfl)
    clear hK
    simp only [hg] at nx
    exact nx
  case s47 =>
    intro l g u hl haf S K hK
    have hg : g 45 = .bool true := S.f 45 (haf 45 (by kernel_rfl))
    have hd1 : g 46 = .slice (some ⟨lb, lo, none⟩) 2 lc := S.f 46 (haf 46 (by kernel_rfl))
    refine ⟨?_⟩
    simp only [putA, hg, hd1]
    go_simp
    have nx : K ⟨#[g 73, _, _, _, _, _, _, _, _, _, _, _, _, g 0, g 1, g 2, g 3, g 4, g 5, g 6, g 7, g 8, g 9, g 10, g 11, g 12, g 13, g 14, g 15, g 16, g 17, g 18, g 19, g 20, g 21, g 22, g 23, g 24, g 25, g 26, g 27, g 28, g 29, g 30, g 31, g 32, g 33, g 34, g 35, g 36, g 37, g 38, g 39, g 40, g 41, g 42, g 43, g 44, g 45, g 46, _, g 48, g 49, g 50, g 51, g 52, g 53, g 54, g 55, g 56, g 57, g 58, g 59, g 60, g 61, g 62, g 63, g 64, g 65, g 66, g 67, g 68, g 69, g 70, g 71, g 72], _⟩ _ := hK.out (setG g 47 (.int .i64 2)) u (S.set 47 (.int .i64 2) (Below.refl _ u) rfl)
    clear hK
    simp only [hg, hd1] at nx
    exact nx
  case s48 =>
    intro l g u hl haf S K hK
    have hg : g 45 = .bool true := S.f 45 (haf 45 (by kernel_rfl))
    have hd1 : g 47 = .int .i64 2 := S.f 47 (haf 47 (by kernel_rfl))
    refine ⟨?_⟩
    simp only [putA, hg, hd1]
    go_simp
    have nx : K ⟨#[g 73, _, _, _, _, _, _, _, _, _, _, _, _, g 0, g 1, g 2, g 3, g 4, g 5, g 6, g 7, g 8, g 9, g 10, g 11, g 12, g 13, g 14, g 15, g 16, g 17, g 18, g 19, g 20, g 21, g 22, g 23, g 24, g 25, g 26, g 27, g 28, g 29, g 30, g 31, g 32, g 33, g 34, g 35, g 36, g 37, g 38, g 39, g 40, g 41, g 42, g 43, g 44, g 45, g 46, g 47, _, g 49, g 50, g 51, g 52, g 53, g 54, g 55, g 56, g 57, g 58, g 59, g 60, g 61, g 62, g 63, g 64, g 65, g 66, g 67, g 68, g 69, g 70, g 71, g 72], _⟩ _ := hK.out (setG g 48 (.bool true)) u (S.set 48 (.bool true) (Below.refl _ u) rfl)
    clear hK
    simp only [hg, hd1] at nx
    exact nx
  case s49 =>
    intro l g u hl haf S K hK
    have hd1 : g 45 = .bool true := S.f 45 (haf 45 (by kernel_rfl))
    have hd2 : g 48 = .bool true := S.f 48 (haf 48 (by kernel_rfl))
    refine ⟨?_⟩
    simp only [putA, hd1, hd2]
    go_simp
    have nx : K ⟨#[g 73, _, _, _, _, _, _, _, _, _, _, _, _, g 0, g 1, g 2, g 3, g 4, g 5, g 6, g 7, g 8, g 9, g 10, g 11, g 12, g 13, g 14, g 15, g 16, g 17, g 18, g 19, g 20, g 21, g 22, g 23, g 24, g 25, g 26, g 27, g 28, g 29, g 30, g 31, g 32, g 33, g 34, g 35, g 36, g 37, g 38, g 39, g 40, g 41, g 42, g 43, g 44, g 45, g 46, g 47, g 48, _, g 50, g 51, g 52, g 53, g 54, g 55, g 56, g 57, g 58, g 59, g 60, g 61, g 62, g 63, g 64, g 65, g 66, g 67, g 68, g 69, g 70, g 71, g 72], _⟩ _ := hK.out (setG g 49 (.bool true)) u (S.set 49 (.bool true) (Below.refl _ u) rfl)
    clear hK
    simp only [hd1, hd2] at nx
    exact nx
  case s50 =>
    intro l g u hl haf S K hK
    have hd1 : g 49 = .bool true := S.f 49 (haf 49 (by kernel_rfl))
    refine ⟨?_⟩
    simp only [putA, hd1]
    go_simp
    have nx : K ⟨#[g 73, _, _, _, _, _, _, _, _, _, _, _, _, g 0, g 1, g 2, g 3, g 4, g 5, g 6, g 7, g 8, g 9, g 10, g 11, g 12, g 13, g 14, g 15, g 16, g 17, g 18, g 19, g 20, g 21, g 22, g 23, g 24, g 25, g 26, g 27, g 28, g 29, g 30, g 31, g 32, g 33, g 34, g 35, g 36, g 37, g 38, g 39, g 40, g 41, g 42, g 43, g 44, g 45, g 46, g 47, g 48, g 49, _, g 51, g 52, g 53, g 54, g 55, g 56, g 57, g 58, g 59, g 60, g 61, g 62, g 63, g 64, g 65, g 66, g 67, g 68, g 69, g 70, g 71, g 72], _⟩ _ := hK.out (setG g 50 (.bool true)) u (S.set 50 (.bool true) (Below.refl _ u) rfl)
    clear hK
    simp only [hd1] at nx
    exact nx
  case s51 =>
    intro l g u hl haf S K hK
    have hg : g 50 = .bool true := S.f 50 (haf 50 (by kernel_rfl))
    refine ⟨?_⟩
    simp only [putA, hg]
    go_simp
    have nx : K ⟨#[g 73, _, _, _, _, _, _, _, _, _, _, _, _, g 0, g 1, g 2, g 3, g 4, g 5, g 6, g 7, g 8, g 9, g 10, g 11, g 12, g 13, g 14, g 15, g 16, g 17, g 18, g 19, g 20, g 21, g 22, g 23, g 24, g 25, g 26, g 27, g 28, g 29, g 30, g 31, g 32, g 33, g 34, g 35, g 36, g 37, g 38, g 39, g 40, g 41, g 42, g 43, g 44, g 45, g 46, g 47, g 48, g 49, g 50, _, g 52, g 53, g 54, g 55, g 56, g 57, g 58, g 59, g 60, g 61, g 62, g 63, g 64, g 65, g 66, g 67, g 68, g 69, g 70, g 71, g 72], _⟩ _ := hK.out (setG g 51 (.slice (some ⟨lb, lo, none⟩) 2 lc)) u (S.set 51 (.slice (some ⟨lb, lo, none⟩) 2 lc) (Below.refl _ u) rfl)
    clear hK
    simp only [hg] at nx
    exact nx
  case s52 =>
    intro l g u hl haf S K hK
    have hg : g 50 = .bool true := S.f 50 (haf 50 (by kernel_rfl))
    have hd1 : g 51 = .slice (some ⟨lb, lo, none⟩) 2 lc := S.f 51 (haf 51 (by kernel_rfl))
    refine ⟨?_⟩
    simp only [putA, hg, hd1]
    go_simp
    have nx : K ⟨#[g 73, _, _, _, _, _, _, _, _, _, _, _, _, g 0, g 1, g 2, g 3, g 4, g 5, g 6, g 7, g 8, g 9, g 10, g 11, g 12, g 13, g 14, g 15, g 16, g 17, g 18, g 19, g 20, g 21, g 22, g 23, g 24, g 25, g 26, g 27, g 28, g 29, g 30, g 31, g 32, g 33, g 34, g 35, g 36, g 37, g 38, g 39, g 40, g 41, g 42, g 43, g 44, g 45, g 46, g 47, g 48, g 49, g 50, g 51, _, g 53, g 54, g 55, g 56, g 57, g 58, g 59, g 60, g 61, g 62, g 63, g 64, g 65, g 66, g 67, g 68, g 69, g 70, g 71, g 72], _⟩ _ := hK.out (setG g 52 (.pointer (some ⟨lb, lo + 2, none⟩))) u (S.set 52 (.pointer (some ⟨lb, lo + 2, none⟩)) (Below.refl _ u) rfl)
    clear hK
    simp only [hg, hd1] at nx
    exact nx
  case s53 =>
    intro l g u hl haf S K hK
    have hg : g 50 = .bool true := S.f 50 (haf 50 (by kernel_rfl))
    have hd1 : g 52 = .pointer (some ⟨lb, lo + 2, none⟩) := S.f 52 (haf 52 (by kernel_rfl))
    refine ⟨?_⟩
    simp only [putA, hg, hd1]
    go_simp
    have nx : K ⟨#[g 73, _, _, _, _, _, _, _, _, _, _, _, _, g 0, g 1, g 2, g 3, g 4, g 5, g 6, g 7, g 8, g 9, g 10, g 11, g 12, g 13, g 14, g 15, g 16, g 17, g 18, g 19, g 20, g 21, g 22, g 23, g 24, g 25, g 26, g 27, g 28, g 29, g 30, g 31, g 32, g 33, g 34, g 35, g 36, g 37, g 38, g 39, g 40, g 41, g 42, g 43, g 44, g 45, g 46, g 47, g 48, g 49, g 50, g 51, g 52, _, g 54, g 55, g 56, g 57, g 58, g 59, g 60, g 61, g 62, g 63, g 64, g 65, g 66, g 67, g 68, g 69, g 70, g 71, g 72], _⟩ _ := hK.out (setG g 53 (.pointer (some ⟨lb, lo + 2, none⟩))) u (S.set 53 (.pointer (some ⟨lb, lo + 2, none⟩)) (Below.refl _ u) rfl)
    clear hK
    simp only [hg, hd1] at nx
    exact nx
  case s54 =>
    intro l g u hl haf S K hK
    have hg : g 50 = .bool true := S.f 50 (haf 50 (by kernel_rfl))
    have hd1 : g 53 = .pointer (some ⟨lb, lo + 2, none⟩) := S.f 53 (haf 53 (by kernel_rfl))
    have lc0 := S.base.c0
    have lc1 := S.base.c1
    have ll0 := S.base.l0
    refine ⟨?_⟩
    simp only [putA, hg, hd1]
    go_simp
    have nx : K ⟨#[g 73, _, _, _, _, _, _, _, _, _, _, _, _, g 0, g 1, g 2, g 3, g 4, g 5, g 6, g 7, g 8, g 9, g 10, g 11, g 12, g 13, g 14, g 15, g 16, g 17, g 18, g 19, g 20, g 21, g 22, g 23, g 24, g 25, g 26, g 27, g 28, g 29, g 30, g 31, g 32, g 33, g 34, g 35, g 36, g 37, g 38, g 39, g 40, g 41, g 42, g 43, g 44, g 45, g 46, g 47, g 48, g 49, g 50, g 51, g 52, g 53, _, g 55, g 56, g 57, g 58, g 59, g 60, g 61, g 62, g 63, g 64, g 65, g 66, g 67, g 68, g 69, g 70, g 71, g 72], _⟩ _ := hK.out (setG g 54 (.string ls)) u (S.set 54 (.string ls) (Below.refl _ u) rfl)
    clear hK
    simp only [hg, hd1] at nx
    exact nx
  case s55 =>
    intro l g u hl haf S K hK
    have hg : g 50 = .bool true := S.f 50 (haf 50 (by kernel_rfl))
    have hd1 : g 54 = .string ls := S.f 54 (haf 54 (by kernel_rfl))
    refine ⟨?_⟩
    simp only [putA, hg, hd1]
    go_simp
    have nx : K ⟨#[g 73, _, _, _, _, _, _, _, _, _, _, _, _, g 0, g 1, g 2, g 3, g 4, g 5, g 6, g 7, g 8, g 9, g 10, g 11, g 12, g 13, g 14, g 15, g 16, g 17, g 18, g 19, g 20, g 21, g 22, g 23, g 24, g 25, g 26, g 27, g 28, g 29, g 30, g 31, g 32, g 33, g 34, g 35, g 36, g 37, g 38, g 39, g 40, g 41, g 42, g 43, g 44, g 45, g 46, g 47, g 48, g 49, g 50, g 51, g 52, g 53, g 54, _, g 56, g 57, g 58, g 59, g 60, g 61, g 62, g 63, g 64, g 65, g 66, g 67, g 68, g 69, g 70, g 71, g 72], _⟩ _ := hK.out (setG g 55 (.bool true)) u (S.set 55 (.bool true) (Below.refl _ u) rfl)
    clear hK
    simp only [hg, hd1] at nx
    exact nx
  case s56 =>
    intro l g u hl haf S K hK
    have hd1 : g 50 = .bool true := S.f 50 (haf 50 (by kernel_rfl))
    have hd2 : g 55 = .bool true := S.f 55 (haf 55 (by kernel_rfl))
    refine ⟨?_⟩
    simp only [putA, hd1, hd2]
    go_simp
    have nx : K ⟨#[g 73, _, _, _, _, _, _, _, _, _, _, _, _, g 0, g 1, g 2, g 3, g 4, g 5, g 6, g 7, g 8, g 9, g 10, g 11, g 12, g 13, g 14, g 15, g 16, g 17, g 18, g 19, g 20, g 21, g 22, g 23, g 24, g 25, g 26, g 27, g 28, g 29, g 30, g 31, g 32, g 33, g 34, g 35, g 36, g 37, g 38, g 39, g 40, g 41, g 42, g 43, g 44, g 45, g 46, g 47, g 48, g 49, g 50, g 51, g 52, g 53, g 54, g 55, _, g 57, g 58, g 59, g 60, g 61, g 62, g 63, g 64, g 65, g 66, g 67, g 68, g 69, g 70, g 71, g 72], _⟩ _ := hK.out (setG g 56 (.bool true)) u (S.set 56 (.bool true) (Below.refl _ u) rfl)
    clear hK
    simp only [hd1, hd2] at nx
    exact nx
  case s57 =>
    intro l g u hl haf S K hK
    have hd1 : g 56 = .bool true := S.f 56 (haf 56 (by kernel_rfl))
    refine ⟨?_⟩
    simp only [putA, hd1]
    go_simp
    have nx : K ⟨#[g 73, _, _, _, _, _, _, _, _, _, _, _, _, g 0, g 1, g 2, g 3, g 4, g 5, g 6, g 7, g 8, g 9, g 10, g 11, g 12, g 13, g 14, g 15, g 16, g 17, g 18, g 19, g 20, g 21, g 22, g 23, g 24, g 25, g 26, g 27, g 28, g 29, g 30, g 31, g 32, g 33, g 34, g 35, g 36, g 37, g 38, g 39, g 40, g 41, g 42, g 43, g 44, g 45, g 46, g 47, g 48, g 49, g 50, g 51, g 52, g 53, g 54, g 55, g 56, _, g 58, g 59, g 60, g 61, g 62, g 63, g 64, g 65, g 66, g 67, g 68, g 69, g 70, g 71, g 72], _⟩ _ := hK.out (setG g 57 (.bool true)) u (S.set 57 (.bool true) (Below.refl _ u) rfl)
    clear hK
    simp only [hd1] at nx
    exact nx
  case s58 =>
    intro l g u hl haf S K hK
    have hg : g 57 = .bool true := S.f 57 (haf 57 (by kernel_rfl))
    refine ⟨?_⟩
    simp only [putA, hg]
    go_simp
    refine (small_any _).mono ?_
    rintro e u2 ⟨k, rfl, hs, _, hB⟩
    have nx : K ⟨#[g 73, _, _, _, _, _, _, _, _, _, _, _, _, g 0, g 1, g 2, g 3, g 4, g 5, g 6, g 7, g 8, g 9, g 10, g 11, g 12, g 13, g 14, g 15, g 16, g 17, g 18, g 19, g 20, g 21, g 22, g 23, g 24, g 25, g 26, g 27, g 28, g 29, g 30, g 31, g 32, g 33, g 34, g 35, g 36, g 37, g 38, g 39, g 40, g 41, g 42, g 43, g 44, g 45, g 46, g 47, g 48, g 49, g 50, g 51, g 52, g 53, g 54, g 55, g 56, g 57, _, g 59, g 60, g 61, g 62, g 63, g 64, g 65, g 66, g 67, g 68, g 69, g 70, g 71, g 72], _⟩ _ := hK.out (setG g 58 (.agg #[.slice (some ⟨k + 3, 0, none⟩) 2 2, .slice (some ⟨k + 6, 0, none⟩) 1 1])) u2 (S.set 58 (.agg #[.slice (some ⟨k + 3, 0, none⟩) 2 2, .slice (some ⟨k + 6, 0, none⟩) 1 1]) hB ⟨k, rfl, hs⟩)
    clear hK
    simp only [hg] at nx
    exact nx
  case s59 =>
    intro l g u hl haf S K hK
    have hg : g 57 = .bool true := S.f 57 (haf 57 (by kernel_rfl))
    refine ⟨?_⟩
    simp only [putA, hg]
    go_simp
    refine (small_any _).mono ?_
    rintro e u2 ⟨k, rfl, hs, _, hB⟩
    have nx : K ⟨#[g 73, _, _, _, _, _, _, _, _, _, _, _, _, g 0, g 1, g 2, g 3, g 4, g 5, g 6, g 7, g 8, g 9, g 10, g 11, g 12, g 13, g 14, g 15, g 16, g 17, g 18, g 19, g 20, g 21, g 22, g 23, g 24, g 25, g 26, g 27, g 28, g 29, g 30, g 31, g 32, g 33, g 34, g 35, g 36, g 37, g 38, g 39, g 40, g 41, g 42, g 43, g 44, g 45, g 46, g 47, g 48, g 49, g 50, g 51, g 52, g 53, g 54, g 55, g 56, g 57, g 58, _, g 60, g 61, g 62, g 63, g 64, g 65, g 66, g 67, g 68, g 69, g 70, g 71, g 72], _⟩ _ := hK.out (setG g 59 (.agg #[.slice (some ⟨k + 3, 0, none⟩) 2 2, .slice (some ⟨k + 6, 0, none⟩) 1 1])) u2 (S.set 59 (.agg #[.slice (some ⟨k + 3, 0, none⟩) 2 2, .slice (some ⟨k + 6, 0, none⟩) 1 1]) hB ⟨k, rfl, hs⟩)
    clear hK
    simp only [hg] at nx
    exact nx
  case s60 =>
    intro l g u hl haf S K hK
    have hg : g 57 = .bool true := S.f 57 (haf 57 (by kernel_rfl))
    obtain ⟨n1, hv1, hs⟩ := S.f 58 (haf 58 (by kernel_rfl))
    obtain ⟨n2, hv2, hs2⟩ := S.f 59 (haf 59 (by kernel_rfl))
    refine ⟨?_⟩
    simp only [putA, hg, hv1, hv2]
    go_simp
    refine (sxx hs hs2).mono ?_
    rintro e u2 ⟨rfl, hB⟩
    have nx : K ⟨#[g 73, _, _, _, _, _, _, _, _, _, _, _, _, g 0, g 1, g 2, g 3, g 4, g 5, g 6, g 7, g 8, g 9, g 10, g 11, g 12, g 13, g 14, g 15, g 16, g 17, g 18, g 19, g 20, g 21, g 22, g 23, g 24, g 25, g 26, g 27, g 28, g 29, g 30, g 31, g 32, g 33, g 34, g 35, g 36, g 37, g 38, g 39, g 40, g 41, g 42, g 43, g 44, g 45, g 46, g 47, g 48, g 49, g 50, g 51, g 52, g 53, g 54, g 55, g 56, g 57, g 58, g 59, _, g 61, g 62, g 63, g 64, g 65, g 66, g 67, g 68, g 69, g 70, g 71, g 72], _⟩ _ := hK.out (setG g 60 (.bool true)) u2 (S.set 60 (.bool true) hB rfl)
    clear hK
    simp only [hg, hv1, hv2] at nx
    exact nx
  case s61 =>
    intro l g u hl haf S K hK
    have hd1 : g 57 = .bool true := S.f 57 (haf 57 (by kernel_rfl))
    have hd2 : g 60 = .bool true := S.f 60 (haf 60 (by kernel_rfl))
    refine ⟨?_⟩
    simp only [putA, hd1, hd2]
    go_simp
    have nx : K ⟨#[g 73, _, _, _, _, _, _, _, _, _, _, _, _, g 0, g 1, g 2, g 3, g 4, g 5, g 6, g 7, g 8, g 9, g 10, g 11, g 12, g 13, g 14, g 15, g 16, g 17, g 18, g 19, g 20, g 21, g 22, g 23, g 24, g 25, g 26, g 27, g 28, g 29, g 30, g 31, g 32, g 33, g 34, g 35, g 36, g 37, g 38, g 39, g 40, g 41, g 42, g 43, g 44, g 45, g 46, g 47, g 48, g 49, g 50, g 51, g 52, g 53, g 54, g 55, g 56, g 57, g 58, g 59, g 60, _, g 62, g 63, g 64, g 65, g 66, g 67, g 68, g 69, g 70, g 71, g 72], _⟩ _ := hK.out (setG g 61 (.bool true)) u (S.set 61 (.bool true) (Below.refl _ u) rfl)
    clear hK
    simp only [hd1, hd2] at nx
    exact nx
  case s62 =>
    intro l g u hl haf S K hK
    have hd1 : g 61 = .bool true := S.f 61 (haf 61 (by kernel_rfl))
    refine ⟨?_⟩
    simp only [putA, hd1]
    go_simp
    have nx : K ⟨#[g 73, _, _, _, _, _, _, _, _, _, _, _, _, g 0, g 1, g 2, g 3, g 4, g 5, g 6, g 7, g 8, g 9, g 10, g 11, g 12, g 13, g 14, g 15, g 16, g 17, g 18, g 19, g 20, g 21, g 22, g 23, g 24, g 25, g 26, g 27, g 28, g 29, g 30, g 31, g 32, g 33, g 34, g 35, g 36, g 37, g 38, g 39, g 40, g 41, g 42, g 43, g 44, g 45, g 46, g 47, g 48, g 49, g 50, g 51, g 52, g 53, g 54, g 55, g 56, g 57, g 58, g 59, g 60, g 61, _, g 63, g 64, g 65, g 66, g 67, g 68, g 69, g 70, g 71, g 72], _⟩ _ := hK.out (setG g 62 (.bool true)) u (S.set 62 (.bool true) (Below.refl _ u) rfl)
    clear hK
    simp only [hd1] at nx
    exact nx
  case s63 =>
    intro l g u hl haf S K hK
    have hg : g 62 = .bool true := S.f 62 (haf 62 (by kernel_rfl))
    refine ⟨?_⟩
    simp only [putA, hg]
    go_simp
    refine (small_any _).mono ?_
    rintro e u2 ⟨k, rfl, hs, _, hB⟩
    have nx : K ⟨#[g 73, _, _, _, _, _, _, _, _, _, _, _, _, g 0, g 1, g 2, g 3, g 4, g 5, g 6, g 7, g 8, g 9, g 10, g 11, g 12, g 13, g 14, g 15, g 16, g 17, g 18, g 19, g 20, g 21, g 22, g 23, g 24, g 25, g 26, g 27, g 28, g 29, g 30, g 31, g 32, g 33, g 34, g 35, g 36, g 37, g 38, g 39, g 40, g 41, g 42, g 43, g 44, g 45, g 46, g 47, g 48, g 49, g 50, g 51, g 52, g 53, g 54, g 55, g 56, g 57, g 58, g 59, g 60, g 61, g 62, _, g 64, g 65, g 66, g 67, g 68, g 69, g 70, g 71, g 72], _⟩ _ := hK.out (setG g 63 (.agg #[.slice (some ⟨k + 3, 0, none⟩) 2 2, .slice (some ⟨k + 6, 0, none⟩) 1 1])) u2 (S.set 63 (.agg #[.slice (some ⟨k + 3, 0, none⟩) 2 2, .slice (some ⟨k + 6, 0, none⟩) 1 1]) hB ⟨k, rfl, hs⟩)
    clear hK
    simp only [hg] at nx
    exact nx
  case s64 =>
    intro l g u hl haf S K hK
    have hg : g 62 = .bool true := S.f 62 (haf 62 (by kernel_rfl))
    have lc0 := S.base.c0
    have lc1 := S.base.c1
    have ll0 := S.base.l0
    refine ⟨?_⟩
    simp only [putA, hg]
    go_simp
    have nx : K ⟨#[g 73, _, _, _, _, _, _, _, _, _, _, _, _, g 0, g 1, g 2, g 3, g 4, g 5, g 6, g 7, g 8, g 9, g 10, g 11, g 12, g 13, g 14, g 15, g 16, g 17, g 18, g 19, g 20, g 21, g 22, g 23, g 24, g 25, g 26, g 27, g 28, g 29, g 30, g 31, g 32, g 33, g 34, g 35, g 36, g 37, g 38, g 39, g 40, g 41, g 42, g 43, g 44, g 45, g 46, g 47, g 48, g 49, g 50, g 51, g 52, g 53, g 54, g 55, g 56, g 57, g 58, g 59, g 60, g 61, g 62, g 63, _, g 65, g 66, g 67, g 68, g 69, g 70, g 71, g 72], _⟩ _ := hK.out (setG g 64 (.agg #[.slice (some ⟨n + 3, 0, none⟩) 2 2, .slice (some ⟨n + 6, 0, none⟩) 1 1])) u (S.set 64 (.agg #[.slice (some ⟨n + 3, 0, none⟩) 2 2, .slice (some ⟨n + 6, 0, none⟩) 1 1]) (Below.refl _ u) rfl)
    clear hK
    simp only [hg] at nx
    exact nx
  case s65 =>
    intro l g u hl haf S K hK
    have hg : g 62 = .bool true := S.f 62 (haf 62 (by kernel_rfl))
    obtain ⟨n1, hv1, hs⟩ := S.f 63 (haf 63 (by kernel_rfl))
    have hd2 : g 64 = .agg #[.slice (some ⟨n + 3, 0, none⟩) 2 2, .slice (some ⟨n + 6, 0, none⟩) 1 1] := S.f 64 (haf 64 (by kernel_rfl))
    refine ⟨?_⟩
    simp only [putA, hg, hv1, hd2]
    go_simp
    refine (sxy hs S.base.small).mono ?_
    rintro e u2 ⟨rfl, hB⟩
    have nx : K ⟨#[g 73, _, _, _, _, _, _, _, _, _, _, _, _, g 0, g 1, g 2, g 3, g 4, g 5, g 6, g 7, g 8, g 9, g 10, g 11, g 12, g 13, g 14, g 15, g 16, g 17, g 18, g 19, g 20, g 21, g 22, g 23, g 24, g 25, g 26, g 27, g 28, g 29, g 30, g 31, g 32, g 33, g 34, g 35, g 36, g 37, g 38, g 39, g 40, g 41, g 42, g 43, g 44, g 45, g 46, g 47, g 48, g 49, g 50, g 51, g 52, g 53, g 54, g 55, g 56, g 57, g 58, g 59, g 60, g 61, g 62, g 63, g 64, _, g 66, g 67, g 68, g 69, g 70, g 71, g 72], _⟩ _ := hK.out (setG g 65 (.bool false)) u2 (S.set 65 (.bool false) hB rfl)
    clear hK
    simp only [hg, hv1, hd2] at nx
    exact nx
  case s66 =>
    intro l g u hl haf S K hK
    have hg : g 62 = .bool true := S.f 62 (haf 62 (by kernel_rfl))
    have hd1 : g 65 = .bool false := S.f 65 (haf 65 (by kernel_rfl))
    refine ⟨?_⟩
    simp only [putA, hg, hd1]
    go_simp
    have nx : K ⟨#[g 73, _, _, _, _, _, _, _, _, _, _, _, _, g 0, g 1, g 2, g 3, g 4, g 5, g 6, g 7, g 8, g 9, g 10, g 11, g 12, g 13, g 14, g 15, g 16, g 17, g 18, g 19, g 20, g 21, g 22, g 23, g 24, g 25, g 26, g 27, g 28, g 29, g 30, g 31, g 32, g 33, g 34, g 35, g 36, g 37, g 38, g 39, g 40, g 41, g 42, g 43, g 44, g 45, g 46, g 47, g 48, g 49, g 50, g 51, g 52, g 53, g 54, g 55, g 56, g 57, g 58, g 59, g 60, g 61, g 62, g 63, g 64, g 65, _, g 67, g 68, g 69, g 70, g 71, g 72], _⟩ _ := hK.out (setG g 66 (.bool true)) u (S.set 66 (.bool true) (Below.refl _ u) rfl)
    clear hK
    simp only [hg, hd1] at nx
    exact nx
  case s67 =>
    intro l g u hl haf S K hK
    have hd1 : g 62 = .bool true := S.f 62 (haf 62 (by kernel_rfl))
    have hd2 : g 66 = .bool true := S.f 66 (haf 66 (by kernel_rfl))
    refine ⟨?_⟩
    simp only [putA, hd1, hd2]
    go_simp
    have nx : K ⟨#[g 73, _, _, _, _, _, _, _, _, _, _, _, _, g 0, g 1, g 2, g 3, g 4, g 5, g 6, g 7, g 8, g 9, g 10, g 11, g 12, g 13, g 14, g 15, g 16, g 17, g 18, g 19, g 20, g 21, g 22, g 23, g 24, g 25, g 26, g 27, g 28, g 29, g 30, g 31, g 32, g 33, g 34, g 35, g 36, g 37, g 38, g 39, g 40, g 41, g 42, g 43, g 44, g 45, g 46, g 47, g 48, g 49, g 50, g 51, g 52, g 53, g 54, g 55, g 56, g 57, g 58, g 59, g 60, g 61, g 62, g 63, g 64, g 65, g 66, _, g 68, g 69, g 70, g 71, g 72], _⟩ _ := hK.out (setG g 67 (.bool true)) u (S.set 67 (.bool true) (Below.refl _ u) rfl)
    clear hK
    simp only [hd1, hd2] at nx
    exact nx
  case s68 =>
    intro l g u hl haf S K hK
    have hd1 : g 67 = .bool true := S.f 67 (haf 67 (by kernel_rfl))
    refine ⟨?_⟩
    simp only [putA, hd1]
    go_simp
    have nx : K ⟨#[g 73, _, _, _, _, _, _, _, _, _, _, _, _, g 0, g 1, g 2, g 3, g 4, g 5, g 6, g 7, g 8, g 9, g 10, g 11, g 12, g 13, g 14, g 15, g 16, g 17, g 18, g 19, g 20, g 21, g 22, g 23, g 24, g 25, g 26, g 27, g 28, g 29, g 30, g 31, g 32, g 33, g 34, g 35, g 36, g 37, g 38, g 39, g 40, g 41, g 42, g 43, g 44, g 45, g 46, g 47, g 48, g 49, g 50, g 51, g 52, g 53, g 54, g 55, g 56, g 57, g 58, g 59, g 60, g 61, g 62, g 63, g 64, g 65, g 66, g 67, _, g 69, g 70, g 71, g 72], _⟩ _ := hK.out (setG g 68 (.bool true)) u (S.set 68 (.bool true) (Below.refl _ u) rfl)
    clear hK
    simp only [hd1] at nx
    exact nx
  case s69 =>
    intro l g u hl haf S K hK
    have hg : g 68 = .bool true := S.f 68 (haf 68 (by kernel_rfl))
    refine ⟨?_⟩
    simp only [putA, hg]
    go_simp
    refine (small_any _).mono ?_
    rintro e u2 ⟨k, rfl, hs, _, hB⟩
    have nx : K ⟨#[g 73, _, _, _, _, _, _, _, _, _, _, _, _, g 0, g 1, g 2, g 3, g 4, g 5, g 6, g 7, g 8, g 9, g 10, g 11, g 12, g 13, g 14, g 15, g 16, g 17, g 18, g 19, g 20, g 21, g 22, g 23, g 24, g 25, g 26, g 27, g 28, g 29, g 30, g 31, g 32, g 33, g 34, g 35, g 36, g 37, g 38, g 39, g 40, g 41, g 42, g 43, g 44, g 45, g 46, g 47, g 48, g 49, g 50, g 51, g 52, g 53, g 54, g 55, g 56, g 57, g 58, g 59, g 60, g 61, g 62, g 63, g 64, g 65, g 66, g 67, g 68, _, g 70, g 71, g 72], _⟩ _ := hK.out (setG g 69 (.agg #[.slice (some ⟨k + 3, 0, none⟩) 2 2, .slice (some ⟨k + 6, 0, none⟩) 1 1])) u2 (S.set 69 (.agg #[.slice (some ⟨k + 3, 0, none⟩) 2 2, .slice (some ⟨k + 6, 0, none⟩) 1 1]) hB ⟨k, rfl, hs⟩)
    clear hK
    simp only [hg] at nx
    exact nx
  case s70 =>
    intro l g u hl haf S K hK
    have hg : g 68 = .bool true := S.f 68 (haf 68 (by kernel_rfl))
    obtain ⟨n1, hv1, hs⟩ := S.f 69 (haf 69 (by kernel_rfl))
    refine ⟨?_⟩
    simp only [putA, hg, hv1]
    go_simp
    refine (nx hs).mono ?_
    rintro e u2 ⟨rfl, hB⟩
    have nx : K ⟨#[g 73, _, _, _, _, _, _, _, _, _, _, _, _, g 0, g 1, g 2, g 3, g 4, g 5, g 6, g 7, g 8, g 9, g 10, g 11, g 12, g 13, g 14, g 15, g 16, g 17, g 18, g 19, g 20, g 21, g 22, g 23, g 24, g 25, g 26, g 27, g 28, g 29, g 30, g 31, g 32, g 33, g 34, g 35, g 36, g 37, g 38, g 39, g 40, g 41, g 42, g 43, g 44, g 45, g 46, g 47, g 48, g 49, g 50, g 51, g 52, g 53, g 54, g 55, g 56, g 57, g 58, g 59, g 60, g 61, g 62, g 63, g 64, g 65, g 66, g 67, g 68, g 69, _, g 71, g 72], _⟩ _ := hK.out (setG g 70 (.int .i64 18)) u2 (S.set 70 (.int .i64 18) hB rfl)
    clear hK
    simp only [hg, hv1] at nx
    exact nx
  case s71 =>
    intro l g u hl haf S K hK
    have hg : g 68 = .bool true := S.f 68 (haf 68 (by kernel_rfl))
    have hd1 : g 70 = .int .i64 18 := S.f 70 (haf 70 (by kernel_rfl))
    refine ⟨?_⟩
    simp only [putA, hg, hd1]
    go_simp
    have nx : K ⟨#[g 73, _, _, _, _, _, _, _, _, _, _, _, _, g 0, g 1, g 2, g 3, g 4, g 5, g 6, g 7, g 8, g 9, g 10, g 11, g 12, g 13, g 14, g 15, g 16, g 17, g 18, g 19, g 20, g 21, g 22, g 23, g 24, g 25, g 26, g 27, g 28, g 29, g 30, g 31, g 32, g 33, g 34, g 35, g 36, g 37, g 38, g 39, g 40, g 41, g 42, g 43, g 44, g 45, g 46, g 47, g 48, g 49, g 50, g 51, g 52, g 53, g 54, g 55, g 56, g 57, g 58, g 59, g 60, g 61, g 62, g 63, g 64, g 65, g 66, g 67, g 68, g 69, g 70, _, g 72], _⟩ _ := hK.out (setG g 71 (.bool true)) u (S.set 71 (.bool true) (Below.refl _ u) rfl)
    clear hK
    simp only [hg, hd1] at nx
    exact nx
  case s72 =>
    intro l g u hl haf S K hK
    have hd1 : g 68 = .bool true := S.f 68 (haf 68 (by kernel_rfl))
    have hd2 : g 71 = .bool true := S.f 71 (haf 71 (by kernel_rfl))
    refine ⟨?_⟩
    simp only [putA, hd1, hd2]
    go_simp
    have nx : K ⟨#[g 73, _, _, _, _, _, _, _, _, _, _, _, _, g 0, g 1, g 2, g 3, g 4, g 5, g 6, g 7, g 8, g 9, g 10, g 11, g 12, g 13, g 14, g 15, g 16, g 17, g 18, g 19, g 20, g 21, g 22, g 23, g 24, g 25, g 26, g 27, g 28, g 29, g 30, g 31, g 32, g 33, g 34, g 35, g 36, g 37, g 38, g 39, g 40, g 41, g 42, g 43, g 44, g 45, g 46, g 47, g 48, g 49, g 50, g 51, g 52, g 53, g 54, g 55, g 56, g 57, g 58, g 59, g 60, g 61, g 62, g 63, g 64, g 65, g 66, g 67, g 68, g 69, g 70, g 71, _], _⟩ _ := hK.out (setG g 72 (.bool true)) u (S.set 72 (.bool true) (Below.refl _ u) rfl)
    clear hK
    simp only [hd1, hd2] at nx
    exact nx
  case s73 =>
    intro l g u hl haf S K hK
    have hd1 : g 72 = .bool true := S.f 72 (haf 72 (by kernel_rfl))
    refine ⟨?_⟩
    simp only [putA, hd1]
    go_simp
    have nx : K ⟨#[_, _, _, _, _, _, _, _, _, _, _, _, _, g 0, g 1, g 2, g 3, g 4, g 5, g 6, g 7, g 8, g 9, g 10, g 11, g 12, g 13, g 14, g 15, g 16, g 17, g 18, g 19, g 20, g 21, g 22, g 23, g 24, g 25, g 26, g 27, g 28, g 29, g 30, g 31, g 32, g 33, g 34, g 35, g 36, g 37, g 38, g 39, g 40, g 41, g 42, g 43, g 44, g 45, g 46, g 47, g 48, g 49, g 50, g 51, g 52, g 53, g 54, g 55, g 56, g 57, g 58, g 59, g 60, g 61, g 62, g 63, g 64, g 65, g 66, g 67, g 68, g 69, g 70, g 71, g 72], _⟩ _ := hK.out (setG g 73 (.bool true)) u (S.set 73 (.bool true) (Below.refl _ u) rfl)
    clear hK
    simp only [hd1] at nx
    exact nx
  case hd =>
    intro g u l hall S
    have h73 : g 73 = .bool true := S.f 73 (hall 73 (by decide))
    refine ⟨?_⟩
    simp only [putA, h73]
    go_wp2_with fail
    go_ret
    exact ⟨rfl, S.base.below⟩
end Go.Proofs.Ythoakeekfajhaaa
