/-
  What Parse of the program answers.
  How far the document's reader has come with a model. Nothing of the program's text.
-/
import Derived.Test.YtfkakdpppejehaaGreatZYAZ
import Derived.Test.YtfkakdpppejehaaGreatZYBF
import Derived.Test.YtfkakdpppejehaaGreatZYBG
import Derived.Test.YtfkakdpppejehaaGreatZYBH
import Derived.Test.YtfkakdpppejehaaGreatZYAY
namespace Go.Proofs.YtfkakdpppejehaaGreat.Pp
open Go.RowKit
open Sc (Tok Cells str noTok scanL)
open Pa
set_option maxRecDepth 100000

/-- what a call of Parse hands back -/
def ParseP (w : World) (R : Out) (e : Ending) (w' : World) : Prop := Below w.heap.size w w' ∧ match R with
  | .model q => ∃ (p1 : Option Addr) (l1 c1 : Nat) (p2 : Option Addr) (l2 c2 : Nat), e = .returned (.tuple #[.agg #[.slice p1 l1 c1, .slice p2 l2 c2], .int .i64 0, .int .i64 0]) ∧ rModel w' [.slice p1 l1 c1, .slice p2 l2 c2] q ∧ Few q
  | .err p x => e = .returned (.tuple #[.agg #[.slice none 0 0, .slice none 0 0], .int .i64 (p : Nat), .int .i64 x])
theorem results_parse {fn : Func} {p q u : Tmp} (h : fn.results = #[.cell p 26, .tmp q, .tmp u]) (tmps : Array Value) (w : World) (b : Nat) (v0 v1 vq vu : Value) (hp : tmps.getD p undef = .pointer (some ⟨b, 0, none⟩)) (hq : tmps.getD q undef = vq) (hu : tmps.getD u undef = vu) (c0 : w.cell? ⟨b, 0, none⟩ = some v0) (c1 : w.cell? ⟨b, 1, none⟩ = some v1) :
    (results fn tmps).run Tryz.prog w = .ok (.tuple #[.agg #[v0, v1], vq, vu]) w := by
  have hp' : tmps[p]?.getD undef = .pointer (some ⟨b, 0, none⟩) := by simpa using hp
  have hq' : tmps[q]?.getD undef = vq := by simpa using hq
  have hu' : tmps[u]?.getD undef = vu := by simpa using hu
  simp only [results, h]
  simp [hp', hq', hu', asAddr]
  go_simp
section
variable {w w' : World}
theorem zero_kept (hB : Below (w.alloc (.cells #[.slice none 0 0, .slice none 0 0] 26)).heap.size (w.alloc (.cells #[.slice none 0 0, .slice none 0 0] 26)) w') : w'.heap[w.heap.size]? = some (.cells #[.slice none 0 0, .slice none 0 0] 26) ∧ Below w.heap.size w w' :=
  ⟨(hB.block _ (by simp)).trans (heap_alloc_new w _), ((Below.refl _ w).alloc (Nat.le_refl _) _).trans (hB.mono ((Below.refl _ w).alloc (Nat.le_refl _) (.cells #[.slice none 0 0, .slice none 0 0] 26)).size)⟩
theorem below_put {b j : Nat} {x : Value} (h : Below w.heap.size w w') (hb : w.heap.size ≤ b) : Below w.heap.size w (w'.setCell ⟨b, j, none⟩ x) := h.setCell hb x
set_option maxHeartbeats 8000000 in
theorem parse_bad (s : ByteArray) {p x : Nat} (hs : scanL 0 (txt s) = .bad p x) (hx : x = 2 ∨ x = 5) (hm : s.size ≤ 4000) (w : World) :
    Calls Tryz.prog 5 #[.string s] w (ParseP w (.err p x)) := by
  have SX := Lib.hid (Sc.scan_any s (w.alloc (.cells #[.slice none 0 0, .slice none 0 0] 26)) hm)
  rw [show Sc.txt s = txt s from rfl, hs] at SX
  have hx2 : ((x : Int) == 0) = false := beq_eq_false_iff_ne.2 (by omega)
  have hx3 : ((x : Int) != 0) = true := by rw [bne, hx2]; rfl
  clear hs
  go_enter Tryz.func5, Tryz.ntmps5
  go_wp2_with fail
  refine SX.out.mono ?_
  rintro e w1 ⟨hE, hB⟩
  obtain rfl := hE
  obtain ⟨y0, hb⟩ := zero_kept hB
  have d0 : w1.cell? ⟨w.heap.size, 0, none⟩ = some (.slice none 0 0) := cell_of_row w1 w.heap.size 0 _ 26 (0, 0) y0
  have f0 := frozen_of_row w1 w.heap.size 0 _ 26 y0
  have d1 : w1.cell? ⟨w.heap.size, 1, none⟩ = some (.slice none 0 0) := cell_of_row w1 w.heap.size 1 _ 26 (0, 0) y0
  have f1 := frozen_of_row w1 w.heap.size 1 _ 26 y0
  have HB := Lib.hid hb
  clear y0 hb hB
  go_wp2_with fail
  (try simp only [Exit.inBlock, Exit.then])
  refine bodyPost_ret (results_parse rfl _ _ w.heap.size (.slice none 0 0) (.slice none 0 0) (.int .i64 (p : Nat)) (.int .i64 (x : Nat)) rfl rfl rfl ?_ ?_) rfl ?_
  · go_simp
  · go_simp
  · exact ⟨below_put (below_put HB.out (Nat.le_refl _)) (Nat.le_refl _), rfl⟩
theorem below_grows {a u u' : World} {row : Option Nat} (h : Below a.heap.size a u) (hg : u.grownBy u' row) (hr : ∀ k, row = some k → a.heap.size ≤ k) : Below a.heap.size a u' :=
  ⟨hg.os.trans h.os, hg.tape.trans h.tape, hg.output.trans h.output, Nat.le_trans h.size hg.size, fun k hk => (hg.block k (Nat.lt_of_lt_of_le hk h.size) (fun e => by have := hr k e.symm; omega)).trans (h.block k hk)⟩
/-- a parser of its own turns nothing that was there -/
theorem below_nf {a u u' : World} {g : Nat} (h : Below a.heap.size a u) (hB : But (NF g (.slice none 0 0)) u u') (hg : a.heap.size ≤ g) : Below a.heap.size a u' :=
  ⟨hB.os.trans h.os, hB.tape.trans h.tape, hB.output.trans h.output, Nat.le_trans h.size hB.size, fun k hk => (hB.block k (Nat.lt_of_lt_of_le hk h.size) (fun e => by
    rcases e with e | e
    · omega
    · simp [Value.ownBlock] at e)).trans (h.block k hk)⟩
/-- the program's parser as it starts -/
theorem pat_start {base : Nat} {v : Value} {T : List Tok} {len : Nat} (h : Sc.OwnsT 47 w base v (T ++ [endT len])) (hf : T.length ≤ 100000) :
    ∃ (bl c : Nat), v = .slice (some ⟨bl, 0, none⟩) (T.length + 1) c ∧ PAt (w.alloc (.cells #[v, .int .i64 0, .slice none 0 0, .int .i64 (-1)] 50)) w.heap.size T.length bl 0 c 0 none 0 0 T len Pa.start := by
  have hs := Sc.sees_of_owns h
  obtain ⟨W, hW⟩ : ∃ W, W = w.alloc (.cells #[v, .int .i64 0, .slice none 0 0, .int .i64 (-1)] 50) := ⟨_, rfl⟩
  have hB : Below w.heap.size w W := by rw [hW]; exact (Below.refl _ w).alloc (Nat.le_refl _) _
  have hg : W.heap[w.heap.size]? = some (.cells #[v, .int .i64 0, .slice none 0 0, .int .i64 (-1)] 50) := by rw [hW]; exact heap_alloc_new w _
  have cg : ∀ (j : Nat) (x : Value), #[v, .int .i64 0, .slice none 0 0, .int .i64 (-1)][j]? = some x → W.cell? ⟨w.heap.size, j, none⟩ = some x := fun j x hx => by
    simp only [World.cell?, hg]
    exact hx
  have fg : ∀ j, W.frozen? ⟨w.heap.size, j, none⟩ = false := fun j => frozen_of_row W _ j _ 50 hg
  rw [← hW]
  have hlen : (T ++ [endT len]).length = T.length + 1 := by simp
  rcases h.2 with ⟨_, h1⟩ | ⟨b, cap, cur, rfl, hb, hgb, hn, hc, hsz, ht⟩
  · omega
  · obtain ⟨p', b', off', c', e, e2, e3⟩ := hs
    simp only [Value.slice.injEq] at e
    obtain ⟨rfl, _, rfl⟩ := e
    have e4 := e2 (by omega)
    simp only [Option.some.injEq, Addr.mk.injEq] at e4
    obtain ⟨rfl, rfl, _⟩ := e4
    rw [hlen] at cg ⊢
    have hlt : b < w.heap.size := (Array.getElem?_eq_some_iff.1 hgb).1
    exact ⟨b, _, rfl, cg 0 _ rfl, cg 1 _ rfl, cg 2 _ rfl, cg 3 _ rfl, fg 1, fg 2, fg 3, rfl, rfl, hf, Nat.zero_le _, Sc.cells_below e3 hB, ownsP_nil _ _ _ _ _, ⟨_, hg⟩, ⟨_, (hB.block b hlt).trans hgb⟩⟩
set_option maxHeartbeats 8000000 in
theorem parse_ok (s : ByteArray) {T : List Tok} (hs : scanL 0 (txt s) = .ok T) (hm : s.size ≤ 4000) (hT : T.length ≤ 1000) (hx : ∀ t ∈ T, t.text.length ≤ 1000) (w : World) :
    Calls Tryz.prog 5 #[.string s] w (ParseP w (parseT 10000 T s.size)) := by
  have SX := Lib.hid (Sc.scan_any s (w.alloc (.cells #[.slice none 0 0, .slice none 0 0] 26)) hm)
  rw [show Sc.txt s = txt s from rfl, hs] at SX
  have hsm := (small_tokens hs).2
  have HV := Lib.hid (fun (t : Tok) (ht : t ∈ T) => (hsm t ht).1)
  obtain ⟨R, hR⟩ : ∃ R, R = parseT 10000 T s.size := ⟨_, rfl⟩
  rw [← hR]
  obtain ⟨n, hn⟩ : ∃ n, n = s.size := ⟨_, rfl⟩
  have hsz : ((s.size : Nat) : Int) = (n : Int) := by rw [hn]
  rw [← hn] at hR
  have HR := Lib.hid hR
  obtain ⟨i0, hi, hz0, hz1, hz2⟩ := info_parts Sc.info34
  clear hs hR hsm
  go_enter Tryz.func5, Tryz.ntmps5
  go_wp2_with fail
  refine SX.out.mono ?_
  rintro e w1 ⟨⟨v, rfl, ho⟩, hB⟩
  obtain ⟨y0, hb⟩ := zero_kept hB
  have e1 : (w.alloc (.cells #[.slice none 0 0, .slice none 0 0] 26)).heap.size = w.heap.size + 1 := by simp
  rw [e1] at ho
  obtain ⟨pt, ct, rfl⟩ := Sc.shape ho
  have hs1 : w.heap.size + 1 ≤ w1.heap.size := by have := hB.size; omega
  have k1 := (Below.refl _ w1).alloc (Nat.le_refl _) (.cells #[.int .i64 0, .string ⟨#[]⟩, .int .i64 0, .int .i64 (n : Nat)] 47)
  have HO := Lib.hid (Sc.owns_below ho k1)
  have HLT := Lib.hid (fun k (e : (Value.slice pt T.length ct).ownBlock = some k) => (World.ownsRow.lt ho k e).1)
  have HB1 := Lib.hid (hb.trans (k1.mono hb.size))
  have HY1 := Lib.hid ((k1.block w.heap.size (by omega)).trans y0)
  have HS1 := Lib.hid (show w.heap.size + 1 ≤ (w1.alloc (.cells #[.int .i64 0, .string ⟨#[]⟩, .int .i64 0, .int .i64 (n : Nat)] 47)).heap.size from Nat.le_trans hs1 k1.size)
  clear hn y0 hb ho hB k1 hs1
  go_wp2_with (at_builtin; refine Sc.append_tok rfl _ _ 43 47 i0 Tryz.underlying43 hi hz0 hz1 hz2 rfl (w.heap.size + 1) _ w1.heap.size T (endT n) rfl rfl HO.out (Sc.cells_tok w1 0 0 n ⟨#[]⟩ [] rfl _ rfl) (by omega) HS1.out ?_; intro v' w2 hown hgrow; obtain ⟨bq, cq, rfl, hp⟩ := pat_start hown (by omega); have HP := Lib.hid hp; have HB2 := Lib.hid (below_grows HB1.out hgrow (fun k e => by have := HLT.out k e; omega)); have HY2 := Lib.hid ((hgrow.block w.heap.size (by have := HS1.out; omega) (fun e => by have := HLT.out _ e.symm; omega)).trans HY1.out); clear hown hgrow hp)
  obtain ⟨g, hg⟩ : ∃ g, g = w2.heap.size := ⟨_, rfl⟩
  obtain ⟨W, hW⟩ : ∃ W, W = w2.alloc (.cells #[.slice (some ⟨bq, 0, none⟩) (T.length + 1) cq, .int .i64 0, .slice none 0 0, .int .i64 (-1)] 50) := ⟨_, rfl⟩
  have hBW : Below w2.heap.size w2 W := by rw [hW]; exact (Below.refl _ w2).alloc (Nat.le_refl _) _
  have HPW := Lib.hid (show PAt W g T.length bq 0 cq 0 none 0 0 T n Pa.start by rw [hW, hg]; exact HP.out)
  have RX := Lib.hid (read_any 10000 HPW.out HV.out (Nat.zero_le _) (Nat.zero_le _) (by omega) (by omega))
  have HB3 := Lib.hid (show Below w.heap.size w W from HB2.out.trans (hBW.mono HB2.out.size))
  have hw2lt : w.heap.size < w2.heap.size := (Array.getElem?_eq_some_iff.1 HY2.out).1
  have HY3 := Lib.hid ((hBW.block w.heap.size hw2lt).trans HY2.out)
  have HGL := Lib.hid (show w.heap.size < g by omega)
  rw [← hW, ← hg]
  obtain ⟨X, hX⟩ : ∃ X, X = modelQ 10000 T Pa.start := ⟨_, rfl⟩
  rw [← hX] at RX
  have HX := Lib.hid hX
  clear hg hW hBW hw2lt hX
  refine RX.out.mono ?_
  rintro e w4 ⟨hB4, ⟨hwr, ⟨pv4, m4, cv4, hP4⟩, p1, c1, p2, c2, rfl, hbs, hgl⟩ | ⟨hwr, rfl⟩⟩
  rotate_left
  · have HRE := Lib.hid (show R = .err (tokP T n X.2.at_).at_ 2 by
      rw [HR.out]
      have := parse_gone (K := 10000) (T := T) (len := n) (by omega) (by rw [← HX.out]; exact hwr)
      rw [← HX.out] at this
      exact this)
    obtain ⟨pp, hpp⟩ : ∃ pp, pp = (tokP T n X.2.at_).at_ := ⟨_, rfl⟩
    rw [← hpp] at HRE ⊢
    have HB4 := Lib.hid (below_nf HB3.out hB4 (Nat.le_of_lt HGL.out))
    have y4 := (hB4.block w.heap.size (Array.getElem?_eq_some_iff.1 HY3.out).1 (fun e => by
      rcases e with e | e
      · have := HGL.out; omega
      · simp [Value.ownBlock] at e)).trans HY3.out
    have k5 := (Below.refl _ w4).alloc (Nat.le_refl _) (.cells #[.slice none 0 0, .slice none 0 0] 26)
    have HB5 := Lib.hid (HB4.out.trans (k5.mono HB4.out.size))
    have y5 := (k5.block w.heap.size (Array.getElem?_eq_some_iff.1 y4).1).trans y4
    have d0 : (w4.alloc (.cells #[.slice none 0 0, .slice none 0 0] 26)).cell? ⟨w.heap.size, 0, none⟩ = some (.slice none 0 0) := cell_of_row (w4.alloc (.cells #[.slice none 0 0, .slice none 0 0] 26)) w.heap.size 0 _ 26 (0, 0) y5
    have f0 := frozen_of_row (w4.alloc (.cells #[.slice none 0 0, .slice none 0 0] 26)) w.heap.size 0 _ 26 y5
    have d1 : (w4.alloc (.cells #[.slice none 0 0, .slice none 0 0] 26)).cell? ⟨w.heap.size, 1, none⟩ = some (.slice none 0 0) := cell_of_row (w4.alloc (.cells #[.slice none 0 0, .slice none 0 0] 26)) w.heap.size 1 _ 26 (0, 0) y5
    have f1 := frozen_of_row (w4.alloc (.cells #[.slice none 0 0, .slice none 0 0] 26)) w.heap.size 1 _ 26 y5
    clear hB4 hwr hpp y4 y5 k5
    go_wp2_with fail
    (try simp only [Exit.inBlock, Exit.then])
    refine bodyPost_ret (results_parse rfl _ _ w.heap.size (.slice none 0 0) (.slice none 0 0) (.int .i64 (pp : Nat)) (.int .i64 2) rfl rfl rfl ?_ ?_) rfl ?_
    · go_simp
    · go_simp
    · rw [HRE.out]
      exact ⟨below_put (below_put HB5.out (Nat.le_refl _)) (Nat.le_refl _), rfl⟩
  obtain ⟨hpd, hpe⟩ := parse_done (K := 10000) (T := T) (len := n) (by omega) (by rw [← HX.out]; exact hwr)
  rw [← HX.out] at hpd hpe
  have hdw : W.heap.size ≤ w4.heap.size := hB4.size
  have HB4 := Lib.hid (below_nf HB3.out hB4 (Nat.le_of_lt HGL.out))
  have y4 := (hB4.block w.heap.size (Array.getElem?_eq_some_iff.1 HY3.out).1 (fun e => by
    rcases e with e | e
    · have := HGL.out; omega
    · simp [Value.ownBlock] at e)).trans HY3.out
  have k5 := (Below.refl _ w4).alloc (Nat.le_refl _) (.cells #[.slice p1 X.1.blocks.length c1, .slice p2 X.1.goal.length c2] 26)
  have HB5 := Lib.hid (HB4.out.trans (k5.mono HB4.out.size))
  have y5 := (k5.block w.heap.size (Array.getElem?_eq_some_iff.1 y4).1).trans y4
  have c3 := (hP4.below k5).c3
  have hg4 := (hP4.below k5).glt
  have m0 : (w4.alloc (.cells #[.slice p1 X.1.blocks.length c1, .slice p2 X.1.goal.length c2] 26)).heap[w4.heap.size]? = some (.cells #[.slice p1 X.1.blocks.length c1, .slice p2 X.1.goal.length c2] 26) := heap_alloc_new w4 _
  cases hbd : X.2.bad with
  | some p =>
    rw [hbd] at hpd c3
    have HRE := Lib.hid (show R = .err p 7 by rw [HR.out]; exact hpd)
    have hge : (0 : Int) ≤ (p : Int) := by omega
    have hgd : decide ((p : Int) ≥ 0) = true := decide_eq_true hge
    have hgd2 : decide ((0 : Int) ≤ (p : Int)) = true := decide_eq_true hge
    simp only [badI] at c3
    have d0 : (w4.alloc (.cells #[.slice p1 X.1.blocks.length c1, .slice p2 X.1.goal.length c2] 26)).cell? ⟨w.heap.size, 0, none⟩ = some (.slice none 0 0) := cell_of_row (w4.alloc (.cells #[.slice p1 X.1.blocks.length c1, .slice p2 X.1.goal.length c2] 26)) w.heap.size 0 _ 26 (0, 0) y5
    have f0 := frozen_of_row (w4.alloc (.cells #[.slice p1 X.1.blocks.length c1, .slice p2 X.1.goal.length c2] 26)) w.heap.size 0 _ 26 y5
    have d1 : (w4.alloc (.cells #[.slice p1 X.1.blocks.length c1, .slice p2 X.1.goal.length c2] 26)).cell? ⟨w.heap.size, 1, none⟩ = some (.slice none 0 0) := cell_of_row (w4.alloc (.cells #[.slice p1 X.1.blocks.length c1, .slice p2 X.1.goal.length c2] 26)) w.heap.size 1 _ 26 (0, 0) y5
    have f1 := frozen_of_row (w4.alloc (.cells #[.slice p1 X.1.blocks.length c1, .slice p2 X.1.goal.length c2] 26)) w.heap.size 1 _ 26 y5
    clear hpd hpe hbd y4 y5 k5 m0 hB4 hwr hP4 hbs hgl
    go_wp2_with fail
    go_region
    all_goals go_wp2_with fail
    all_goals (try simp only [Exit.inBlock, Exit.then])
    all_goals
      refine bodyPost_ret (results_parse rfl _ _ w.heap.size (.slice none 0 0) (.slice none 0 0) (.int .i64 (p : Nat)) (.int .i64 7) rfl rfl rfl ?_ ?_) rfl ?_
      · go_simp
      · go_simp
      · rw [HRE.out]
        exact ⟨below_put (below_put (below_drewN HB5.out) (Nat.le_refl _)) (Nat.le_refl _), rfl⟩
  | none =>
    rw [hbd] at hpd c3
    obtain ⟨hpb, hpw⟩ := hpe hbd
    have hfew : Few X.1 := by rw [hpb]; exact few_body hT hx hpw
    have hgood := good_body (K := 10000) (T := T) HV.out
    rw [← hpb] at hgood
    have hrm : rModel (w4.alloc (.cells #[.slice p1 X.1.blocks.length c1, .slice p2 X.1.goal.length c2] 26)) [.slice p1 X.1.blocks.length c1, .slice p2 X.1.goal.length c2] X.1 := ⟨_, _, rfl, blocks_read (hbs.below k5) hgood.1, cons_read (hgl.below k5) hgood.2⟩
    have HRM := Lib.hid hrm
    have HBS := Lib.hid (hbs.below k5)
    have HGS := Lib.hid (hgl.below k5)
    have HGD := Lib.hid hgood
    have HWS := Lib.hid (show w.heap.size < W.heap.size from Nat.lt_trans HGL.out HPW.out.glt)
    have HFW := Lib.hid hfew
    have CX := Lib.hid (check_any hrm hfew)
    simp only [badI] at c3
    obtain ⟨ck, hck⟩ : ∃ ck, ck = checkM X.1 := ⟨_, rfl⟩
    rw [← hck] at CX
    have HCK := Lib.hid hck
    have HRE0 := Lib.hid hpd
    have d0 : (w4.alloc (.cells #[.slice p1 X.1.blocks.length c1, .slice p2 X.1.goal.length c2] 26)).cell? ⟨w.heap.size, 0, none⟩ = some (.slice none 0 0) := cell_of_row (w4.alloc (.cells #[.slice p1 X.1.blocks.length c1, .slice p2 X.1.goal.length c2] 26)) w.heap.size 0 _ 26 (0, 0) y5
    have d1 : (w4.alloc (.cells #[.slice p1 X.1.blocks.length c1, .slice p2 X.1.goal.length c2] 26)).cell? ⟨w.heap.size, 1, none⟩ = some (.slice none 0 0) := cell_of_row (w4.alloc (.cells #[.slice p1 X.1.blocks.length c1, .slice p2 X.1.goal.length c2] 26)) w.heap.size 1 _ 26 (0, 0) y5
    have HY5 := Lib.hid y5
    have HM0 := Lib.hid m0
    have e0 : (w4.alloc (.cells #[.slice p1 X.1.blocks.length c1, .slice p2 X.1.goal.length c2] 26)).cell? ⟨w4.heap.size, 0, none⟩ = some (.slice p1 X.1.blocks.length c1) := cell_of_row (w4.alloc (.cells #[.slice p1 X.1.blocks.length c1, .slice p2 X.1.goal.length c2] 26)) w4.heap.size 0 _ 26 (0, 0) m0
    have e1' : (w4.alloc (.cells #[.slice p1 X.1.blocks.length c1, .slice p2 X.1.goal.length c2] 26)).cell? ⟨w4.heap.size, 1, none⟩ = some (.slice p2 X.1.goal.length c2) := cell_of_row (w4.alloc (.cells #[.slice p1 X.1.blocks.length c1, .slice p2 X.1.goal.length c2] 26)) w4.heap.size 1 _ 26 (0, 0) m0
    clear hpd hpe hbd y4 y5 k5 m0 hB4 hwr hP4 hbs hgl hrm hfew hgood hck hpb hpw
    go_wp2_with fail
    refine CX.out.mono ?_
    rintro e w6 ⟨rfl, hB6⟩
    have HB6 := Lib.hid (HB5.out.trans (hB6.mono HB5.out.size))
    have z6 := (hB6.block w.heap.size (Array.getElem?_eq_some_iff.1 HY5.out).1).trans HY5.out
    have d0 : w6.cell? ⟨w.heap.size, 0, none⟩ = some (.slice none 0 0) := cell_of_row w6 w.heap.size 0 _ 26 (0, 0) z6
    have f0 := frozen_of_row w6 w.heap.size 0 _ 26 z6
    have d1 : w6.cell? ⟨w.heap.size, 1, none⟩ = some (.slice none 0 0) := cell_of_row w6 w.heap.size 1 _ 26 (0, 0) z6
    have f1 := frozen_of_row w6 w.heap.size 1 _ 26 z6
    have mm := (hB6.block w4.heap.size (Array.getElem?_eq_some_iff.1 HM0.out).1).trans HM0.out
    have e0 : w6.cell? ⟨w4.heap.size, 0, none⟩ = some (.slice p1 X.1.blocks.length c1) := cell_of_row w6 w4.heap.size 0 _ 26 (0, 0) mm
    have e1' : w6.cell? ⟨w4.heap.size, 1, none⟩ = some (.slice p2 X.1.goal.length c2) := cell_of_row w6 w4.heap.size 1 _ 26 (0, 0) mm
    have HBS6 := Lib.hid (HBS.out.below hB6)
    have HGS6 := Lib.hid (HGS.out.below hB6)
    clear hB6 z6 mm
    by_cases hc : ck = 0
    · have hb0 : (ck == 0) = true := by rw [hc]; rfl
      have hb1 : (ck != 0) = false := by rw [hc]; rfl
      have HRE := Lib.hid (show R = .model X.1 by
        have e := HRE0.out
        rw [HR.out, e]
        rw [if_pos (by rw [← HCK.out]; exact hc)])
      have HC0 := Lib.hid hc
      clear hc
      go_wp2_with fail
      (try simp only [Exit.inBlock, Exit.then])
      refine bodyPost_ret (results_parse rfl _ _ w.heap.size (.slice p1 X.1.blocks.length c1) (.slice p2 X.1.goal.length c2) (.int .i64 0) (.int .i64 0) rfl rfl rfl ?_ ?_) rfl ?_
      · go_simp
      · go_simp
      · rw [HRE.out]
        have hst : ∀ i, W.heap.size ≤ i → ((w6.setCell ⟨w.heap.size, 0, none⟩ (.slice p1 X.1.blocks.length c1)).setCell ⟨w.heap.size, 1, none⟩ (.slice p2 X.1.goal.length c2)).heap[i]? = w6.heap[i]? := fun i hi => by
          have := HWS.out
          exact (Below.heap_setCell _ _ _ _ (show i ≠ w.heap.size by omega)).trans (Below.heap_setCell _ _ _ _ (show i ≠ w.heap.size by omega))
        exact ⟨below_put (below_put HB6.out (Nat.le_refl _)) (Nat.le_refl _), p1, _, c1, p2, _, c2, rfl, ⟨_, _, rfl, blocks_read (blocks_from HBS6.out hst) HGD.out.1, cons_read (cons_from HGS6.out hst) HGD.out.2⟩, HFW.out⟩
    · have hb0 : (ck == 0) = false := beq_eq_false_iff_ne.2 hc
      have hb1 : (ck != 0) = true := by rw [bne, hb0]; rfl
      have HRE := Lib.hid (show R = .err 0 ck by
        have e := HRE0.out
        rw [HR.out, e]
        rw [if_neg (by rw [← HCK.out]; exact hc), HCK.out])
      clear hc
      go_wp2_with fail
      (try simp only [Exit.inBlock, Exit.then])
      refine bodyPost_ret (results_parse rfl _ _ w.heap.size (.slice none 0 0) (.slice none 0 0) (.int .i64 0) (.int .i64 ck) rfl rfl rfl ?_ ?_) rfl ?_
      · go_simp
      · go_simp
      · rw [HRE.out]
        exact ⟨below_put (below_put HB6.out (Nat.le_refl _)) (Nat.le_refl _), rfl⟩
end
end Go.Proofs.YtfkakdpppejehaaGreat.Pp
namespace Go.Proofs.YtfkakdpppejehaaGreat.Pa
open Go.RowKit
open Sc (Tok Cells str noTok OwnsT scanL)
open Pp (BoxM)
set_option maxRecDepth 100000

/-- no more names than tokens, but for one -/
theorem vx_decls (K : Nat) : ∀ (n : Nat) (l : List PDecl) (T : List Tok) (r : Rd), (declsR K n l T r).2.vars.length + r.at_ ≤ r.vars.length + (declsR K n l T r).2.at_ + 1
  | 0, _, _, r => by show r.vars.length + r.at_ ≤ _ + r.at_ + 1; omega
  | n + 1, l, T, r => by
    rw [decls_eq]
    have hv : Vk 1 0 (declOne K) := vk_less (vk_seq vk_name fun s => vk_seq (vk_must (by decide)) fun _ => vk_seq (vk_keep (kp_ranges K []) (sz_ranges K [])) fun dom => vk_seq (vk_add s) fun _ => vk_ret _) (by omega)
    have hup : r.at_ ≤ (declOne K T r).2.at_ := (fine_seq (fine_look ok_name) fun s => fine_seq (fine_look (ok_must (by decide))) fun _ => fine_seq (fine_ranges K []) fun dom => fine_seq (fine_add s) fun _ => fine_ret (⟨s, dom⟩ : PDecl)).up T r
    have hvl : (declOne K T r).2.vars.length = r.vars.length + 1 := by
      rw [decl_form]
      show ((rangesR K [] T (declHead T r)).2.vars ++ [(nameF r (next T r)).1]).length = _
      rw [kp_ranges K [] T (declHead T r), List.length_append]
      have e1 : (declHead T r).vars = (nameF r (next T r)).2.vars := kp_must tIn T (nameF r (next T r)).2
      rw [e1, show (nameF r (next T r)).2.vars = r.vars from kp_name T r]
      rfl
    split
    · rename_i hc
      have hw : (declOne K T r).2.wrong = false := right_of fun hw => by
        rw [next_wrong hw] at hc
        simp [hasF, textO, tComma] at hc
      have h1 := (hv T r hw).2
      have h2 := vx_decls K n (l ++ [(declOne K T r).1]) T (hasF tComma (declOne K T r).2 (next T (declOne K T r).2)).2
      rw [show (hasF tComma (declOne K T r).2 (next T (declOne K T r).2)).2.vars = (declOne K T r).2.vars from has_vars] at h2
      have h3 : (declOne K T r).2.at_ ≤ (hasF tComma (declOne K T r).2 (next T (declOne K T r).2)).2.at_ := (fine_look (ok_has (s := tComma) (by decide))).up T _
      omega
    · show (hasF tComma (declOne K T r).2 (next T (declOne K T r).2)).2.vars.length + r.at_ ≤ r.vars.length + (hasF tComma (declOne K T r).2 (next T (declOne K T r).2)).2.at_ + 1
      rw [show (hasF tComma (declOne K T r).2 (next T (declOne K T r).2)).2.vars = (declOne K T r).2.vars from has_vars]
      have h3 : (declOne K T r).2.at_ ≤ (hasF tComma (declOne K T r).2 (next T (declOne K T r).2)).2.at_ := (fine_look (ok_has (s := tComma) (by decide))).up T _
      omega
/-- so many names more at most -/
def Vx (c : Nat) {α : Type} (P : Rx α) : Prop := ∀ T r, (P T r).2.vars.length + r.at_ ≤ r.vars.length + (P T r).2.at_ + c
theorem vx_seq {α β : Type} {m : Rx α} {f : α → Rx β} {a b : Nat} (hm : Vx a m) (hf : ∀ x, Vx b (f x)) : Vx (a + b) (seq m f) := fun T r => by
  have h1 := hf (m T r).1 T (m T r).2
  have h2 := hm T r
  show (f (m T r).1 T (m T r).2).2.vars.length + _ ≤ _ + (f (m T r).1 T (m T r).2).2.at_ + _
  omega
theorem vx_keep {α : Type} {P : Rx α} (hk : Kp P) (hf : Fine P) : Vx 0 P := fun T r => by
  rw [hk T r]
  have := hf.up T r
  omega
theorem vx_block (K : Nat) (T : List Tok) (r : Rd) : (blockR K T r).2.vars.length + r.at_ ≤ r.vars.length + (blockR K T r).2.at_ + 1 := by
  have h : Vx 1 (blockR K) := vx_seq (a := 0) (b := 1) (vx_keep (kp_has _) (fine_look (ok_has (by decide)))) fun all => vx_seq (a := 0) (b := 1) (vx_keep (kp_head all) (fine_head all)) fun _ => vx_seq (a := 1) (b := 0) (vx_decls K K []) fun _ =>
    vx_seq (a := 0) (b := 0) (vx_keep (kp_has _) (fine_look (ok_has (by decide)))) fun b => vx_seq (a := 0) (b := 0) (vx_keep (kp_where K b) (fine_where K b)) fun _ => vx_seq (a := 0) (b := 0) (vx_keep (kp_must _) (fine_look (ok_must (by decide)))) fun _ => vx_keep (kp_ret _) (fine_ret _)
  exact h T r
/-- what comes of tokens -/
theorem out_bad {T : List Tok} {len : Nat} {X : PModel × Rd} (h : X.2.wrong = true ∨ X.2.at_ < T.length) : outT T len X = .err (placeT T len X.2.at_) 2 := if_pos h
theorem out_good {T : List Tok} {len : Nat} {X : PModel × Rd} (h1 : X.2.wrong = false) (h2 : ¬ X.2.at_ < T.length) : outT T len X = (match X.2.bad with
    | some p => .err p 7
    | none => if checkM X.1 = 0 then .model X.1 else .err 0 (checkM X.1)) := if_neg (by rw [h1]; simpa using h2)
theorem place_in {T : List Tok} {len i : Nat} (h : i < T.length) : placeT T len i = (T.getD i noTok).at_ := by
  unfold placeT
  rw [List.getElem?_eq_getElem h, List.getD_eq_getElem?_getD, List.getElem?_eq_getElem h]
  rfl
theorem place_out {T : List Tok} {len i : Nat} (h : T.length ≤ i) : placeT T len i = len := by
  unfold placeT
  rw [List.getElem?_eq_none_iff.2 h]
theorem below_moves {a u u' : World} {g : Nat} (h : Below a.heap.size a u) (hM : Moves g none u u') (hg : a.heap.size ≤ g) : Below a.heap.size a u' :=
  ⟨hM.os.trans h.os, hM.tape.trans h.tape, hM.output.trans h.output, Nat.le_trans h.size hM.size, fun k hk => (hM.block k (Nat.lt_of_lt_of_le hk h.size) (by omega) (by simp)).trans (h.block k hk)⟩
theorem below_but {a u u' : World} {F : Nat → Prop} (h : Below a.heap.size a u) (hB : But F u u') (hF : ∀ k, F k → a.heap.size ≤ k) : Below a.heap.size a u' :=
  ⟨hB.os.trans h.os, hB.tape.trans h.tape, hB.output.trans h.output, Nat.le_trans h.size hB.size, fun k hk => (hB.block k (Nat.lt_of_lt_of_le hk h.size) (fun e => by have := hF k e; omega)).trans (h.block k hk)⟩
/-- how far a reader has come with a model -/
structure RMAt (w0 w : World) (g n : Nat) (pl : Option Addr) (bl ol cl : Nat) (T : List Tok) (D : Nat) (v1 : Value) (l : List PBlock) (v2 : Value) (cs : List PCon) (r : Rd) (pv : Option Addr) (bv ov m cv : Nat) : Prop where
  rd : RdAt w g n pl bl ol cl pv bv ov m cv T r
  nm : OwnsP nameP 1 9 (w0.heap.size + 1) w (.slice pv m cv) r.vars
  box : BoxM w D v1 v2
  res : BoxM w w0.heap.size (.slice none 0 0) (.slice none 0 0)
  bs : BlocksAt w (w0.heap.size + 1) v1 l
  cn : ConsAt w (w0.heap.size + 1) v2 cs
  low : Below w0.heap.size w0 w
  gnew : w0.heap.size + 1 ≤ g
  new : w0.heap.size + 1 ≤ D
/-- what a block turns -/
def NR (g : Nat) (v : Value) (i : Nat) : Prop := i = g ∨ v.ownBlock = some i
section
variable {w0 w w' : World} {g n : Nat} {pl : Option Addr} {bl ol cl : Nat} {T : List Tok} {D : Nat} {v v1 v2 : Value} {l : List PBlock} {cs : List PCon} {r r' : Rd} {pv : Option Addr} {bv ov m cv : Nat}
theorem RMAt.moved (h : RMAt w0 w g n pl bl ol cl T D v1 l v2 cs r pv bv ov m cv) (hR : RdAt w' g n pl bl ol cl pv bv ov m cv T r') (hM : Moves g none w w') : RMAt w0 w' g n pl bl ol cl T D v1 l v2 cs r' pv bv ov m cv := by
  have hn := OwnsP.moved h.nm hM h.rd.ty (by decide)
  exact ⟨hR, by rw [names_same hR hn]; exact hn, (hM.block D h.box.lt (kinds_apart h.box.kind h.rd.ty (by decide)) (by simp)).trans h.box, (hM.block _ h.res.lt (kinds_apart h.res.kind h.rd.ty (by decide)) (by simp)).trans h.res, h.bs.moved hM h.rd.ty, h.cn.moved hM h.rd.ty, below_moves h.low hM (by have := h.gnew; omega), h.gnew, h.new⟩
theorem RMAt.below (h : RMAt w0 w g n pl bl ol cl T D v1 l v2 cs r pv bv ov m cv) (hB : Below w.heap.size w w') : RMAt w0 w' g n pl bl ol cl T D v1 l v2 cs r pv bv ov m cv :=
  ⟨h.rd.below hB, h.nm.below hB, (hB.block D h.box.lt).trans h.box, (hB.block _ h.res.lt).trans h.res, h.bs.below hB, h.cn.below hB, h.low.trans (hB.mono h.low.size), h.gnew, h.new⟩
/-- a row that a block may turn stays, if it is of another kind -/
theorem RMAt.keeps (h : RMAt w0 w g n pl bl ol cl T D v1 l v2 cs r pv bv ov m cv) (hB : But (NR g (.slice pv m cv)) w w') {k e : Nat} (hk : ∃ c, w.heap[k]? = some (.cells c e)) (h1 : e ≠ 58) (h2 : e ≠ 9) : w'.heap[k]? = w.heap[k]? :=
  hB.block k (Array.getElem?_eq_some_iff.1 hk.choose_spec).1 (fun q => by
    rcases q with q | q
    · exact kinds_apart hk h.rd.ty h1 q
    · exact kinds_apart hk (h.nm.kind q) h2 rfl)
theorem owns_keep {α : Type} {R : List Value → α → Prop} {k e base : Nat} {L : List α} (h : RMAt w0 w g n pl bl ol cl T D v1 l v2 cs r pv bv ov m cv) (ho : OwnsP R k e base w v L) (hB : But (NR g (.slice pv m cv)) w w') (h1 : e ≠ 58) (h2 : e ≠ 9) : OwnsP R k e base w' v L :=
  ho.same fun _ hi => h.keeps hB (ho.kind hi) h1 h2
theorem cons_keep {base : Nat} {M : List PCon} (h : RMAt w0 w g n pl bl ol cl T D v1 l v2 cs r pv bv ov m cv) (hc : ConsAt w base v M) (hB : But (NR g (.slice pv m cv)) w w') : ConsAt w' base v M :=
  owns_keep h (OwnsP.imp hc (fun _ _ _ ⟨u1, u2, u3, e, o⟩ => ⟨u1, u2, u3, e, ⟨owns_keep h o.o1 hB (by decide) (by decide), owns_keep h o.o2 hB (by decide) (by decide), owns_keep h o.o3 hB (by decide) (by decide), o.p12, o.p13, o.p23⟩⟩)) hB (by decide) (by decide)
theorem decls_keep {base : Nat} {M : List PDecl} (h : RMAt w0 w g n pl bl ol cl T D v1 l v2 cs r pv bv ov m cv) (hc : DeclsAt w base v M) (hB : But (NR g (.slice pv m cv)) w w') : DeclsAt w' base v M :=
  owns_keep h (OwnsP.imp hc (fun _ _ _ ⟨s, u, e, t, o⟩ => ⟨s, u, e, t, owns_keep h o hB (by decide) (by decide)⟩)) hB (by decide) (by decide)
theorem blocks_keep {base : Nat} {M : List PBlock} (h : RMAt w0 w g n pl bl ol cl T D v1 l v2 cs r pv bv ov m cv) (hc : BlocksAt w base v M) (hB : But (NR g (.slice pv m cv)) w w') : BlocksAt w' base v M :=
  owns_keep h (OwnsP.imp hc (fun _ _ _ ⟨u1, u2, e, d, c⟩ => ⟨u1, u2, e, decls_keep h d hB, cons_keep h c hB⟩)) hB (by decide) (by decide)
/-- behind a block -/
theorem RMAt.blk {lv : List PDecl} {lc : List PCon} {u1 u2 : Value} {pv' : Option Addr} {bv' ov' m' cv' : Nat} (h : RMAt w0 w g n pl bl ol cl T D v1 l v2 cs r pv bv ov m cv) (e : BlkEnd w w' (NR g (.slice pv m cv)) g n pl bl ol cl T (w0.heap.size + 1) lv lc r' u1 u2 pv' bv' ov' m' cv') : RMAt w0 w' g n pl bl ol cl T D v1 l v2 cs r' pv' bv' ov' m' cv' :=
  ⟨e.rd, e.nm, (h.keeps e.but h.box.kind (by decide) (by decide)).trans h.box, (h.keeps e.but h.res.kind (by decide) (by decide)).trans h.res, blocks_keep h h.bs e.but, cons_keep h h.cn e.but, below_but h.low e.but (fun k q => by
    rcases q with q | q
    · have := h.gnew; omega
    · have := (h.nm.lt k q).1; omega), h.gnew, h.new⟩
theorem RMAt.setCons {v3 : Value} {cs' : List PCon} (h : RMAt w0 w g n pl bl ol cl T D v1 l v2 cs r pv bv ov m cv) (ho : ConsAt w (w0.heap.size + 1) v3 cs') : RMAt w0 (w.setCell ⟨D, 1, none⟩ v3) g n pl bl ol cl T D v1 l v3 cs' r pv bv ov m cv :=
  ⟨h.rd.put h.box.kind (by decide) (by decide) (by decide), OwnsP.set h.nm h.box.kind (by decide), (h.box.set v3).2, (Below.heap_setCell w ⟨D, 1, none⟩ v3 _ (show w0.heap.size ≠ D by have := h.new; omega)).trans h.res, h.bs.set h.box.kind (by decide) (by decide) (by decide) (by decide) (by decide), ho.set h.box.kind (by decide) (by decide), h.low.setCell (show w0.heap.size ≤ D from Nat.le_of_succ_le h.new) v3, h.gnew, h.new⟩
/-- one block more -/
theorem RMAt.grown {v3 : Value} {l' : List PBlock} (h : RMAt w0 w g n pl bl ol cl T D v1 l v2 cs r pv bv ov m cv) (ho : OwnsP (blockP w (w0.heap.size + 1)) 3 39 (w0.heap.size + 1) w' v3 l') (hg : w.grownBy w' v1.ownBlock) : RMAt w0 (w'.setCell ⟨D, 0, none⟩ v3) g n pl bl ol cl T D v3 l' v2 cs r pv bv ov m cv := by
  have hk : ∀ k, v1.ownBlock = some k → ∃ c, w.heap[k]? = some (.cells c 39) := fun k e => OwnsP.kind h.bs e
  have hb : BoxM w' D v1 v2 := h.box.grown hk hg (by decide)
  have ho2 : BlocksAt w' (w0.heap.size + 1) v3 l' := OwnsP.imp ho (fun _ _ _ ⟨u1, u2, e, d, c⟩ => ⟨u1, u2, e, d.grown hk hg (by decide) (by decide), c.grown hk hg (by decide) (by decide)⟩)
  have hr2 : BoxM w' w0.heap.size (.slice none 0 0) (.slice none 0 0) := h.res.grown hk hg (by decide)
  have hp2 : RdAt w' g n pl bl ol cl pv bv ov m cv T r := h.rd.row hk hg (by decide) (by decide) (by decide)
  exact ⟨hp2.put hb.kind (by decide) (by decide) (by decide), OwnsP.set (OwnsP.grown h.nm hk hg (by decide)) hb.kind (by decide), (hb.set v3).1, (Below.heap_setCell w' ⟨D, 0, none⟩ v3 _ (show w0.heap.size ≠ D by have := h.new; omega)).trans hr2, ho2.set hb.kind (by decide) (by decide) (by decide) (by decide) (by decide), (h.cn.grown hk hg (by decide) (by decide)).set hb.kind (by decide) (by decide),
    (Pp.below_grows h.low hg (fun k e => by have := (OwnsP.lt h.bs k e).1; omega)).setCell (show w0.heap.size ≤ D from Nat.le_of_succ_le h.new) v3, h.gnew, h.new⟩
theorem RMAt.drewN (h : RMAt w0 w g n pl bl ol cl T D v1 l v2 cs r pv bv ov m cv) (q : Nat) : RMAt w0 (w.drewN q) g n pl bl ol cl T D v1 l v2 cs r pv bv ov m cv := h.moved (h.rd.drewN q) ((Moves.refl g none w).drewN q)
end
/-- a reader and a model's variable as they start -/
theorem rm_start {w w1 : World} {v : Value} {T : List Tok} (h : OwnsT 63 w1 (w.heap.size + 1) v T) (hf : T.length ≤ 100000) (hy : BoxM w1 w.heap.size (.slice none 0 0) (.slice none 0 0)) (hb : Below w.heap.size w w1) :
    ∃ (p : Option Addr) (bl c : Nat), v = .slice p T.length c ∧ ∀ W, W = (w1.alloc (.cells #[v, .int .i64 0, .bool false, .slice none 0 0, .int .i64 (-1)] 58)).alloc (.cells #[.slice none 0 0, .slice none 0 0] 26) →
      RMAt w W w1.heap.size T.length p bl 0 c T (w1.heap.size + 1) (.slice none 0 0) [] (.slice none 0 0) [] start none 0 0 0 0 := by
  obtain ⟨p, bl, c, hv, hr⟩ := rd_start h hf
  refine ⟨p, bl, c, hv, fun W hW => ?_⟩
  obtain ⟨W1, hW1⟩ : ∃ W1, W1 = w1.alloc (.cells #[v, .int .i64 0, .bool false, .slice none 0 0, .int .i64 (-1)] 58) := ⟨_, rfl⟩
  have k1 : Below w1.heap.size w1 W1 := by rw [hW1]; exact (Below.refl _ w1).alloc (Nat.le_refl _) _
  have s1 : W1.heap.size = w1.heap.size + 1 := by rw [hW1]; simp
  rw [← hW1] at hr hW
  have k2 : Below W1.heap.size W1 W := by rw [hW]; exact (Below.refl _ W1).alloc (Nat.le_refl _) _
  have n2 : W.heap[W1.heap.size]? = some (.cells #[.slice none 0 0, .slice none 0 0] 26) := by rw [hW]; exact heap_alloc_new W1 _
  have hlt := hy.lt
  rw [s1] at n2
  exact ⟨hr.below k2, start_names _ _, n2, (k2.block _ (by omega)).trans ((k1.block _ hlt).trans hy), ownsP_nil _ _ _ _ _, cons_nil _ _, (hb.trans (k1.mono hb.size)).trans (k2.mono (Nat.le_trans hb.size k1.size)), by omega, by omega⟩
end Go.Proofs.YtfkakdpppejehaaGreat.Pa
