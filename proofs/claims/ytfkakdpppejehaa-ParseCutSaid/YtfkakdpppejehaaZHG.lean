/-
  What Parse of the program answers.
  The texts that awake of the laws parses: what comes of them. Nothing of the program.
  The model that awake of the laws wants, in memory. Nothing of the program's text.
  What Parse of the program answers, at every text; what awake of the laws answers.
-/
import Derived.Test.YtfkakdpppejehaaZHF
import Derived.Test.YtfkakdpppejehaaZHO
import Derived.Test.YtfkakdpppejehaaCScan
import Derived.Test.YtfkakdpppejehaaPCheck
import Derived.Test.YtfkakdpppejehaaPTwice
import Derived.Test.YtfkakdpppejehaaQSame
namespace Go.Proofs.Ytfkakdpppejehaa.Pp
open Go.RowKit
open Sc (Tok Cells str noTok scanL)
open Pa
set_option maxRecDepth 100000

/-- what a call of Parse hands back -/
def ParseP (w : World) (R : Out) (e : Ending) (w' : World) : Prop := Below w.heap.size w w' ∧ match R with
  | .model q => ∃ (p1 : Option Addr) (l1 c1 : Nat) (p2 : Option Addr) (l2 c2 : Nat), e = .returned (.tuple #[.agg #[.slice p1 l1 c1, .slice p2 l2 c2], .int .i64 0, .int .i64 0]) ∧ rModel w' [.slice p1 l1 c1, .slice p2 l2 c2] q ∧ Few q
  | .err p x => e = .returned (.tuple #[.agg #[.slice none 0 0, .slice none 0 0], .int .i64 (p : Nat), .int .i64 x])
theorem results_parse {fn : Func} {p q u : Tmp} (h : fn.results = #[.cell p 26, .tmp q, .tmp u]) (tmps : Array Value) (w : World) (b : Nat) (v0 v1 vq vu : Value) (hp : tmps.getD p undef = .pointer (some ⟨b, 0, none⟩)) (hq : tmps.getD q undef = vq) (hu : tmps.getD u undef = vu) (c0 : w.cell? ⟨b, 0, none⟩ = some v0) (c1 : w.cell? ⟨b, 1, none⟩ = some v1) :
    (results fn tmps).run Try.prog w = .ok (.tuple #[.agg #[v0, v1], vq, vu]) w := by
  have hp' : tmps[p]?.getD undef = .pointer (some ⟨b, 0, none⟩) := by simpa using hp
  have hq' : tmps[q]?.getD undef = vq := by simpa using hq
  have hu' : tmps[u]?.getD undef = vu := by simpa using hu
  simp only [results, h]
  simp [hp', hq', hu', asAddr]
  go_simp
section
variable {w w' : World}
theorem zero_kept (hB : Below (w.alloc (.cells #[.slice none 0 0, .slice none 0 0] 26)).heap.size (w.alloc (.cells #[.slice none 0 0, .slice none 0 0] 26)) w') : w'.heap[w.heap.size]? = some (.cells #[.slice none 0 0, .slice none 0 0] 26) ∧ Below w.heap.size w w' :=
  ⟨(hB.block _ (by simp)).trans (heap_alloc_new w _), ((Below.refl _ w).alloc (Nat.le_refl _) _).trans (hB.mono ((Below.refl _ w).alloc (Nat.le_refl _) (.cells #[.slice none 0 0, .slice none 0 0] 26)).size)⟩
theorem below_put {b j : Nat} {x : Value} (h : Below w.heap.size w w') (hb : w.heap.size ≤ b) : Below w.heap.size w (w'.setCell ⟨b, j, none⟩ x) := h.setCell hb x
set_option maxHeartbeats 8000000 in
theorem parse_bad (s : ByteArray) {p x : Nat} (hs : scanL 0 (txt s) = .bad p x) (hx : x = 2 ∨ x = 5) (hm : s.size ≤ 4000) (w : World) :
    Calls Try.prog 7 #[.string s] w (ParseP w (.err p x)) := by
  have SX := Lib.hid (Sc.scan_any s (w.alloc (.cells #[.slice none 0 0, .slice none 0 0] 26)) hm)
  rw [show Sc.txt s = txt s from rfl, hs] at SX
  have hx2 : ((x : Int) == 0) = false := beq_eq_false_iff_ne.2 (by omega)
  have hx3 : ((x : Int) != 0) = true := by rw [bne, hx2]; rfl
  clear hs
  go_enter Try.func7, Try.ntmps7
  go_wp2_with fail
  refine SX.out.mono ?_
  rintro e w1 ⟨hE, hB⟩
  obtain rfl := hE
  obtain ⟨y0, hb⟩ := zero_kept hB
  have d0 : w1.cell? ⟨w.heap.size, 0, none⟩ = some (.slice none 0 0) := cell_of_row w1 w.heap.size 0 _ 26 (0, 0) y0
  have f0 := frozen_of_row w1 w.heap.size 0 _ 26 y0
  have d1 : w1.cell? ⟨w.heap.size, 1, none⟩ = some (.slice none 0 0) := cell_of_row w1 w.heap.size 1 _ 26 (0, 0) y0
  have f1 := frozen_of_row w1 w.heap.size 1 _ 26 y0
  have HB := Lib.hid hb
  clear y0 hb hB
  go_wp2_with fail
  (try simp only [Exit.inBlock, Exit.then])
  refine bodyPost_ret (results_parse rfl _ _ w.heap.size (.slice none 0 0) (.slice none 0 0) (.int .i64 (p : Nat)) (.int .i64 (x : Nat)) rfl rfl rfl ?_ ?_) rfl ?_
  · go_simp
  · go_simp
  · exact ⟨below_put (below_put HB.out (Nat.le_refl _)) (Nat.le_refl _), rfl⟩
theorem below_grows {a u u' : World} {row : Option Nat} (h : Below a.heap.size a u) (hg : u.grownBy u' row) (hr : ∀ k, row = some k → a.heap.size ≤ k) : Below a.heap.size a u' :=
  ⟨hg.os.trans h.os, hg.tape.trans h.tape, hg.output.trans h.output, Nat.le_trans h.size hg.size, fun k hk => (hg.block k (Nat.lt_of_lt_of_le hk h.size) (fun e => by have := hr k e.symm; omega)).trans (h.block k hk)⟩
/-- a parser of its own turns nothing that was there -/
theorem below_nf {a u u' : World} {g : Nat} (h : Below a.heap.size a u) (hB : But (NF g (.slice none 0 0)) u u') (hg : a.heap.size ≤ g) : Below a.heap.size a u' :=
  ⟨hB.os.trans h.os, hB.tape.trans h.tape, hB.output.trans h.output, Nat.le_trans h.size hB.size, fun k hk => (hB.block k (Nat.lt_of_lt_of_le hk h.size) (fun e => by
    rcases e with e | e
    · omega
    · simp [Value.ownBlock] at e)).trans (h.block k hk)⟩
/-- the program's parser as it starts -/
theorem pat_start {base : Nat} {v : Value} {T : List Tok} {len : Nat} (h : Sc.OwnsT 54 w base v (T ++ [endT len])) (hf : T.length ≤ 100000) :
    ∃ (bl c : Nat), v = .slice (some ⟨bl, 0, none⟩) (T.length + 1) c ∧ PAt (w.alloc (.cells #[v, .int .i64 0, .slice none 0 0, .int .i64 (-1)] 57)) w.heap.size T.length bl 0 c 0 none 0 0 T len Pa.start := by
  have hs := Sc.sees_of_owns h
  obtain ⟨W, hW⟩ : ∃ W, W = w.alloc (.cells #[v, .int .i64 0, .slice none 0 0, .int .i64 (-1)] 57) := ⟨_, rfl⟩
  have hB : Below w.heap.size w W := by rw [hW]; exact (Below.refl _ w).alloc (Nat.le_refl _) _
  have hg : W.heap[w.heap.size]? = some (.cells #[v, .int .i64 0, .slice none 0 0, .int .i64 (-1)] 57) := by rw [hW]; exact heap_alloc_new w _
  have cg : ∀ (j : Nat) (x : Value), #[v, .int .i64 0, .slice none 0 0, .int .i64 (-1)][j]? = some x → W.cell? ⟨w.heap.size, j, none⟩ = some x := fun j x hx => by
    simp only [World.cell?, hg]
    exact hx
  have fg : ∀ j, W.frozen? ⟨w.heap.size, j, none⟩ = false := fun j => frozen_of_row W _ j _ 57 hg
  rw [← hW]
  have hlen : (T ++ [endT len]).length = T.length + 1 := by simp
  rcases h.2 with ⟨_, h1⟩ | ⟨b, cap, cur, rfl, hb, hgb, hn, hc, hsz, ht⟩
  · omega
  · obtain ⟨p', b', off', c', e, e2, e3⟩ := hs
    simp only [Value.slice.injEq] at e
    obtain ⟨rfl, _, rfl⟩ := e
    have e4 := e2 (by omega)
    simp only [Option.some.injEq, Addr.mk.injEq] at e4
    obtain ⟨rfl, rfl, _⟩ := e4
    rw [hlen] at cg ⊢
    have hlt : b < w.heap.size := (Array.getElem?_eq_some_iff.1 hgb).1
    exact ⟨b, _, rfl, cg 0 _ rfl, cg 1 _ rfl, cg 2 _ rfl, cg 3 _ rfl, fg 1, fg 2, fg 3, rfl, rfl, hf, Nat.zero_le _, Sc.cells_below e3 hB, ownsP_nil _ _ _ _ _, ⟨_, hg⟩, ⟨_, (hB.block b hlt).trans hgb⟩⟩
set_option maxHeartbeats 8000000 in
theorem parse_ok (s : ByteArray) {T : List Tok} (hs : scanL 0 (txt s) = .ok T) (hm : s.size ≤ 4000) (hT : T.length ≤ 1000) (hx : ∀ t ∈ T, t.text.length ≤ 1000) (w : World) :
    Calls Try.prog 7 #[.string s] w (ParseP w (parseT 10000 T s.size)) := by
  have SX := Lib.hid (Sc.scan_any s (w.alloc (.cells #[.slice none 0 0, .slice none 0 0] 26)) hm)
  rw [show Sc.txt s = txt s from rfl, hs] at SX
  have hsm := (small_tokens hs).2
  have HV := Lib.hid (fun (t : Tok) (ht : t ∈ T) => (hsm t ht).1)
  obtain ⟨R, hR⟩ : ∃ R, R = parseT 10000 T s.size := ⟨_, rfl⟩
  rw [← hR]
  obtain ⟨n, hn⟩ : ∃ n, n = s.size := ⟨_, rfl⟩
  have hsz : ((s.size : Nat) : Int) = (n : Int) := by rw [hn]
  rw [← hn] at hR
  have HR := Lib.hid hR
  obtain ⟨i0, hi, hz0, hz1, hz2⟩ := info_parts Sc.info34
  clear hs hR hsm
  go_enter Try.func7, Try.ntmps7
  go_wp2_with fail
  refine SX.out.mono ?_
  rintro e w1 ⟨⟨v, rfl, ho⟩, hB⟩
  obtain ⟨y0, hb⟩ := zero_kept hB
  have e1 : (w.alloc (.cells #[.slice none 0 0, .slice none 0 0] 26)).heap.size = w.heap.size + 1 := by simp
  rw [e1] at ho
  obtain ⟨pt, ct, rfl⟩ := Sc.shape ho
  have hs1 : w.heap.size + 1 ≤ w1.heap.size := by have := hB.size; omega
  have k1 := (Below.refl _ w1).alloc (Nat.le_refl _) (.cells #[.int .i64 0, .string ⟨#[]⟩, .int .i64 0, .int .i64 (n : Nat)] 54)
  have HO := Lib.hid (Sc.owns_below ho k1)
  have HLT := Lib.hid (fun k (e : (Value.slice pt T.length ct).ownBlock = some k) => (World.ownsRow.lt ho k e).1)
  have HB1 := Lib.hid (hb.trans (k1.mono hb.size))
  have HY1 := Lib.hid ((k1.block w.heap.size (by omega)).trans y0)
  have HS1 := Lib.hid (show w.heap.size + 1 ≤ (w1.alloc (.cells #[.int .i64 0, .string ⟨#[]⟩, .int .i64 0, .int .i64 (n : Nat)] 54)).heap.size from Nat.le_trans hs1 k1.size)
  clear hn y0 hb ho hB k1 hs1
  go_wp2_with (at_builtin; refine Sc.append_tok rfl _ _ 51 54 i0 Try.underlying51 hi hz0 hz1 hz2 rfl (w.heap.size + 1) _ w1.heap.size T (endT n) rfl rfl HO.out (Sc.cells_tok w1 0 0 n ⟨#[]⟩ [] rfl _ rfl) (by omega) HS1.out ?_; intro v' w2 hown hgrow; obtain ⟨bq, cq, rfl, hp⟩ := pat_start hown (by omega); have HP := Lib.hid hp; have HB2 := Lib.hid (below_grows HB1.out hgrow (fun k e => by have := HLT.out k e; omega)); have HY2 := Lib.hid ((hgrow.block w.heap.size (by have := HS1.out; omega) (fun e => by have := HLT.out _ e.symm; omega)).trans HY1.out); clear hown hgrow hp)
  obtain ⟨g, hg⟩ : ∃ g, g = w2.heap.size := ⟨_, rfl⟩
  obtain ⟨W, hW⟩ : ∃ W, W = w2.alloc (.cells #[.slice (some ⟨bq, 0, none⟩) (T.length + 1) cq, .int .i64 0, .slice none 0 0, .int .i64 (-1)] 57) := ⟨_, rfl⟩
  have hBW : Below w2.heap.size w2 W := by rw [hW]; exact (Below.refl _ w2).alloc (Nat.le_refl _) _
  have HPW := Lib.hid (show PAt W g T.length bq 0 cq 0 none 0 0 T n Pa.start by rw [hW, hg]; exact HP.out)
  have RX := Lib.hid (read_any 10000 HPW.out HV.out (Nat.zero_le _) (Nat.zero_le _) (by omega) (by omega))
  have HB3 := Lib.hid (show Below w.heap.size w W from HB2.out.trans (hBW.mono HB2.out.size))
  have hw2lt : w.heap.size < w2.heap.size := (Array.getElem?_eq_some_iff.1 HY2.out).1
  have HY3 := Lib.hid ((hBW.block w.heap.size hw2lt).trans HY2.out)
  have HGL := Lib.hid (show w.heap.size < g by omega)
  rw [← hW, ← hg]
  obtain ⟨X, hX⟩ : ∃ X, X = modelQ 10000 T Pa.start := ⟨_, rfl⟩
  rw [← hX] at RX
  have HX := Lib.hid hX
  clear hg hW hBW hw2lt hX
  refine RX.out.mono ?_
  rintro e w4 ⟨hB4, ⟨hwr, ⟨pv4, m4, cv4, hP4⟩, p1, c1, p2, c2, rfl, hbs, hgl⟩ | ⟨hwr, rfl⟩⟩
  rotate_left
  · have HRE := Lib.hid (show R = .err (tokP T n X.2.at_).at_ 2 by
      rw [HR.out]
      have := parse_gone (K := 10000) (T := T) (len := n) (by omega) (by rw [← HX.out]; exact hwr)
      rw [← HX.out] at this
      exact this)
    obtain ⟨pp, hpp⟩ : ∃ pp, pp = (tokP T n X.2.at_).at_ := ⟨_, rfl⟩
    rw [← hpp] at HRE ⊢
    have HB4 := Lib.hid (below_nf HB3.out hB4 (Nat.le_of_lt HGL.out))
    have y4 := (hB4.block w.heap.size (Array.getElem?_eq_some_iff.1 HY3.out).1 (fun e => by
      rcases e with e | e
      · have := HGL.out; omega
      · simp [Value.ownBlock] at e)).trans HY3.out
    have k5 := (Below.refl _ w4).alloc (Nat.le_refl _) (.cells #[.slice none 0 0, .slice none 0 0] 26)
    have HB5 := Lib.hid (HB4.out.trans (k5.mono HB4.out.size))
    have y5 := (k5.block w.heap.size (Array.getElem?_eq_some_iff.1 y4).1).trans y4
    have d0 : (w4.alloc (.cells #[.slice none 0 0, .slice none 0 0] 26)).cell? ⟨w.heap.size, 0, none⟩ = some (.slice none 0 0) := cell_of_row (w4.alloc (.cells #[.slice none 0 0, .slice none 0 0] 26)) w.heap.size 0 _ 26 (0, 0) y5
    have f0 := frozen_of_row (w4.alloc (.cells #[.slice none 0 0, .slice none 0 0] 26)) w.heap.size 0 _ 26 y5
    have d1 : (w4.alloc (.cells #[.slice none 0 0, .slice none 0 0] 26)).cell? ⟨w.heap.size, 1, none⟩ = some (.slice none 0 0) := cell_of_row (w4.alloc (.cells #[.slice none 0 0, .slice none 0 0] 26)) w.heap.size 1 _ 26 (0, 0) y5
    have f1 := frozen_of_row (w4.alloc (.cells #[.slice none 0 0, .slice none 0 0] 26)) w.heap.size 1 _ 26 y5
    clear hB4 hwr hpp y4 y5 k5
    go_wp2_with fail
    (try simp only [Exit.inBlock, Exit.then])
    refine bodyPost_ret (results_parse rfl _ _ w.heap.size (.slice none 0 0) (.slice none 0 0) (.int .i64 (pp : Nat)) (.int .i64 2) rfl rfl rfl ?_ ?_) rfl ?_
    · go_simp
    · go_simp
    · rw [HRE.out]
      exact ⟨below_put (below_put HB5.out (Nat.le_refl _)) (Nat.le_refl _), rfl⟩
  obtain ⟨hpd, hpe⟩ := parse_done (K := 10000) (T := T) (len := n) (by omega) (by rw [← HX.out]; exact hwr)
  rw [← HX.out] at hpd hpe
  have hdw : W.heap.size ≤ w4.heap.size := hB4.size
  have HB4 := Lib.hid (below_nf HB3.out hB4 (Nat.le_of_lt HGL.out))
  have y4 := (hB4.block w.heap.size (Array.getElem?_eq_some_iff.1 HY3.out).1 (fun e => by
    rcases e with e | e
    · have := HGL.out; omega
    · simp [Value.ownBlock] at e)).trans HY3.out
  have k5 := (Below.refl _ w4).alloc (Nat.le_refl _) (.cells #[.slice p1 X.1.blocks.length c1, .slice p2 X.1.goal.length c2] 26)
  have HB5 := Lib.hid (HB4.out.trans (k5.mono HB4.out.size))
  have y5 := (k5.block w.heap.size (Array.getElem?_eq_some_iff.1 y4).1).trans y4
  have c3 := (hP4.below k5).c3
  have hg4 := (hP4.below k5).glt
  have m0 : (w4.alloc (.cells #[.slice p1 X.1.blocks.length c1, .slice p2 X.1.goal.length c2] 26)).heap[w4.heap.size]? = some (.cells #[.slice p1 X.1.blocks.length c1, .slice p2 X.1.goal.length c2] 26) := heap_alloc_new w4 _
  cases hbd : X.2.bad with
  | some p =>
    rw [hbd] at hpd c3
    have HRE := Lib.hid (show R = .err p 7 by rw [HR.out]; exact hpd)
    have hge : (0 : Int) ≤ (p : Int) := by omega
    have hgd : decide ((p : Int) ≥ 0) = true := decide_eq_true hge
    have hgd2 : decide ((0 : Int) ≤ (p : Int)) = true := decide_eq_true hge
    simp only [badI] at c3
    have d0 : (w4.alloc (.cells #[.slice p1 X.1.blocks.length c1, .slice p2 X.1.goal.length c2] 26)).cell? ⟨w.heap.size, 0, none⟩ = some (.slice none 0 0) := cell_of_row (w4.alloc (.cells #[.slice p1 X.1.blocks.length c1, .slice p2 X.1.goal.length c2] 26)) w.heap.size 0 _ 26 (0, 0) y5
    have f0 := frozen_of_row (w4.alloc (.cells #[.slice p1 X.1.blocks.length c1, .slice p2 X.1.goal.length c2] 26)) w.heap.size 0 _ 26 y5
    have d1 : (w4.alloc (.cells #[.slice p1 X.1.blocks.length c1, .slice p2 X.1.goal.length c2] 26)).cell? ⟨w.heap.size, 1, none⟩ = some (.slice none 0 0) := cell_of_row (w4.alloc (.cells #[.slice p1 X.1.blocks.length c1, .slice p2 X.1.goal.length c2] 26)) w.heap.size 1 _ 26 (0, 0) y5
    have f1 := frozen_of_row (w4.alloc (.cells #[.slice p1 X.1.blocks.length c1, .slice p2 X.1.goal.length c2] 26)) w.heap.size 1 _ 26 y5
    clear hpd hpe hbd y4 y5 k5 m0 hB4 hwr hP4 hbs hgl
    go_wp2_with fail
    go_region
    all_goals go_wp2_with fail
    all_goals (try simp only [Exit.inBlock, Exit.then])
    all_goals
      refine bodyPost_ret (results_parse rfl _ _ w.heap.size (.slice none 0 0) (.slice none 0 0) (.int .i64 (p : Nat)) (.int .i64 7) rfl rfl rfl ?_ ?_) rfl ?_
      · go_simp
      · go_simp
      · rw [HRE.out]
        exact ⟨below_put (below_put (below_drewN HB5.out) (Nat.le_refl _)) (Nat.le_refl _), rfl⟩
  | none =>
    rw [hbd] at hpd c3
    obtain ⟨hpb, hpw⟩ := hpe hbd
    have hfew : Few X.1 := by rw [hpb]; exact few_body hT hx hpw
    have hgood := good_body (K := 10000) (T := T) HV.out
    rw [← hpb] at hgood
    have hrm : rModel (w4.alloc (.cells #[.slice p1 X.1.blocks.length c1, .slice p2 X.1.goal.length c2] 26)) [.slice p1 X.1.blocks.length c1, .slice p2 X.1.goal.length c2] X.1 := ⟨_, _, rfl, blocks_read (hbs.below k5) hgood.1, cons_read (hgl.below k5) hgood.2⟩
    have HRM := Lib.hid hrm
    have HBS := Lib.hid (hbs.below k5)
    have HGS := Lib.hid (hgl.below k5)
    have HGD := Lib.hid hgood
    have HWS := Lib.hid (show w.heap.size < W.heap.size from Nat.lt_trans HGL.out HPW.out.glt)
    have HFW := Lib.hid hfew
    have CX := Lib.hid (check_any hrm hfew)
    simp only [badI] at c3
    obtain ⟨ck, hck⟩ : ∃ ck, ck = checkM X.1 := ⟨_, rfl⟩
    rw [← hck] at CX
    have HCK := Lib.hid hck
    have HRE0 := Lib.hid hpd
    have d0 : (w4.alloc (.cells #[.slice p1 X.1.blocks.length c1, .slice p2 X.1.goal.length c2] 26)).cell? ⟨w.heap.size, 0, none⟩ = some (.slice none 0 0) := cell_of_row (w4.alloc (.cells #[.slice p1 X.1.blocks.length c1, .slice p2 X.1.goal.length c2] 26)) w.heap.size 0 _ 26 (0, 0) y5
    have d1 : (w4.alloc (.cells #[.slice p1 X.1.blocks.length c1, .slice p2 X.1.goal.length c2] 26)).cell? ⟨w.heap.size, 1, none⟩ = some (.slice none 0 0) := cell_of_row (w4.alloc (.cells #[.slice p1 X.1.blocks.length c1, .slice p2 X.1.goal.length c2] 26)) w.heap.size 1 _ 26 (0, 0) y5
    have HY5 := Lib.hid y5
    have HM0 := Lib.hid m0
    have e0 : (w4.alloc (.cells #[.slice p1 X.1.blocks.length c1, .slice p2 X.1.goal.length c2] 26)).cell? ⟨w4.heap.size, 0, none⟩ = some (.slice p1 X.1.blocks.length c1) := cell_of_row (w4.alloc (.cells #[.slice p1 X.1.blocks.length c1, .slice p2 X.1.goal.length c2] 26)) w4.heap.size 0 _ 26 (0, 0) m0
    have e1' : (w4.alloc (.cells #[.slice p1 X.1.blocks.length c1, .slice p2 X.1.goal.length c2] 26)).cell? ⟨w4.heap.size, 1, none⟩ = some (.slice p2 X.1.goal.length c2) := cell_of_row (w4.alloc (.cells #[.slice p1 X.1.blocks.length c1, .slice p2 X.1.goal.length c2] 26)) w4.heap.size 1 _ 26 (0, 0) m0
    clear hpd hpe hbd y4 y5 k5 m0 hB4 hwr hP4 hbs hgl hrm hfew hgood hck hpb hpw
    go_wp2_with fail
    refine CX.out.mono ?_
    rintro e w6 ⟨rfl, hB6⟩
    have HB6 := Lib.hid (HB5.out.trans (hB6.mono HB5.out.size))
    have z6 := (hB6.block w.heap.size (Array.getElem?_eq_some_iff.1 HY5.out).1).trans HY5.out
    have d0 : w6.cell? ⟨w.heap.size, 0, none⟩ = some (.slice none 0 0) := cell_of_row w6 w.heap.size 0 _ 26 (0, 0) z6
    have f0 := frozen_of_row w6 w.heap.size 0 _ 26 z6
    have d1 : w6.cell? ⟨w.heap.size, 1, none⟩ = some (.slice none 0 0) := cell_of_row w6 w.heap.size 1 _ 26 (0, 0) z6
    have f1 := frozen_of_row w6 w.heap.size 1 _ 26 z6
    have mm := (hB6.block w4.heap.size (Array.getElem?_eq_some_iff.1 HM0.out).1).trans HM0.out
    have e0 : w6.cell? ⟨w4.heap.size, 0, none⟩ = some (.slice p1 X.1.blocks.length c1) := cell_of_row w6 w4.heap.size 0 _ 26 (0, 0) mm
    have e1' : w6.cell? ⟨w4.heap.size, 1, none⟩ = some (.slice p2 X.1.goal.length c2) := cell_of_row w6 w4.heap.size 1 _ 26 (0, 0) mm
    have HBS6 := Lib.hid (HBS.out.below hB6)
    have HGS6 := Lib.hid (HGS.out.below hB6)
    clear hB6 z6 mm
    by_cases hc : ck = 0
    · have hb0 : (ck == 0) = true := by rw [hc]; rfl
      have hb1 : (ck != 0) = false := by rw [hc]; rfl
      have HRE := Lib.hid (show R = .model X.1 by
        have e := HRE0.out
        rw [HR.out, e]
        rw [if_pos (by rw [← HCK.out]; exact hc)])
      have HC0 := Lib.hid hc
      clear hc
      go_wp2_with fail
      (try simp only [Exit.inBlock, Exit.then])
      refine bodyPost_ret (results_parse rfl _ _ w.heap.size (.slice p1 X.1.blocks.length c1) (.slice p2 X.1.goal.length c2) (.int .i64 0) (.int .i64 0) rfl rfl rfl ?_ ?_) rfl ?_
      · go_simp
      · go_simp
      · rw [HRE.out]
        have hst : ∀ i, W.heap.size ≤ i → ((w6.setCell ⟨w.heap.size, 0, none⟩ (.slice p1 X.1.blocks.length c1)).setCell ⟨w.heap.size, 1, none⟩ (.slice p2 X.1.goal.length c2)).heap[i]? = w6.heap[i]? := fun i hi => by
          have := HWS.out
          exact (Below.heap_setCell _ _ _ _ (show i ≠ w.heap.size by omega)).trans (Below.heap_setCell _ _ _ _ (show i ≠ w.heap.size by omega))
        exact ⟨below_put (below_put HB6.out (Nat.le_refl _)) (Nat.le_refl _), p1, _, c1, p2, _, c2, rfl, ⟨_, _, rfl, blocks_read (blocks_from HBS6.out hst) HGD.out.1, cons_read (cons_from HGS6.out hst) HGD.out.2⟩, HFW.out⟩
    · have hb0 : (ck == 0) = false := beq_eq_false_iff_ne.2 hc
      have hb1 : (ck != 0) = true := by rw [bne, hb0]; rfl
      have HRE := Lib.hid (show R = .err 0 ck by
        have e := HRE0.out
        rw [HR.out, e]
        rw [if_neg (by rw [← HCK.out]; exact hc), HCK.out])
      clear hc
      go_wp2_with fail
      (try simp only [Exit.inBlock, Exit.then])
      refine bodyPost_ret (results_parse rfl _ _ w.heap.size (.slice none 0 0) (.slice none 0 0) (.int .i64 0) (.int .i64 ck) rfl rfl rfl ?_ ?_) rfl ?_
      · go_simp
      · go_simp
      · rw [HRE.out]
        exact ⟨below_put (below_put HB6.out (Nat.le_refl _)) (Nat.le_refl _), rfl⟩
end
end Go.Proofs.Ytfkakdpppejehaa.Pp
namespace Go.Proofs.Ytfkakdpppejehaa.Pp
open Sc (Tok scanL)
open Pa
set_option maxRecDepth 100000

def aw1 : ByteArray := ⟨#[102, 111, 114, 97, 108, 108, 32, 121, 32, 105, 110, 32, 48, 46, 46, 49, 59, 32, 101, 120, 105, 115, 116, 115, 32, 120, 32, 105, 110, 32, 48, 46, 46, 49, 32, 119, 104, 101, 114, 101, 32, 116, 97, 98, 108, 101, 32, 120, 32, 121, 32, 91, 49, 32, 45, 49, 93, 59, 32, 103, 111, 97, 108, 32, 121, 32, 45, 32, 50, 32, 42, 32, 120, 32, 60, 61, 32, 45, 51, 59]⟩
def tk1 : List Tok := [⟨1, [102, 111, 114, 97, 108, 108], 0, 0⟩, ⟨1, [121], 0, 7⟩, ⟨1, [105, 110], 0, 9⟩, ⟨2, [48], 0, 12⟩, ⟨3, [46, 46], 0, 13⟩, ⟨2, [49], 1, 15⟩, ⟨3, [59], 0, 16⟩, ⟨1, [101, 120, 105, 115, 116, 115], 0, 18⟩, ⟨1, [120], 0, 25⟩, ⟨1, [105, 110], 0, 27⟩, ⟨2, [48], 0, 30⟩, ⟨3, [46, 46], 0, 31⟩, ⟨2, [49], 1, 33⟩, ⟨1, [119, 104, 101, 114, 101], 0, 35⟩, ⟨1, [116, 97, 98, 108, 101], 0, 41⟩, ⟨1, [120], 0, 47⟩, ⟨1, [121], 0, 49⟩, ⟨3, [91], 0, 51⟩, ⟨2, [49], 1, 52⟩, ⟨3, [45], 0, 54⟩, ⟨2, [49], 1, 55⟩, ⟨3, [93], 0, 56⟩, ⟨3, [59], 0, 57⟩, ⟨1, [103, 111, 97, 108], 0, 59⟩, ⟨1, [121], 0, 64⟩, ⟨3, [45], 0, 66⟩, ⟨2, [50], 2, 68⟩, ⟨3, [42], 0, 70⟩, ⟨1, [120], 0, 72⟩, ⟨3, [60, 61], 0, 74⟩, ⟨3, [45], 0, 77⟩, ⟨2, [51], 3, 78⟩, ⟨3, [59], 0, 79⟩]
theorem scan_aw1 : scanL 0 (txt aw1) = .ok tk1 := by kernel_rfl
def aw2 : ByteArray := ⟨#[102, 111, 114, 97, 108, 108, 32, 121, 32, 105, 110, 32, 48, 46, 46, 49, 59, 32, 103, 111, 97, 108, 32, 122, 32, 61, 32, 48, 59]⟩
def tk2 : List Tok := [⟨1, [102, 111, 114, 97, 108, 108], 0, 0⟩, ⟨1, [121], 0, 7⟩, ⟨1, [105, 110], 0, 9⟩, ⟨2, [48], 0, 12⟩, ⟨3, [46, 46], 0, 13⟩, ⟨2, [49], 1, 15⟩, ⟨3, [59], 0, 16⟩, ⟨1, [103, 111, 97, 108], 0, 18⟩, ⟨1, [122], 0, 23⟩, ⟨3, [61], 0, 25⟩, ⟨2, [48], 0, 27⟩, ⟨3, [59], 0, 28⟩]
theorem scan_aw2 : scanL 0 (txt aw2) = .ok tk2 := by kernel_rfl
def aw3 : ByteArray := ⟨#[102, 111, 114, 97, 108, 108, 32, 121, 32, 105, 110, 32, 48, 59, 32, 103, 111, 97, 108, 32, 116, 114, 117, 101]⟩
def tk3 : List Tok := [⟨1, [102, 111, 114, 97, 108, 108], 0, 0⟩, ⟨1, [121], 0, 7⟩, ⟨1, [105, 110], 0, 9⟩, ⟨2, [48], 0, 12⟩, ⟨3, [59], 0, 13⟩, ⟨1, [103, 111, 97, 108], 0, 15⟩, ⟨1, [116, 114, 117, 101], 0, 20⟩]
theorem scan_aw3 : scanL 0 (txt aw3) = .ok tk3 := by kernel_rfl
def aw4 : ByteArray := ⟨#[102, 111, 114, 97, 108, 108, 32, 121, 32, 105, 110, 32, 49, 46, 46, 48, 59, 32, 103, 111, 97, 108, 32, 116, 114, 117, 101, 59]⟩
def tk4 : List Tok := [⟨1, [102, 111, 114, 97, 108, 108], 0, 0⟩, ⟨1, [121], 0, 7⟩, ⟨1, [105, 110], 0, 9⟩, ⟨2, [49], 1, 12⟩, ⟨3, [46, 46], 0, 13⟩, ⟨2, [48], 0, 15⟩, ⟨3, [59], 0, 16⟩, ⟨1, [103, 111, 97, 108], 0, 18⟩, ⟨1, [116, 114, 117, 101], 0, 23⟩, ⟨3, [59], 0, 27⟩]
theorem scan_aw4 : scanL 0 (txt aw4) = .ok tk4 := by kernel_rfl
def wantM : PModel := ⟨[⟨true, [⟨[121], [(0, 1)]⟩], []⟩, ⟨false, [⟨[120], [(0, 1)]⟩], [⟨6, [1, 0], [], 0, 0, [1, -1]⟩]⟩], [⟨1, [0, 1], [1, -2], 3, -3, []⟩]⟩
def fourM : PModel := ⟨[⟨true, [⟨[121], [(1, 0)]⟩], []⟩], []⟩
theorem body_aw1 : bodyR 10000 tk1 Pa.start = (wantM, ⟨33, false, [[121], [120]], none⟩) := by kernel_rfl
theorem body_aw2 : (bodyR 10000 tk2 Pa.start).2 = ⟨12, false, [[121]], some 23⟩ := by kernel_rfl
theorem body_aw3 : (bodyR 10000 tk3 Pa.start).2.wrong = true ∧ (bodyR 10000 tk3 Pa.start).2.at_ = 7 := ⟨by kernel_rfl, by kernel_rfl⟩
theorem body_aw4 : bodyR 10000 tk4 Pa.start = (fourM, ⟨10, false, [[121]], none⟩) := by kernel_rfl
theorem vars_table : VarsTo ([1, 0] : List Int) 2 ([1, 0] : List Int).length := fun i hi => by
  have hi : i < 2 := hi
  match i, hi with
  | 0, _ => exact ⟨by decide, fun j hj => by omega⟩
  | 1, _ => exact ⟨by decide, fun j hj => by obtain rfl : j = 0 := by omega
                                             decide⟩
theorem vars_sum : VarsTo ([0, 1] : List Int) 2 ([0, 1] : List Int).length := fun i hi => by
  have hi : i < 2 := hi
  match i, hi with
  | 0, _ => exact ⟨by decide, fun j hj => by omega⟩
  | 1, _ => exact ⟨by decide, fun j hj => by obtain rfl : j = 0 := by omega
                                             decide⟩
theorem right_table : rightC ⟨6, [1, 0], [], 0, 0, [1, -1]⟩ 2 = true := by
  rw [right_on vars_table]
  decide
theorem right_sum : rightC ⟨1, [0, 1], [1, -2], 3, -3, []⟩ 2 = true := by
  rw [right_on vars_sum]
  decide
theorem vars_want : varsL wantM.blocks = [⟨[121], [(0, 1)]⟩, ⟨[120], [(0, 1)]⟩] := rfl
theorem vars_four : varsL fourM.blocks = [⟨[121], [(1, 0)]⟩] := rfl
theorem twice_want : twiceM wantM = false := by
  refine twice_false rfl ?_
  rintro ⟨i, j, hj, hi, e⟩
  have hi : i < 2 := hi
  obtain rfl : i = 1 := by omega
  obtain rfl : j = 0 := by omega
  revert e
  decide
theorem twice_four : twiceM fourM = false := by
  refine twice_false rfl ?_
  rintro ⟨i, j, hj, hi, e⟩
  have hi : i < 1 := hi
  omega
theorem big_want : bigM wantM = false := rfl
theorem form_want : formM wantM = false := rfl
theorem name_want : nameM wantM = false := by
  unfold nameM
  rw [vars_want]
  decide
theorem dom_want : domM wantM = false := by
  unfold domM
  rw [vars_want]
  decide
theorem con_want : conM wantM = false := by
  unfold conM
  rw [vars_want]
  simp [wantM, conF, wrongL, right_table, right_sum]
theorem check_want : checkM wantM = 0 := by simp [checkM, faultsM, firstF, big_want, form_want, name_want, twice_want, dom_want, con_want]
theorem big_four : bigM fourM = false := rfl
theorem form_four : formM fourM = false := rfl
theorem name_four : nameM fourM = false := by
  unfold nameM
  rw [vars_four]
  decide
theorem dom_four : domM fourM = true := by
  unfold domM
  rw [vars_four]
  decide
theorem check_four : checkM fourM = 1 := by simp [checkM, faultsM, firstF, big_four, form_four, name_four, twice_four, dom_four]
theorem same_want : sameM wantM wantM = true := by decide
theorem few_want : Few wantM := by
  have := few_body (K := 10000) (T := tk1) (by decide) (by decide) (by rw [body_aw1])
  rw [body_aw1] at this
  exact this
theorem parse_aw1 : parseT 10000 tk1 80 = .model wantM := by
  unfold parseT outT
  rw [body_aw1]
  simp only
  rw [if_neg (by decide), if_pos check_want]
theorem parse_aw2 : parseT 10000 tk2 29 = .err 23 7 := by
  unfold parseT outT
  rw [body_aw2]
  simp only
  rw [if_neg (by decide)]
theorem parse_aw3 : parseT 10000 tk3 24 = .err 24 2 := by
  unfold parseT outT
  rw [if_pos (.inl body_aw3.1), body_aw3.2]
  rfl
theorem parse_aw4 : parseT 10000 tk4 28 = .err 0 1 := by
  unfold parseT outT
  rw [body_aw4]
  simp only
  rw [if_neg (by decide), check_four, if_neg (by decide)]
end Go.Proofs.Ytfkakdpppejehaa.Pp
namespace Go.Proofs.Ytfkakdpppejehaa.Pp
open Go.RowKit
open Pa
set_option maxRecDepth 100000

theorem one_slc {α : Type} {R : Reader α} {n : Nat} {w : World} {b c : Nat} {a : α} {cs : List Value} (hl : cs.length = n) (hc : ∀ j, j < n → w.cell? ⟨b, j, none⟩ = cs[j]?) (hR : R w cs a) (h1 : 1 ≤ c) : Slc R n w (.slice (some ⟨b, 0, none⟩) 1 c) [a] := by
  refine ⟨_, b, 0, c, 1, rfl, ⟨(fun h => by cases h), h1⟩, rfl, fun _ => rfl, fun k x hx => ?_⟩
  have hk := (List.getElem?_eq_some_iff.1 hx).1
  obtain rfl : k = 0 := by simp at hk; omega
  cases hx
  refine ⟨cs, hl, fun j hj => ?_, hR⟩
  simpa using hc j hj
theorem two_slc {α : Type} {R : Reader α} {n : Nat} {w : World} {b c : Nat} {a a' : α} {cs cs' : List Value} (hl : cs.length = n) (hl' : cs'.length = n) (hc : ∀ j, j < n → w.cell? ⟨b, j, none⟩ = cs[j]?) (hc' : ∀ j, j < n → w.cell? ⟨b, n + j, none⟩ = cs'[j]?) (hR : R w cs a) (hR' : R w cs' a') (h1 : 2 ≤ c) : Slc R n w (.slice (some ⟨b, 0, none⟩) 2 c) [a, a'] := by
  refine ⟨_, b, 0, c, 2, rfl, ⟨(fun h => by cases h), h1⟩, rfl, fun _ => rfl, fun k x hx => ?_⟩
  have hk := (List.getElem?_eq_some_iff.1 hx).1
  match k, hk with
  | 0, _ =>
    cases hx
    refine ⟨cs, hl, fun j hj => ?_, hR⟩
    simpa using hc j hj
  | 1, _ =>
    cases hx
    refine ⟨cs', hl', fun j hj => ?_, hR'⟩
    rw [Nat.one_mul, Nat.zero_add]
    exact hc' j hj
theorem none_slc {α : Type} (R : Reader α) (n : Nat) (w : World) : Slc R n w (.slice none 0 0) ([] : List α) := ⟨none, 0, 0, 0, 0, rfl, ⟨fun _ => rfl, Nat.le_refl _⟩, rfl, fun h => by omega, fun k a h => by simp at h⟩
/-- its blocks, from block n on -/
structure WantAt (w : World) (n : Nat) : Prop where
  h0 : w.heap[n]? = some (.cells #[.int .i64 0, .int .i64 1] 41)
  h1 : w.heap[n + 1]? = some (.cells #[.string ⟨#[121]⟩, .slice (some ⟨n, 0, none⟩) 1 1] 44)
  h2 : w.heap[n + 2]? = some (.cells #[.string ⟨#[120]⟩, .slice (some ⟨n, 0, none⟩) 1 1] 44)
  h3 : w.heap[n + 3]? = some (.cells #[.int .i64 1, .int .i64 0] 3)
  h4 : w.heap[n + 4]? = some (.cells #[.int .i64 1, .int .i64 (-1)] 3)
  h5 : w.heap[n + 5]? = some (.cells #[.int .i64 6, .slice (some ⟨n + 3, 0, none⟩) 2 2, .slice none 0 0, .int .i64 0, .int .i64 0, .slice (some ⟨n + 4, 0, none⟩) 2 2] 50)
  h6 : w.heap[n + 6]? = some (.cells #[.bool true, .slice (some ⟨n + 1, 0, none⟩) 1 1, .slice none 0 0, .bool false, .slice (some ⟨n + 2, 0, none⟩) 1 1, .slice (some ⟨n + 5, 0, none⟩) 1 1] 47)
  h7 : w.heap[n + 7]? = some (.cells #[.int .i64 0, .int .i64 1] 3)
  h8 : w.heap[n + 8]? = some (.cells #[.int .i64 1, .int .i64 (-2)] 3)
  h9 : w.heap[n + 9]? = some (.cells #[.int .i64 1, .slice (some ⟨n + 7, 0, none⟩) 2 2, .slice (some ⟨n + 8, 0, none⟩) 2 2, .int .i64 3, .int .i64 (-3), .slice none 0 0] 50)
  h10 : w.heap[n + 10]? = some (.cells #[.slice (some ⟨n + 6, 0, none⟩) 2 2, .slice (some ⟨n + 9, 0, none⟩) 1 1] 26)
section
variable {w w' : World} {n : Nat}
theorem WantAt.below (h : WantAt w n) (hB : Below w.heap.size w w') : WantAt w' n := by
  have k : ∀ (b : Nat) (o : Obj), w.heap[b]? = some o → w'.heap[b]? = some o := fun b o e => (hB.block b (Array.getElem?_eq_some_iff.1 e).1).trans e
  exact ⟨k _ _ h.h0, k _ _ h.h1, k _ _ h.h2, k _ _ h.h3, k _ _ h.h4, k _ _ h.h5, k _ _ h.h6, k _ _ h.h7, k _ _ h.h8, k _ _ h.h9, k _ _ h.h10⟩
theorem row_cell {b e : Nat} {cs : Array Value} (h : w.heap[b]? = some (.cells cs e)) (j : Nat) : w.cell? ⟨b, j, none⟩ = cs[j]? := cell_of_row w b j cs e (0, 0) h
theorem nums_two {b : Nat} {x y : Int} (h : w.heap[b]? = some (.cells #[.int .i64 x, .int .i64 y] 3)) (hx : Fit x) (hy : Fit y) : Slc rNum 1 w (.slice (some ⟨b, 0, none⟩) 2 2) [x, y] :=
  two_slc (cs := [.int .i64 x]) (cs' := [.int .i64 y]) rfl rfl (fun j hj => by obtain rfl : j = 0 := by omega
                                                                               rw [row_cell h]; rfl) (fun j hj => by obtain rfl : j = 0 := by omega
                                                                                                                     rw [row_cell h]; rfl) ⟨rfl, hx⟩ ⟨rfl, hy⟩ (Nat.le_refl _)
theorem spans_one {b : Nat} {x y : Int} (h : w.heap[b]? = some (.cells #[.int .i64 x, .int .i64 y] 41)) (hx : Fit x) (hy : Fit y) : Slc rSpan 2 w (.slice (some ⟨b, 0, none⟩) 1 1) [(x, y)] :=
  one_slc (cs := [.int .i64 x, .int .i64 y]) rfl (fun j hj => by
    rw [row_cell h]
    match j, hj with
    | 0, _ => rfl
    | 1, _ => rfl) ⟨rfl, hx, hy⟩ (Nat.le_refl _)
theorem decls_at {b : Nat} {s : ByteArray} {u : Value} {d : List (Int × Int)} (h : w.heap[b]? = some (.cells #[.string s, u] 44)) (hd : Slc rSpan 2 w u d) : Slc rDecl 2 w (.slice (some ⟨b, 0, none⟩) 1 1) [⟨txt s, d⟩] :=
  one_slc (cs := [.string s, u]) rfl (fun j hj => by
    rw [row_cell h]
    match j, hj with
    | 0, _ => rfl
    | 1, _ => rfl) ⟨s, u, rfl, rfl, hd⟩ (Nat.le_refl _)
theorem con_at {b : Nat} {c : PCon} {u1 u2 u3 : Value} (h : w.heap[b]? = some (.cells #[.int .i64 c.kind, u1, u2, .int .i64 c.rel, .int .i64 c.const, u3] 50)) (hf : Fit c.kind ∧ Fit c.rel ∧ Fit c.const) (h1 : Slc rNum 1 w u1 c.vars) (h2 : Slc rNum 1 w u2 c.coefs) (h3 : Slc rNum 1 w u3 c.nums) : Slc rCon 6 w (.slice (some ⟨b, 0, none⟩) 1 1) [c] :=
  one_slc (cs := [.int .i64 c.kind, u1, u2, .int .i64 c.rel, .int .i64 c.const, u3]) rfl (fun j hj => by
    rw [row_cell h]
    match j, hj with
    | 0, _ => rfl
    | 1, _ => rfl
    | 2, _ => rfl
    | 3, _ => rfl
    | 4, _ => rfl
    | 5, _ => rfl) ⟨u1, u2, u3, rfl, hf, h1, h2, h3⟩ (Nat.le_refl _)
theorem fit_small {x : Int} (h1 : -100 ≤ x) (h2 : x ≤ 100) : Fit x := by unfold Fit; omega
theorem WantAt.model (h : WantAt w n) : rModel w [.slice (some ⟨n + 6, 0, none⟩) 2 2, .slice (some ⟨n + 9, 0, none⟩) 1 1] wantM := by
  have sp := spans_one h.h0 (fit_small (by decide) (by decide)) (fit_small (by decide) (by decide))
  have d1 : Slc rDecl 2 w (.slice (some ⟨n + 1, 0, none⟩) 1 1) [⟨[121], [(0, 1)]⟩] := decls_at h.h1 sp
  have d2 : Slc rDecl 2 w (.slice (some ⟨n + 2, 0, none⟩) 1 1) [⟨[120], [(0, 1)]⟩] := decls_at h.h2 sp
  have n3 := nums_two h.h3 (fit_small (by decide) (by decide)) (fit_small (by decide) (by decide))
  have n4 := nums_two h.h4 (fit_small (by decide) (by decide)) (fit_small (by decide) (by decide))
  have n7 := nums_two h.h7 (fit_small (by decide) (by decide)) (fit_small (by decide) (by decide))
  have n8 := nums_two h.h8 (fit_small (by decide) (by decide)) (fit_small (by decide) (by decide))
  have c5 := con_at (c := ⟨6, [1, 0], [], 0, 0, [1, -1]⟩) h.h5 ⟨fit_small (by decide) (by decide), fit_small (by decide) (by decide), fit_small (by decide) (by decide)⟩ n3 (none_slc _ _ _) n4
  have c9 := con_at (c := ⟨1, [0, 1], [1, -2], 3, -3, []⟩) h.h9 ⟨fit_small (by decide) (by decide), fit_small (by decide) (by decide), fit_small (by decide) (by decide)⟩ n7 n8 (none_slc _ _ _)
  refine ⟨_, _, rfl, ?_, c9⟩
  refine two_slc (cs := [.bool true, .slice (some ⟨n + 1, 0, none⟩) 1 1, .slice none 0 0]) (cs' := [.bool false, .slice (some ⟨n + 2, 0, none⟩) 1 1, .slice (some ⟨n + 5, 0, none⟩) 1 1]) rfl rfl (fun j hj => ?_) (fun j hj => ?_) ⟨_, _, rfl, d1, none_slc _ _ _⟩ ⟨_, _, rfl, d2, c5⟩ (Nat.le_refl _)
  · rw [row_cell h.h6]
    match j, hj with
    | 0, _ => rfl
    | 1, _ => rfl
    | 2, _ => rfl
  · rw [row_cell h.h6]
    match j, hj with
    | 0, _ => rfl
    | 1, _ => rfl
    | 2, _ => rfl
theorem heap_at (w : World) (o : Obj) (k : Nat) : (w.alloc o).heap[k]? = if k = w.heap.size then some o else w.heap[k]? := by
  show (w.heap.push o)[k]? = _
  rw [Array.getElem?_push]
theorem size_at (w : World) (o : Obj) : (w.alloc o).heap.size = w.heap.size + 1 := by simp
def wantW (w : World) : World := ((((((((((w.alloc (.cells #[.int .i64 0, .int .i64 1] 41)).alloc (.cells #[.string ⟨#[121]⟩, .slice (some ⟨w.heap.size, 0, none⟩) 1 1] 44)).alloc (.cells #[.string ⟨#[120]⟩, .slice (some ⟨w.heap.size, 0, none⟩) 1 1] 44)).alloc
  (.cells #[.int .i64 1, .int .i64 0] 3)).alloc (.cells #[.int .i64 1, .int .i64 (-1)] 3)).alloc (.cells #[.int .i64 6, .slice (some ⟨w.heap.size + 3, 0, none⟩) 2 2, .slice none 0 0, .int .i64 0, .int .i64 0, .slice (some ⟨w.heap.size + 4, 0, none⟩) 2 2] 50)).alloc
  (.cells #[.bool true, .slice (some ⟨w.heap.size + 1, 0, none⟩) 1 1, .slice none 0 0, .bool false, .slice (some ⟨w.heap.size + 2, 0, none⟩) 1 1, .slice (some ⟨w.heap.size + 5, 0, none⟩) 1 1] 47)).alloc (.cells #[.int .i64 0, .int .i64 1] 3)).alloc (.cells #[.int .i64 1, .int .i64 (-2)] 3)).alloc
  (.cells #[.int .i64 1, .slice (some ⟨w.heap.size + 7, 0, none⟩) 2 2, .slice (some ⟨w.heap.size + 8, 0, none⟩) 2 2, .int .i64 3, .int .i64 (-3), .slice none 0 0] 50)).alloc (.cells #[.slice (some ⟨w.heap.size + 6, 0, none⟩) 2 2, .slice (some ⟨w.heap.size + 9, 0, none⟩) 1 1] 26)
theorem want_at (w : World) : WantAt (wantW w) w.heap.size ∧ Below w.heap.size w (wantW w) := by
  unfold wantW
  refine ⟨⟨?_, ?_, ?_, ?_, ?_, ?_, ?_, ?_, ?_, ?_, ?_⟩, ?_⟩
  case refine_12 => exact (((((((((((Below.refl _ w).alloc (Nat.le_refl _) _).alloc (by simp) _).alloc (by simp; omega) _).alloc (by simp; omega) _).alloc (by simp; omega) _).alloc (by simp; omega) _).alloc (by simp; omega) _).alloc (by simp; omega) _).alloc (by simp; omega) _).alloc (by simp; omega) _).alloc (by simp; omega) _
  all_goals simp only [heap_at, size_at]
  all_goals repeat (first | rw [if_pos trivial] | rw [if_pos rfl] | rw [if_neg (by omega)])
theorem want_kept (hB : Below (wantW w).heap.size (wantW w) w') : WantAt w' w.heap.size ∧ Below w.heap.size w w' := ⟨(want_at w).1.below hB, (want_at w).2.trans (hB.mono (want_at w).2.size)⟩
end
end Go.Proofs.Ytfkakdpppejehaa.Pp
namespace Go.Proofs.Ytfkakdpppejehaa.Pp
open Go.RowKit
open Sc (Tok Cells str noTok scanL)
open Pa
set_option maxRecDepth 100000

theorem parse_any (s : ByteArray) (hm : s.size ≤ 4000) (hk : ∀ T, scanL 0 (txt s) = .ok T → T.length ≤ 1000 ∧ ∀ t ∈ T, t.text.length ≤ 1000) (w : World) : Calls Try.prog 7 #[.string s] w (ParseP w (parseL 10000 (txt s))) := by
  unfold parseL
  cases hs : scanL 0 (txt s) with
  | bad p e =>
    simp only
    exact parse_bad s hs (Sc.scan_err hs) hm w
  | ok T =>
    obtain ⟨h1, h2⟩ := hk T hs
    simp only
    rw [show (txt s).length = s.size by rw [txt_size]]
    exact parse_ok s hs hm h1 h2 w
theorem pa1 (w : World) : Calls Try.prog 7 #[.string aw1] w (ParseP w (.model wantM)) := by
  have h := parse_ok aw1 scan_aw1 (by decide) (by decide) (by decide) w
  rw [show aw1.size = 80 from rfl, parse_aw1] at h
  exact h
theorem pa2 (w : World) : Calls Try.prog 7 #[.string aw2] w (ParseP w (.err 23 7)) := by
  have h := parse_ok aw2 scan_aw2 (by decide) (by decide) (by decide) w
  rw [show aw2.size = 29 from rfl, parse_aw2] at h
  exact h
theorem pa3 (w : World) : Calls Try.prog 7 #[.string aw3] w (ParseP w (.err 24 2)) := by
  have h := parse_ok aw3 scan_aw3 (by decide) (by decide) (by decide) w
  rw [show aw3.size = 24 from rfl, parse_aw3] at h
  exact h
theorem pa4 (w : World) : Calls Try.prog 7 #[.string aw4] w (ParseP w (.err 0 1)) := by
  have h := parse_ok aw4 scan_aw4 (by decide) (by decide) (by decide) w
  rw [show aw4.size = 28 from rfl, parse_aw4] at h
  exact h
/-- the model that was parsed, and the one that is wanted -/
structure AwS (w : World) (D : Nat) (p1 : Option Addr) (l1 c1 : Nat) (p2 : Option Addr) (l2 c2 : Nat) (u : World) : Prop where
  want : WantAt u w.heap.size
  got : rModel u [.slice p1 l1 c1, .slice p2 l2 c2] wantM
  box : u.heap[D]? = some (.cells #[.slice p1 l1 c1, .slice p2 l2 c2] 26)
  low : Below w.heap.size w u
theorem AwS.on {w u u' : World} {D l1 c1 l2 c2 : Nat} {p1 p2 : Option Addr} (h : AwS w D p1 l1 c1 p2 l2 c2 u) (hB : Below u.heap.size u u') : AwS w D p1 l1 c1 p2 l2 c2 u' :=
  ⟨h.want.below hB, rModel_stays _ _ _ _ hB h.got, (hB.block _ (Array.getElem?_eq_some_iff.1 h.box).1).trans h.box, h.low.trans (hB.mono h.low.size)⟩
theorem AwS.al {w u u' : World} {o : Obj} {D l1 c1 l2 c2 : Nat} {p1 p2 : Option Addr} (h : AwS w D p1 l1 c1 p2 l2 c2 u) (hB : Below (u.alloc o).heap.size (u.alloc o) u') : AwS w D p1 l1 c1 p2 l2 c2 u' := (h.on ((Below.refl _ u).alloc (Nat.le_refl _) o)).on hB
set_option maxHeartbeats 4000000 in
theorem awake_any (w : World) : Calls Try.prog 6 #[] w fun e w' => e = .returned (.bool true) ∧ Below w.heap.size w w' := by
  go_enter Try.func6, Try.ntmps6
  go_wp2_with fail
  refine (pa1 _).mono ?_
  rintro e w1 ⟨hB1, p1, l1, c1, p2, l2, c2, rfl, hm, hf⟩
  obtain ⟨hwa, hb1⟩ := want_kept (w := w) hB1
  have k2 := (Below.refl _ w1).alloc (Nat.le_refl _) (.cells #[.slice p1 l1 c1, .slice p2 l2 c2] 26)
  have HS2 := Lib.hid (show AwS w w1.heap.size p1 l1 c1 p2 l2 c2 (w1.alloc (.cells #[.slice p1 l1 c1, .slice p2 l2 c2] 26)) from ⟨hwa.below k2, rModel_stays _ _ _ _ k2 hm, heap_alloc_new w1 _, hb1.trans (k2.mono hb1.size)⟩)
  have HF := Lib.hid hf
  clear hB1 hm hf hwa hb1 k2
  go_wp2_with fail
  refine (pa2 _).mono ?_
  rintro e w3 ⟨hB, rfl⟩
  have HS3 := Lib.hid (HS2.out.on hB)
  clear hB
  go_wp2_with fail
  refine (pa3 _).mono ?_
  rintro e w4 ⟨hB, rfl⟩
  have HS4 := Lib.hid (HS3.out.al hB)
  clear hB
  go_wp2_with fail
  refine (pa4 _).mono ?_
  rintro e w5 ⟨hB, rfl⟩
  have HS5 := Lib.hid (HS4.out.al hB)
  clear hB
  have h6 := HS5.out.on ((Below.refl _ w5).alloc (Nat.le_refl _) (.cells #[.slice none 0 0, .slice none 0 0] 26))
  have HS6 := Lib.hid h6
  have a0 : (w5.alloc (.cells #[.slice none 0 0, .slice none 0 0] 26)).cell? ⟨w1.heap.size, 0, none⟩ = some (.slice p1 l1 c1) := row_cell h6.box 0
  have a1 : (w5.alloc (.cells #[.slice none 0 0, .slice none 0 0] 26)).cell? ⟨w1.heap.size, 1, none⟩ = some (.slice p2 l2 c2) := row_cell h6.box 1
  have b0 : (w5.alloc (.cells #[.slice none 0 0, .slice none 0 0] 26)).cell? ⟨w.heap.size + 1 + 1 + 1 + 1 + 1 + 1 + 1 + 1 + 1 + 1, 0, none⟩ = some (.slice (some ⟨w.heap.size + 6, 0, none⟩) 2 2) := row_cell h6.want.h10 0
  have b1 : (w5.alloc (.cells #[.slice none 0 0, .slice none 0 0] 26)).cell? ⟨w.heap.size + 1 + 1 + 1 + 1 + 1 + 1 + 1 + 1 + 1 + 1, 1, none⟩ = some (.slice (some ⟨w.heap.size + 9, 0, none⟩) 1 1) := row_cell h6.want.h10 1
  have SX := Lib.hid (rsame_any h6.got h6.want.model HF.out few_want)
  rw [same_want] at SX
  clear h6
  go_wp2_with fail
  refine SX.out.mono ?_
  rintro e w7 ⟨rfl, hB⟩
  have HB := Lib.hid (HS6.out.on hB).low
  clear hB
  go_wp2_with fail
  go_ret
  exact ⟨rfl, HB.out⟩
end Go.Proofs.Ytfkakdpppejehaa.Pp
