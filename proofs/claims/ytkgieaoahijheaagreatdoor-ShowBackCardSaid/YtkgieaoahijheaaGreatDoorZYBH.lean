/-
  What Parse of the program answers.
  Two variables that a call makes; when two models are the same: plain data. Nothing of the program.
  What Same of the document's answers answers, at every two models that can be read and whose lists are short.
-/
import Derived.Test.YtkgieaoahijheaaGreatDoorZYBE
import Derived.Test.YtkgieaoahijheaaGreatDoorZYBG
import Derived.Test.YtkgieaoahijheaaGreatDoorZYAP
import Derived.Test.YtkgieaoahijheaaGreatDoorZYAI
import Derived.Deep.RegionHeld3
namespace Go.Proofs.YtkgieaoahijheaaGreatDoor.Pp
open Go.RowKit
open Sc (Tok Cells str noTok scanL)
open Pa
set_option maxRecDepth 100000

/-- what a call of Parse hands back -/
def ParseP (w : World) (R : Out) (e : Ending) (w' : World) : Prop := Below w.heap.size w w' ∧ match R with
  | .model q => ∃ (p1 : Option Addr) (l1 c1 : Nat) (p2 : Option Addr) (l2 c2 : Nat), e = .returned (.tuple #[.agg #[.slice p1 l1 c1, .slice p2 l2 c2], .int .i64 0, .int .i64 0]) ∧ rModel w' [.slice p1 l1 c1, .slice p2 l2 c2] q ∧ Few q
  | .err p x => e = .returned (.tuple #[.agg #[.slice none 0 0, .slice none 0 0], .int .i64 (p : Nat), .int .i64 x])
theorem results_parse {fn : Func} {p q u : Tmp} (h : fn.results = #[.cell p 25, .tmp q, .tmp u]) (tmps : Array Value) (w : World) (b : Nat) (v0 v1 vq vu : Value) (hp : tmps.getD p undef = .pointer (some ⟨b, 0, none⟩)) (hq : tmps.getD q undef = vq) (hu : tmps.getD u undef = vu) (c0 : w.cell? ⟨b, 0, none⟩ = some v0) (c1 : w.cell? ⟨b, 1, none⟩ = some v1) :
    (results fn tmps).run Tryz.prog w = .ok (.tuple #[.agg #[v0, v1], vq, vu]) w := by
  have hp' : tmps[p]?.getD undef = .pointer (some ⟨b, 0, none⟩) := by simpa using hp
  have hq' : tmps[q]?.getD undef = vq := by simpa using hq
  have hu' : tmps[u]?.getD undef = vu := by simpa using hu
  simp only [results, h]
  simp [hp', hq', hu', asAddr]
  go_simp
section
variable {w w' : World}
theorem zero_kept (hB : Below (w.alloc (.cells #[.slice none 0 0, .slice none 0 0] 25)).heap.size (w.alloc (.cells #[.slice none 0 0, .slice none 0 0] 25)) w') : w'.heap[w.heap.size]? = some (.cells #[.slice none 0 0, .slice none 0 0] 25) ∧ Below w.heap.size w w' :=
  ⟨(hB.block _ (by simp)).trans (heap_alloc_new w _), ((Below.refl _ w).alloc (Nat.le_refl _) _).trans (hB.mono ((Below.refl _ w).alloc (Nat.le_refl _) (.cells #[.slice none 0 0, .slice none 0 0] 25)).size)⟩
theorem below_put {b j : Nat} {x : Value} (h : Below w.heap.size w w') (hb : w.heap.size ≤ b) : Below w.heap.size w (w'.setCell ⟨b, j, none⟩ x) := h.setCell hb x
set_option maxHeartbeats 8000000 in
theorem parse_bad (s : ByteArray) {p x : Nat} (hs : scanL 0 (txt s) = .bad p x) (hx : x = 2 ∨ x = 5) (hm : s.size ≤ 4000) (w : World) :
    Calls Tryz.prog 7 #[.string s] w (ParseP w (.err p x)) := by
  have SX := Lib.hid (Sc.scan_any s (w.alloc (.cells #[.slice none 0 0, .slice none 0 0] 25)) hm)
  rw [show Sc.txt s = txt s from rfl, hs] at SX
  have hx2 : ((x : Int) == 0) = false := beq_eq_false_iff_ne.2 (by omega)
  have hx3 : ((x : Int) != 0) = true := by rw [bne, hx2]; rfl
  clear hs
  go_enter Tryz.func7, Tryz.ntmps7
  go_wp2_with fail
  refine SX.out.mono ?_
  rintro e w1 ⟨hE, hB⟩
  obtain rfl := hE
  obtain ⟨y0, hb⟩ := zero_kept hB
  have d0 : w1.cell? ⟨w.heap.size, 0, none⟩ = some (.slice none 0 0) := cell_of_row w1 w.heap.size 0 _ 25 (0, 0) y0
  have f0 := frozen_of_row w1 w.heap.size 0 _ 25 y0
  have d1 : w1.cell? ⟨w.heap.size, 1, none⟩ = some (.slice none 0 0) := cell_of_row w1 w.heap.size 1 _ 25 (0, 0) y0
  have f1 := frozen_of_row w1 w.heap.size 1 _ 25 y0
  have HB := Lib.hid hb
  clear y0 hb hB
  go_wp2_with fail
  (try simp only [Exit.inBlock, Exit.then])
  refine bodyPost_ret (results_parse rfl _ _ w.heap.size (.slice none 0 0) (.slice none 0 0) (.int .i64 (p : Nat)) (.int .i64 (x : Nat)) rfl rfl rfl ?_ ?_) rfl ?_
  · go_simp
  · go_simp
  · exact ⟨below_put (below_put HB.out (Nat.le_refl _)) (Nat.le_refl _), rfl⟩
theorem below_grows {a u u' : World} {row : Option Nat} (h : Below a.heap.size a u) (hg : u.grownBy u' row) (hr : ∀ k, row = some k → a.heap.size ≤ k) : Below a.heap.size a u' :=
  ⟨hg.os.trans h.os, hg.tape.trans h.tape, hg.output.trans h.output, Nat.le_trans h.size hg.size, fun k hk => (hg.block k (Nat.lt_of_lt_of_le hk h.size) (fun e => by have := hr k e.symm; omega)).trans (h.block k hk)⟩
/-- a parser of its own turns nothing that was there -/
theorem below_nf {a u u' : World} {g : Nat} (h : Below a.heap.size a u) (hB : But (NF g (.slice none 0 0)) u u') (hg : a.heap.size ≤ g) : Below a.heap.size a u' :=
  ⟨hB.os.trans h.os, hB.tape.trans h.tape, hB.output.trans h.output, Nat.le_trans h.size hB.size, fun k hk => (hB.block k (Nat.lt_of_lt_of_le hk h.size) (fun e => by
    rcases e with e | e
    · omega
    · simp [Value.ownBlock] at e)).trans (h.block k hk)⟩
/-- the program's parser as it starts -/
theorem pat_start {base : Nat} {v : Value} {T : List Tok} {len : Nat} (h : Sc.OwnsT 63 w base v (T ++ [endT len])) (hf : T.length ≤ 100000) :
    ∃ (bl c : Nat), v = .slice (some ⟨bl, 0, none⟩) (T.length + 1) c ∧ PAt (w.alloc (.cells #[v, .int .i64 0, .slice none 0 0, .int .i64 (-1)] 66)) w.heap.size T.length bl 0 c 0 none 0 0 T len Pa.start := by
  have hs := Sc.sees_of_owns h
  obtain ⟨W, hW⟩ : ∃ W, W = w.alloc (.cells #[v, .int .i64 0, .slice none 0 0, .int .i64 (-1)] 66) := ⟨_, rfl⟩
  have hB : Below w.heap.size w W := by rw [hW]; exact (Below.refl _ w).alloc (Nat.le_refl _) _
  have hg : W.heap[w.heap.size]? = some (.cells #[v, .int .i64 0, .slice none 0 0, .int .i64 (-1)] 66) := by rw [hW]; exact heap_alloc_new w _
  have cg : ∀ (j : Nat) (x : Value), #[v, .int .i64 0, .slice none 0 0, .int .i64 (-1)][j]? = some x → W.cell? ⟨w.heap.size, j, none⟩ = some x := fun j x hx => by
    simp only [World.cell?, hg]
    exact hx
  have fg : ∀ j, W.frozen? ⟨w.heap.size, j, none⟩ = false := fun j => frozen_of_row W _ j _ 66 hg
  rw [← hW]
  have hlen : (T ++ [endT len]).length = T.length + 1 := by simp
  rcases h.2 with ⟨_, h1⟩ | ⟨b, cap, cur, rfl, hb, hgb, hn, hc, hsz, ht⟩
  · omega
  · obtain ⟨p', b', off', c', e, e2, e3⟩ := hs
    simp only [Value.slice.injEq] at e
    obtain ⟨rfl, _, rfl⟩ := e
    have e4 := e2 (by omega)
    simp only [Option.some.injEq, Addr.mk.injEq] at e4
    obtain ⟨rfl, rfl, _⟩ := e4
    rw [hlen] at cg ⊢
    have hlt : b < w.heap.size := (Array.getElem?_eq_some_iff.1 hgb).1
    exact ⟨b, _, rfl, cg 0 _ rfl, cg 1 _ rfl, cg 2 _ rfl, cg 3 _ rfl, fg 1, fg 2, fg 3, rfl, rfl, hf, Nat.zero_le _, Sc.cells_below e3 hB, ownsP_nil _ _ _ _ _, ⟨_, hg⟩, ⟨_, (hB.block b hlt).trans hgb⟩⟩
set_option maxHeartbeats 8000000 in
theorem parse_few (s : ByteArray) {T : List Tok} (hs : scanL 0 (txt s) = .ok T) (hm : s.size ≤ 4000) (hT : T.length ≤ 4000) (hF : Hid ((bodyR 10000 T Pa.start).2.wrong = false → Few (bodyR 10000 T Pa.start).1)) (w : World) :
    Calls Tryz.prog 7 #[.string s] w (ParseP w (parseT 10000 T s.size)) := by
  have SX := Lib.hid (Sc.scan_any s (w.alloc (.cells #[.slice none 0 0, .slice none 0 0] 25)) hm)
  rw [show Sc.txt s = txt s from rfl, hs] at SX
  have hsm := (small_tokens hs).2
  have HV := Lib.hid (fun (t : Tok) (ht : t ∈ T) => (hsm t ht).1)
  obtain ⟨R, hR⟩ : ∃ R, R = parseT 10000 T s.size := ⟨_, rfl⟩
  rw [← hR]
  obtain ⟨n, hn⟩ : ∃ n, n = s.size := ⟨_, rfl⟩
  have hsz : ((s.size : Nat) : Int) = (n : Int) := by rw [hn]
  rw [← hn] at hR
  have HR := Lib.hid hR
  obtain ⟨i0, hi, hz0, hz1, hz2⟩ := info_parts Sc.info34
  clear hs hR hsm
  go_enter Tryz.func7, Tryz.ntmps7
  go_wp2_with fail
  refine SX.out.mono ?_
  rintro e w1 ⟨⟨v, rfl, ho⟩, hB⟩
  obtain ⟨y0, hb⟩ := zero_kept hB
  have e1 : (w.alloc (.cells #[.slice none 0 0, .slice none 0 0] 25)).heap.size = w.heap.size + 1 := by simp
  rw [e1] at ho
  obtain ⟨pt, ct, rfl⟩ := Sc.shape ho
  have hs1 : w.heap.size + 1 ≤ w1.heap.size := by have := hB.size; omega
  have k1 := (Below.refl _ w1).alloc (Nat.le_refl _) (.cells #[.int .i64 0, .string ⟨#[]⟩, .int .i64 0, .int .i64 (n : Nat)] 63)
  have HO := Lib.hid (Sc.owns_below ho k1)
  have HLT := Lib.hid (fun k (e : (Value.slice pt T.length ct).ownBlock = some k) => (World.ownsRow.lt ho k e).1)
  have HB1 := Lib.hid (hb.trans (k1.mono hb.size))
  have HY1 := Lib.hid ((k1.block w.heap.size (by omega)).trans y0)
  have HS1 := Lib.hid (show w.heap.size + 1 ≤ (w1.alloc (.cells #[.int .i64 0, .string ⟨#[]⟩, .int .i64 0, .int .i64 (n : Nat)] 63)).heap.size from Nat.le_trans hs1 k1.size)
  clear hn y0 hb ho hB k1 hs1
  go_wp2_with (at_builtin; refine Sc.append_tok rfl _ _ 59 63 i0 Tryz.underlying59 hi hz0 hz1 hz2 rfl (w.heap.size + 1) _ w1.heap.size T (endT n) rfl rfl HO.out (Sc.cells_tok w1 0 0 n ⟨#[]⟩ [] rfl _ rfl) (by omega) HS1.out ?_; intro v' w2 hown hgrow; obtain ⟨bq, cq, rfl, hp⟩ := pat_start hown (by omega); have HP := Lib.hid hp; have HB2 := Lib.hid (below_grows HB1.out hgrow (fun k e => by have := HLT.out k e; omega)); have HY2 := Lib.hid ((hgrow.block w.heap.size (by have := HS1.out; omega) (fun e => by have := HLT.out _ e.symm; omega)).trans HY1.out); clear hown hgrow hp)
  obtain ⟨g, hg⟩ : ∃ g, g = w2.heap.size := ⟨_, rfl⟩
  obtain ⟨W, hW⟩ : ∃ W, W = w2.alloc (.cells #[.slice (some ⟨bq, 0, none⟩) (T.length + 1) cq, .int .i64 0, .slice none 0 0, .int .i64 (-1)] 66) := ⟨_, rfl⟩
  have hBW : Below w2.heap.size w2 W := by rw [hW]; exact (Below.refl _ w2).alloc (Nat.le_refl _) _
  have HPW := Lib.hid (show PAt W g T.length bq 0 cq 0 none 0 0 T n Pa.start by rw [hW, hg]; exact HP.out)
  have RX := Lib.hid (read_any 10000 HPW.out HV.out (Nat.zero_le _) (Nat.zero_le _) (by omega) (by omega))
  have HB3 := Lib.hid (show Below w.heap.size w W from HB2.out.trans (hBW.mono HB2.out.size))
  have hw2lt : w.heap.size < w2.heap.size := (Array.getElem?_eq_some_iff.1 HY2.out).1
  have HY3 := Lib.hid ((hBW.block w.heap.size hw2lt).trans HY2.out)
  have HGL := Lib.hid (show w.heap.size < g by omega)
  rw [← hW, ← hg]
  obtain ⟨X, hX⟩ : ∃ X, X = modelQ 10000 T Pa.start := ⟨_, rfl⟩
  rw [← hX] at RX
  have HX := Lib.hid hX
  clear hg hW hBW hw2lt hX
  refine RX.out.mono ?_
  rintro e w4 ⟨hB4, ⟨hwr, ⟨pv4, m4, cv4, hP4⟩, p1, c1, p2, c2, rfl, hbs, hgl⟩ | ⟨hwr, rfl⟩⟩
  rotate_left
  · have HRE := Lib.hid (show R = .err (tokP T n X.2.at_).at_ 2 by
      rw [HR.out]
      have := parse_gone (K := 10000) (T := T) (len := n) (by omega) (by rw [← HX.out]; exact hwr)
      rw [← HX.out] at this
      exact this)
    obtain ⟨pp, hpp⟩ : ∃ pp, pp = (tokP T n X.2.at_).at_ := ⟨_, rfl⟩
    rw [← hpp] at HRE ⊢
    have HB4 := Lib.hid (below_nf HB3.out hB4 (Nat.le_of_lt HGL.out))
    have y4 := (hB4.block w.heap.size (Array.getElem?_eq_some_iff.1 HY3.out).1 (fun e => by
      rcases e with e | e
      · have := HGL.out; omega
      · simp [Value.ownBlock] at e)).trans HY3.out
    have k5 := (Below.refl _ w4).alloc (Nat.le_refl _) (.cells #[.slice none 0 0, .slice none 0 0] 25)
    have HB5 := Lib.hid (HB4.out.trans (k5.mono HB4.out.size))
    have y5 := (k5.block w.heap.size (Array.getElem?_eq_some_iff.1 y4).1).trans y4
    have d0 : (w4.alloc (.cells #[.slice none 0 0, .slice none 0 0] 25)).cell? ⟨w.heap.size, 0, none⟩ = some (.slice none 0 0) := cell_of_row (w4.alloc (.cells #[.slice none 0 0, .slice none 0 0] 25)) w.heap.size 0 _ 25 (0, 0) y5
    have f0 := frozen_of_row (w4.alloc (.cells #[.slice none 0 0, .slice none 0 0] 25)) w.heap.size 0 _ 25 y5
    have d1 : (w4.alloc (.cells #[.slice none 0 0, .slice none 0 0] 25)).cell? ⟨w.heap.size, 1, none⟩ = some (.slice none 0 0) := cell_of_row (w4.alloc (.cells #[.slice none 0 0, .slice none 0 0] 25)) w.heap.size 1 _ 25 (0, 0) y5
    have f1 := frozen_of_row (w4.alloc (.cells #[.slice none 0 0, .slice none 0 0] 25)) w.heap.size 1 _ 25 y5
    clear hB4 hwr hpp y4 y5 k5
    go_wp2_with fail
    (try simp only [Exit.inBlock, Exit.then])
    refine bodyPost_ret (results_parse rfl _ _ w.heap.size (.slice none 0 0) (.slice none 0 0) (.int .i64 (pp : Nat)) (.int .i64 2) rfl rfl rfl ?_ ?_) rfl ?_
    · go_simp
    · go_simp
    · rw [HRE.out]
      exact ⟨below_put (below_put HB5.out (Nat.le_refl _)) (Nat.le_refl _), rfl⟩
  obtain ⟨hpd, hpe⟩ := parse_done (K := 10000) (T := T) (len := n) (by omega) (by rw [← HX.out]; exact hwr)
  rw [← HX.out] at hpd hpe
  have hdw : W.heap.size ≤ w4.heap.size := hB4.size
  have HB4 := Lib.hid (below_nf HB3.out hB4 (Nat.le_of_lt HGL.out))
  have y4 := (hB4.block w.heap.size (Array.getElem?_eq_some_iff.1 HY3.out).1 (fun e => by
    rcases e with e | e
    · have := HGL.out; omega
    · simp [Value.ownBlock] at e)).trans HY3.out
  have k5 := (Below.refl _ w4).alloc (Nat.le_refl _) (.cells #[.slice p1 X.1.blocks.length c1, .slice p2 X.1.goal.length c2] 25)
  have HB5 := Lib.hid (HB4.out.trans (k5.mono HB4.out.size))
  have y5 := (k5.block w.heap.size (Array.getElem?_eq_some_iff.1 y4).1).trans y4
  have c3 := (hP4.below k5).c3
  have hg4 := (hP4.below k5).glt
  have m0 : (w4.alloc (.cells #[.slice p1 X.1.blocks.length c1, .slice p2 X.1.goal.length c2] 25)).heap[w4.heap.size]? = some (.cells #[.slice p1 X.1.blocks.length c1, .slice p2 X.1.goal.length c2] 25) := heap_alloc_new w4 _
  cases hbd : X.2.bad with
  | some p =>
    rw [hbd] at hpd c3
    have HRE := Lib.hid (show R = .err p 7 by rw [HR.out]; exact hpd)
    have hge : (0 : Int) ≤ (p : Int) := by omega
    have hgd : decide ((p : Int) ≥ 0) = true := decide_eq_true hge
    have hgd2 : decide ((0 : Int) ≤ (p : Int)) = true := decide_eq_true hge
    simp only [badI] at c3
    have d0 : (w4.alloc (.cells #[.slice p1 X.1.blocks.length c1, .slice p2 X.1.goal.length c2] 25)).cell? ⟨w.heap.size, 0, none⟩ = some (.slice none 0 0) := cell_of_row (w4.alloc (.cells #[.slice p1 X.1.blocks.length c1, .slice p2 X.1.goal.length c2] 25)) w.heap.size 0 _ 25 (0, 0) y5
    have f0 := frozen_of_row (w4.alloc (.cells #[.slice p1 X.1.blocks.length c1, .slice p2 X.1.goal.length c2] 25)) w.heap.size 0 _ 25 y5
    have d1 : (w4.alloc (.cells #[.slice p1 X.1.blocks.length c1, .slice p2 X.1.goal.length c2] 25)).cell? ⟨w.heap.size, 1, none⟩ = some (.slice none 0 0) := cell_of_row (w4.alloc (.cells #[.slice p1 X.1.blocks.length c1, .slice p2 X.1.goal.length c2] 25)) w.heap.size 1 _ 25 (0, 0) y5
    have f1 := frozen_of_row (w4.alloc (.cells #[.slice p1 X.1.blocks.length c1, .slice p2 X.1.goal.length c2] 25)) w.heap.size 1 _ 25 y5
    clear hpd hpe hbd y4 y5 k5 m0 hB4 hwr hP4 hbs hgl
    go_wp2_with fail
    go_region
    all_goals go_wp2_with fail
    all_goals (try simp only [Exit.inBlock, Exit.then])
    all_goals
      refine bodyPost_ret (results_parse rfl _ _ w.heap.size (.slice none 0 0) (.slice none 0 0) (.int .i64 (p : Nat)) (.int .i64 7) rfl rfl rfl ?_ ?_) rfl ?_
      · go_simp
      · go_simp
      · rw [HRE.out]
        exact ⟨below_put (below_put (below_drewN HB5.out) (Nat.le_refl _)) (Nat.le_refl _), rfl⟩
  | none =>
    rw [hbd] at hpd c3
    obtain ⟨hpb, hpw⟩ := hpe hbd
    have hfew : Few X.1 := by rw [hpb]; exact hF.out hpw
    have hgood := good_body (K := 10000) (T := T) HV.out
    rw [← hpb] at hgood
    have hrm : rModel (w4.alloc (.cells #[.slice p1 X.1.blocks.length c1, .slice p2 X.1.goal.length c2] 25)) [.slice p1 X.1.blocks.length c1, .slice p2 X.1.goal.length c2] X.1 := ⟨_, _, rfl, blocks_read (hbs.below k5) hgood.1, cons_read (hgl.below k5) hgood.2⟩
    have HRM := Lib.hid hrm
    have HBS := Lib.hid (hbs.below k5)
    have HGS := Lib.hid (hgl.below k5)
    have HGD := Lib.hid hgood
    have HWS := Lib.hid (show w.heap.size < W.heap.size from Nat.lt_trans HGL.out HPW.out.glt)
    have HFW := Lib.hid hfew
    have CX := Lib.hid (check_any hrm hfew)
    simp only [badI] at c3
    obtain ⟨ck, hck⟩ : ∃ ck, ck = checkM X.1 := ⟨_, rfl⟩
    rw [← hck] at CX
    have HCK := Lib.hid hck
    have HRE0 := Lib.hid hpd
    have d0 : (w4.alloc (.cells #[.slice p1 X.1.blocks.length c1, .slice p2 X.1.goal.length c2] 25)).cell? ⟨w.heap.size, 0, none⟩ = some (.slice none 0 0) := cell_of_row (w4.alloc (.cells #[.slice p1 X.1.blocks.length c1, .slice p2 X.1.goal.length c2] 25)) w.heap.size 0 _ 25 (0, 0) y5
    have d1 : (w4.alloc (.cells #[.slice p1 X.1.blocks.length c1, .slice p2 X.1.goal.length c2] 25)).cell? ⟨w.heap.size, 1, none⟩ = some (.slice none 0 0) := cell_of_row (w4.alloc (.cells #[.slice p1 X.1.blocks.length c1, .slice p2 X.1.goal.length c2] 25)) w.heap.size 1 _ 25 (0, 0) y5
    have HY5 := Lib.hid y5
    have HM0 := Lib.hid m0
    have e0 : (w4.alloc (.cells #[.slice p1 X.1.blocks.length c1, .slice p2 X.1.goal.length c2] 25)).cell? ⟨w4.heap.size, 0, none⟩ = some (.slice p1 X.1.blocks.length c1) := cell_of_row (w4.alloc (.cells #[.slice p1 X.1.blocks.length c1, .slice p2 X.1.goal.length c2] 25)) w4.heap.size 0 _ 25 (0, 0) m0
    have e1' : (w4.alloc (.cells #[.slice p1 X.1.blocks.length c1, .slice p2 X.1.goal.length c2] 25)).cell? ⟨w4.heap.size, 1, none⟩ = some (.slice p2 X.1.goal.length c2) := cell_of_row (w4.alloc (.cells #[.slice p1 X.1.blocks.length c1, .slice p2 X.1.goal.length c2] 25)) w4.heap.size 1 _ 25 (0, 0) m0
    clear hpd hpe hbd y4 y5 k5 m0 hB4 hwr hP4 hbs hgl hrm hfew hgood hck hpb hpw
    go_wp2_with fail
    refine CX.out.mono ?_
    rintro e w6 ⟨rfl, hB6⟩
    have HB6 := Lib.hid (HB5.out.trans (hB6.mono HB5.out.size))
    have z6 := (hB6.block w.heap.size (Array.getElem?_eq_some_iff.1 HY5.out).1).trans HY5.out
    have d0 : w6.cell? ⟨w.heap.size, 0, none⟩ = some (.slice none 0 0) := cell_of_row w6 w.heap.size 0 _ 25 (0, 0) z6
    have f0 := frozen_of_row w6 w.heap.size 0 _ 25 z6
    have d1 : w6.cell? ⟨w.heap.size, 1, none⟩ = some (.slice none 0 0) := cell_of_row w6 w.heap.size 1 _ 25 (0, 0) z6
    have f1 := frozen_of_row w6 w.heap.size 1 _ 25 z6
    have mm := (hB6.block w4.heap.size (Array.getElem?_eq_some_iff.1 HM0.out).1).trans HM0.out
    have e0 : w6.cell? ⟨w4.heap.size, 0, none⟩ = some (.slice p1 X.1.blocks.length c1) := cell_of_row w6 w4.heap.size 0 _ 25 (0, 0) mm
    have e1' : w6.cell? ⟨w4.heap.size, 1, none⟩ = some (.slice p2 X.1.goal.length c2) := cell_of_row w6 w4.heap.size 1 _ 25 (0, 0) mm
    have HBS6 := Lib.hid (HBS.out.below hB6)
    have HGS6 := Lib.hid (HGS.out.below hB6)
    clear hB6 z6 mm
    by_cases hc : ck = 0
    · have hb0 : (ck == 0) = true := by rw [hc]; rfl
      have hb1 : (ck != 0) = false := by rw [hc]; rfl
      have HRE := Lib.hid (show R = .model X.1 by
        have e := HRE0.out
        rw [HR.out, e]
        rw [if_pos (by rw [← HCK.out]; exact hc)])
      have HC0 := Lib.hid hc
      clear hc
      go_wp2_with fail
      (try simp only [Exit.inBlock, Exit.then])
      refine bodyPost_ret (results_parse rfl _ _ w.heap.size (.slice p1 X.1.blocks.length c1) (.slice p2 X.1.goal.length c2) (.int .i64 0) (.int .i64 0) rfl rfl rfl ?_ ?_) rfl ?_
      · go_simp
      · go_simp
      · rw [HRE.out]
        have hst : ∀ i, W.heap.size ≤ i → ((w6.setCell ⟨w.heap.size, 0, none⟩ (.slice p1 X.1.blocks.length c1)).setCell ⟨w.heap.size, 1, none⟩ (.slice p2 X.1.goal.length c2)).heap[i]? = w6.heap[i]? := fun i hi => by
          have := HWS.out
          exact (Below.heap_setCell _ _ _ _ (show i ≠ w.heap.size by omega)).trans (Below.heap_setCell _ _ _ _ (show i ≠ w.heap.size by omega))
        exact ⟨below_put (below_put HB6.out (Nat.le_refl _)) (Nat.le_refl _), p1, _, c1, p2, _, c2, rfl, ⟨_, _, rfl, blocks_read (blocks_from HBS6.out hst) HGD.out.1, cons_read (cons_from HGS6.out hst) HGD.out.2⟩, HFW.out⟩
    · have hb0 : (ck == 0) = false := beq_eq_false_iff_ne.2 hc
      have hb1 : (ck != 0) = true := by rw [bne, hb0]; rfl
      have HRE := Lib.hid (show R = .err 0 ck by
        have e := HRE0.out
        rw [HR.out, e]
        rw [if_neg (by rw [← HCK.out]; exact hc), HCK.out])
      clear hc
      go_wp2_with fail
      (try simp only [Exit.inBlock, Exit.then])
      refine bodyPost_ret (results_parse rfl _ _ w.heap.size (.slice none 0 0) (.slice none 0 0) (.int .i64 0) (.int .i64 ck) rfl rfl rfl ?_ ?_) rfl ?_
      · go_simp
      · go_simp
      · rw [HRE.out]
        exact ⟨below_put (below_put HB6.out (Nat.le_refl _)) (Nat.le_refl _), rfl⟩
theorem parse_ok (s : ByteArray) {T : List Tok} (hs : scanL 0 (txt s) = .ok T) (hm : s.size ≤ 4000) (hT : T.length ≤ 1000) (hx : ∀ t ∈ T, t.text.length ≤ 1000) (w : World) :
    Calls Tryz.prog 7 #[.string s] w (ParseP w (parseT 10000 T s.size)) := parse_few s hs hm (by omega) (Lib.hid fun h => few_body hT hx h) w
end
end Go.Proofs.YtkgieaoahijheaaGreatDoor.Pp
namespace Go.Proofs.YtkgieaoahijheaaGreatDoor
open Go.RowKit
set_option maxRecDepth 100000

structure At2 (w : World) (b : Nat) (v0 v1 : Value) : Prop where
  c0 : w.cell? ⟨b, 0, none⟩ = some v0
  c1 : w.cell? ⟨b, 1, none⟩ = some v1
structure At3 (w : World) (b : Nat) (v0 v1 v2 : Value) : Prop where
  c0 : w.cell? ⟨b, 0, none⟩ = some v0
  c1 : w.cell? ⟨b, 1, none⟩ = some v1
  c2 : w.cell? ⟨b, 2, none⟩ = some v2
theorem two_two (w : World) (a0 a1 b0 b1 : Value) (t : TypeId) : At2 ((w.alloc (.cells #[a0, a1] t)).alloc (.cells #[b0, b1] t)) w.heap.size a0 a1 ∧ At2 ((w.alloc (.cells #[a0, a1] t)).alloc (.cells #[b0, b1] t)) (w.heap.size + 1) b0 b1 :=
  ⟨⟨by go_simp, by go_simp⟩, ⟨by go_simp, by go_simp⟩⟩
theorem two_three (w : World) (a0 a1 a2 b0 b1 b2 : Value) (t : TypeId) : At3 ((w.alloc (.cells #[a0, a1, a2] t)).alloc (.cells #[b0, b1, b2] t)) w.heap.size a0 a1 a2 ∧ At3 ((w.alloc (.cells #[a0, a1, a2] t)).alloc (.cells #[b0, b1, b2] t)) (w.heap.size + 1) b0 b1 b2 :=
  ⟨⟨by go_simp, by go_simp, by go_simp⟩, ⟨by go_simp, by go_simp, by go_simp⟩⟩
theorem below_twice (w : World) (o o' : Obj) : Below w.heap.size w ((w.alloc o).alloc o') := ((Below.refl _ w).alloc (Nat.le_refl _) _).alloc (by simp) _

def sameB (x y : PBlock) : Bool := decide (x.all = y.all) && (listB sameD x.vars y.vars && listB sameC x.cons y.cons)
def sameM (m n : PModel) : Bool := listB sameB m.blocks n.blocks && listB sameC m.goal n.goal
/-- the lists of a block are short -/
structure FewB (b : PBlock) : Prop where
  vars : b.vars.length ≤ 1000000
  doms : ∀ d ∈ b.vars, d.dom.length ≤ 1000000
  cons : b.cons.length ≤ 1000000
  nums : ∀ c ∈ b.cons, Short 1000000 c
theorem short_more {c : PCon} (h : Short 1000 c) : Short 1000000 c := ⟨by have := h.1; omega, by have := h.2.1; omega, by have := h.2.2; omega⟩
theorem Few.block {m : PModel} (h : Few m) : ∀ b ∈ m.blocks, FewB b := fun b hb =>
  ⟨by have := h.vars b hb; omega, fun d hd => by have := (h.decls b hb d hd).2; omega, by have := (h.wheres b hb).1; omega, fun c hc => short_more ((h.wheres b hb).2 c hc)⟩
end Go.Proofs.YtkgieaoahijheaaGreatDoor
namespace Go.Proofs.YtkgieaoahijheaaGreatDoor
open Go.RowKit
set_option maxRecDepth 100000

theorem hold8s {W0 u u' : World} {p0 p1 p2 p3 p4 p5 p6 p7 : Addr} {a0 a1 a2 a3 a4 a5 a6 a7 : Value} (h : u.cell? p0 = some a0 ∧ u.cell? p1 = some a1 ∧ u.cell? p2 = some a2 ∧ u.cell? p3 = some a3 ∧ u.cell? p4 = some a4 ∧ u.cell? p5 = some a5 ∧ u.cell? p6 = some a6 ∧ u.cell? p7 = some a7 ∧ Hid (Below W0.heap.size W0 u)) (hb : Below u.heap.size u u') :
    u'.cell? p0 = some a0 ∧ u'.cell? p1 = some a1 ∧ u'.cell? p2 = some a2 ∧ u'.cell? p3 = some a3 ∧ u'.cell? p4 = some a4 ∧ u'.cell? p5 = some a5 ∧ u'.cell? p6 = some a6 ∧ u'.cell? p7 = some a7 ∧ Hid (Below W0.heap.size W0 u') :=
  ⟨cell_stays hb h.1, cell_stays hb h.2.1, cell_stays hb h.2.2.1, cell_stays hb h.2.2.2.1, cell_stays hb h.2.2.2.2.1, cell_stays hb h.2.2.2.2.2.1, cell_stays hb h.2.2.2.2.2.2.1, cell_stays hb h.2.2.2.2.2.2.2.1, Lib.hid (h.2.2.2.2.2.2.2.2.out.trans (hb.mono h.2.2.2.2.2.2.2.2.out.size))⟩
theorem hold8sb {W0 u : World} {p0 p1 p2 p3 p4 p5 p6 p7 : Addr} {a0 a1 a2 a3 a4 a5 a6 a7 : Value} (h : u.cell? p0 = some a0 ∧ u.cell? p1 = some a1 ∧ u.cell? p2 = some a2 ∧ u.cell? p3 = some a3 ∧ u.cell? p4 = some a4 ∧ u.cell? p5 = some a5 ∧ u.cell? p6 = some a6 ∧ u.cell? p7 = some a7 ∧ Hid (Below W0.heap.size W0 u)) : Below W0.heap.size W0 u := h.2.2.2.2.2.2.2.2.out

set_option maxRecDepth 100000 in
set_option maxHeartbeats 4000000 in
theorem rsame_any {w : World} {bv gv bv' gv' : Value} {m n : PModel} (h : rModel w [bv, gv] m) (h' : rModel w [bv', gv'] n) (hf : Few m) (hf' : Few n) :
    Calls Tryz.prog 8 #[.agg #[bv, gv], .agg #[bv', gv']] w fun e w' => e = .returned (.bool (sameM m n)) ∧ Below w.heap.size w w' := by
  obtain ⟨R, hR⟩ : ∃ R, R = sameM m n := ⟨_, rfl⟩
  rw [← hR]
  obtain ⟨pb, bb, ob, cb, lb, pg, lg, cg, rfl, rfl, _, hm⟩ := rModel_open h
  obtain ⟨pb', bb', ob', cb', lb', pg', lg', cg', rfl, rfl, _, hm'⟩ := rModel_open h'
  obtain ⟨W1, hW1⟩ : ∃ W1, W1 = (w.alloc (.cells #[.slice pb lb cb, .slice pg lg cg] 25)).alloc (.cells #[.slice pb' lb' cb', .slice pg' lg' cg'] 25) := ⟨_, rfl⟩
  have hB1 : Below w.heap.size w W1 := by rw [hW1]; exact below_twice _ _ _
  obtain ⟨⟨m0, m1⟩, ⟨n0, n1⟩⟩ := two_two w (.slice pb lb cb) (.slice pg lg cg) (.slice pb' lb' cb') (.slice pg' lg' cg') 25
  rw [← hW1] at m0 m1 n0 n1
  have hlb : lb = m.blocks.length := hm.mod.blocks.long
  have hlb' : lb' = n.blocks.length := hm'.mod.blocks.long
  have hb30 : lb ≤ 1000 := by rw [hlb]; exact hf.blocks
  have hpb := hm.mod.blocks.at_
  have hpb' := hm'.mod.blocks.at_
  have HX := Lib.hid (hm.below hB1)
  have HY := Lib.hid (hm'.below hB1)
  have HF := Lib.hid hf
  have HF' := Lib.hid hf'
  have HB1 := Lib.hid hB1
  have HW1 := Lib.hid hW1
  have HM := Lib.hid (And.intro m0 (And.intro m1 (And.intro n0 n1)))
  have HLB := Lib.hid hlb
  have HLB' := Lib.hid hlb'
  have CG := Lib.hid (fun u (hb : Below W1.heap.size W1 u) => alike_any (HX.out.mod.below hb).goal (HY.out.mod.below hb).goal (by have := HF.out.goal.1; omega) (by have := HF'.out.goal.1; omega) (fun d hd => short_more (HF.out.goal.2 d hd)) (fun d hd => short_more (HF'.out.goal.2 d hd)))
  clear h h' hf hf' hm hm' hW1 hB1 hlb hlb'
  by_cases he : lb = lb'
  · subst he
    have e1 : ((lb : Int) == (lb : Int)) = true := beq_self_eq_true _
    have e2 : ((lb : Int) != (lb : Int)) = false := by simp
    obtain ⟨G, hG⟩ : ∃ G, G = listB sameC m.goal n.goal := ⟨_, rfl⟩
    rw [← hG] at CG
    have HS := Lib.hid (show R = (listB sameB (m.blocks.drop 0) (n.blocks.drop 0) && G) by rw [hR, hG]; rfl)
    clear hR hG
    go_enter Tryz.func8, Tryz.ntmps8
    go_upto_region 1 with fail
    rw [← HW1.out]
    go_wp2_with fail
    clear m0 m1 n0 n1 e1 e2
    go_loopw [5] (fun vi wr => ∃ k : Nat, k ≤ lb ∧ vi = .int .i64 k ∧ R = (listB sameB (m.blocks.drop k) (n.blocks.drop k) && G) ∧ Below W1.heap.size W1 wr) (fun vi _ => lb - (intOf vi).toNat)
    case atStart => exact ⟨0, by omega, rfl, HS.out, Below.refl _ _⟩
    case round =>
      obtain ⟨k, hk, rfl, hrel, hB⟩ := hrel
      have m0 := cell_stays hB HM.out.1
      have n0 := cell_stays hB HM.out.2.2.1
      have HB := Lib.hid hB
      by_cases hlt : k < lb
      · obtain rfl := hpb (by omega)
        obtain rfl := hpb' (by omega)
        obtain ⟨x, v1, v2, ex, _, a0, a1, a2, sv, sc⟩ := block_at HX.out.mod.blocks hlt
        obtain ⟨y, u1, u2, ey, _, b0, b1, b2, tv, tc⟩ := block_at HY.out.mod.blocks hlt
        have a0 := cell_stays hB a0
        have a1 := cell_stays hB a1
        have a2 := cell_stays hB a2
        have b0 := cell_stays hB b0
        have b1 := cell_stays hB b1
        have b2 := cell_stays hB b2
        have hstep := hrel.trans (by rw [listB_at sameB ex ey])
        have fx := HF.out.block x (List.mem_of_getElem? ex)
        have fy := HF'.out.block y (List.mem_of_getElem? ey)
        have CD := Lib.hid (fun u (hb : Below W1.heap.size W1 u) => decls_any (sv.below rDecl_stays hb) (tv.below rDecl_stays hb) fx.vars fy.vars fx.doms fy.doms)
        have CA := Lib.hid (fun u (hb : Below W1.heap.size W1 u) => alike_any (sc.below rCon_stays hb) (tc.below rCon_stays hb) fx.cons fy.cons fx.nums fy.nums)
        obtain ⟨p1, l1, c1, rfl⟩ := slc_shape sv
        obtain ⟨p2, l2, c2, rfl⟩ := slc_shape sc
        obtain ⟨q1, k1, s1, rfl⟩ := slc_shape tv
        obtain ⟨q2, k2, s2, rfl⟩ := slc_shape tc
        rw [show sameB x y = (decide (x.all = y.all) && (listB sameD x.vars y.vars && listB sameC x.cons y.cons)) from rfl] at hstep
        generalize listB sameD x.vars y.vars = P at CD hstep
        generalize listB sameC x.cons y.cons = Q at CA hstep
        generalize x.all = xa at a0 hstep
        generalize y.all = ya at b0 hstep
        clear hrel ex ey sv sc tv tc fx fy hB
        by_cases hxy : xa = ya
        · subst hxy
          have q0 : (xa != xa) = false := by simp
          have q00 : (xa == xa) = true := by simp
          rw [decide_eq_true rfl, Bool.true_and] at hstep
          cases P
          · rw [Bool.false_and, Bool.false_and, Bool.false_and] at hstep
            subst hstep
            go_upto_region 6 with fail
            go_quiet ((go_at_call 20; exact Calls.quiet_of (CD.out _ (below_drewN HB.out))))
            clear m0 n0 a0 a1 a2 b0 b1 b2
            go_wp2_with fail
            go_ret
            exact ⟨rfl, HB1.out.trans ((below_drewN HB.out).mono HB1.out.size)⟩
          · rw [Bool.true_and] at hstep
            have hst : wr.cell? ⟨w.heap.size, 0, none⟩ = some (.slice (some ⟨bb, ob, none⟩) lb cb) ∧ wr.cell? ⟨w.heap.size + 1, 0, none⟩ = some (.slice (some ⟨bb', ob', none⟩) lb cb') ∧ wr.cell? ⟨bb, ob + k * 3, none⟩ = some (.bool xa) ∧ wr.cell? ⟨bb, ob + k * 3 + 1, none⟩ = some (.slice p1 l1 c1) ∧ wr.cell? ⟨bb, ob + k * 3 + 2, none⟩ = some (.slice p2 l2 c2) ∧ wr.cell? ⟨bb', ob' + k * 3, none⟩ = some (.bool xa) ∧ wr.cell? ⟨bb', ob' + k * 3 + 1, none⟩ = some (.slice q1 k1 s1) ∧ wr.cell? ⟨bb', ob' + k * 3 + 2, none⟩ = some (.slice q2 k2 s2) ∧ Hid (Below W1.heap.size W1 wr) := ⟨m0, n0, a0, a1, a2, b0, b1, b2, HB⟩
            have H0 := Lib.hid hst
            have NX := Lib.hid hstep
            have CB : Hid (∀ u, Below W1.heap.size W1 u → Calls Tryz.prog 20 #[.slice p1 l1 c1, .slice q1 k1 s1] u fun e w' => e = .returned (.bool true) ∧ Below u.heap.size u w') := Lib.hid fun u hb => (CD.out u hb).mono fun e w' h => ⟨h.1, by obtain ⟨nn, hn⟩ := h.2; rw [hn]; exact below_drewN (Below.refl _ _)⟩
            clear hst hstep
            go_upto_region 6 with fail
            clear m0 n0 a0 a1 a2 b0 b1 b2
            go_region_held3 (fun w' => w'.cell? ⟨w.heap.size, 0, none⟩ = some (.slice (some ⟨bb, ob, none⟩) lb cb) ∧ w'.cell? ⟨w.heap.size + 1, 0, none⟩ = some (.slice (some ⟨bb', ob', none⟩) lb cb') ∧ w'.cell? ⟨bb, ob + k * 3, none⟩ = some (.bool xa) ∧ w'.cell? ⟨bb, ob + k * 3 + 1, none⟩ = some (.slice p1 l1 c1) ∧ w'.cell? ⟨bb, ob + k * 3 + 2, none⟩ = some (.slice p2 l2 c2) ∧ w'.cell? ⟨bb', ob' + k * 3, none⟩ = some (.bool xa) ∧ w'.cell? ⟨bb', ob' + k * 3 + 1, none⟩ = some (.slice q1 k1 s1) ∧ w'.cell? ⟨bb', ob' + k * 3 + 2, none⟩ = some (.slice q2 k2 s2) ∧ Hid (Below W1.heap.size W1 w'))
              (first | exact hold8s (by assumption) (by assumption) | exact hold8s H0.out (below_drewN (n := 1) (Below.refl _ _)))
              (first | (go_at_call 20; refine (CB.out _ (hold8sb (by assumption))).mono ?_; rintro e u ⟨rfl, hB⟩) | (go_at_call 21; refine (CA.out _ (hold8sb (by assumption))).mono ?_; rintro e u2 ⟨rfl, hB⟩))
            have HH := Lib.hid (hold8sb (by assumption))
            cases Q
            · have key : R = false := by rw [NX.out, Bool.false_and, Bool.false_and]
              subst key
              go_wp2_with fail
              go_ret
              exact ⟨rfl, HB1.out.trans (HH.out.mono HB1.out.size)⟩
            · go_wp2_with fail
              go_roundw
              case rel => exact ⟨k + 1, by omega, by go_num, by rw [NX.out, Bool.true_and], HH.out⟩
              case measure => simp [intOf]; omega
        · have q0 : (xa != ya) = true := by simp [hxy]
          have q00 : (xa == ya) = false := beq_eq_false_iff_ne.2 hxy
          rw [decide_eq_false hxy, Bool.false_and, Bool.false_and, Bool.false_and] at hstep
          subst hstep
          clear hxy
          go_upto_region 6 with fail
          go_quiet (fail)
          clear m0 n0 a0 a1 a2 b0 b1 b2 q0 q00
          go_wp2_with fail
          go_ret
          exact ⟨rfl, HB1.out.trans ((below_drewN HB.out).mono HB1.out.size)⟩
      · have key : R = G := by
          rw [hrel, List.drop_of_length_le (by rw [← HLB.out]; omega), List.drop_of_length_le (by rw [← HLB'.out]; omega)]
          rfl
        subst key
        have m1 := cell_stays hB HM.out.2.1
        have n1 := cell_stays hB HM.out.2.2.2
        have CG2 := Lib.hid (CG.out _ hB)
        clear hrel hB
        go_wp2_with fail
        refine CG2.out.mono ?_
        rintro e u ⟨rfl, hBu⟩
        have HBu := Lib.hid (HB.out.trans (hBu.mono HB.out.size))
        clear hBu m0 n0 m1 n1
        go_wp2_with fail
        go_ret
        exact ⟨rfl, HB1.out.trans (HBu.out.mono HB1.out.size)⟩
  · have key : R = false := by
      rw [hR, sameM, listB_len _ _ _ (by rw [← HLB.out, ← HLB'.out]; exact he)]
      rfl
    clear hR
    subst key
    have e1 : ((lb : Int) == (lb' : Int)) = false := beq_eq_false_iff_ne.2 (by omega)
    clear he
    go_enter Tryz.func8, Tryz.ntmps8
    go_upto_region 1 with fail
    rw [← HW1.out]
    go_wp2_with fail
    go_ret
    exact ⟨rfl, HB1.out⟩
end Go.Proofs.YtkgieaoahijheaaGreatDoor
