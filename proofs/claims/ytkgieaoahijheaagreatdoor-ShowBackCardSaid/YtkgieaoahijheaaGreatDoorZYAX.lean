/-
  The program's parser of tokens: what may stand next, what it takes, or how it gives up; names, signs, numbers.
  The program's parser of tokens: a text's place in a row of texts; a variable in a constraint; how a sum compares.
  The program's parser of tokens: how a sum compares.
  What a reader of tokens takes in is numbers of 64 bits; blocks in rows of their own.
-/
import Derived.Test.YtkgieaoahijheaaGreatDoorZYAW
import Derived.Test.YtkgieaoahijheaaGreatDoorZYAV
namespace Go.Proofs.YtkgieaoahijheaaGreatDoor.Pp
open Go.RowKit
open Sc (Tok Cells str noTok)
open Pa
set_option maxRecDepth 100000

set_option maxHeartbeats 1000000 in
theorem resv_any (s : ByteArray) (w : World) : Calls Tryz.prog 105 #[.string s] w fun e w' => e = .returned (.bool (wordsL.contains (txt s))) ∧ w' = w := by
  rw [words_or]
  have q0 : binOp .eql 9 (.string s) (.string ⟨#[101, 120, 105, 115, 116, 115]⟩) = pure (.bool (decide (txt s = [101, 120, 105, 115, 116, 115]))) := eql_txt s ⟨#[101, 120, 105, 115, 116, 115]⟩
  have q1 : binOp .eql 9 (.string s) (.string ⟨#[102, 111, 114, 97, 108, 108]⟩) = pure (.bool (decide (txt s = [102, 111, 114, 97, 108, 108]))) := eql_txt s ⟨#[102, 111, 114, 97, 108, 108]⟩
  have q2 : binOp .eql 9 (.string s) (.string ⟨#[105, 110]⟩) = pure (.bool (decide (txt s = [105, 110]))) := eql_txt s ⟨#[105, 110]⟩
  have q3 : binOp .eql 9 (.string s) (.string ⟨#[119, 104, 101, 114, 101]⟩) = pure (.bool (decide (txt s = [119, 104, 101, 114, 101]))) := eql_txt s ⟨#[119, 104, 101, 114, 101]⟩
  have q4 : binOp .eql 9 (.string s) (.string ⟨#[97, 110, 100]⟩) = pure (.bool (decide (txt s = [97, 110, 100]))) := eql_txt s ⟨#[97, 110, 100]⟩
  have q5 : binOp .eql 9 (.string s) (.string ⟨#[103, 111, 97, 108]⟩) = pure (.bool (decide (txt s = [103, 111, 97, 108]))) := eql_txt s ⟨#[103, 111, 97, 108]⟩
  have q6 : binOp .eql 9 (.string s) (.string ⟨#[116, 114, 117, 101]⟩) = pure (.bool (decide (txt s = [116, 114, 117, 101]))) := eql_txt s ⟨#[116, 114, 117, 101]⟩
  have q7 : binOp .eql 9 (.string s) (.string ⟨#[112, 114, 111, 100, 117, 99, 116]⟩) = pure (.bool (decide (txt s = [112, 114, 111, 100, 117, 99, 116]))) := eql_txt s ⟨#[112, 114, 111, 100, 117, 99, 116]⟩
  have q8 : binOp .eql 9 (.string s) (.string ⟨#[105, 102, 102]⟩) = pure (.bool (decide (txt s = [105, 102, 102]))) := eql_txt s ⟨#[105, 102, 102]⟩
  have q9 : binOp .eql 9 (.string s) (.string ⟨#[101, 108, 101, 109, 101, 110, 116]⟩) = pure (.bool (decide (txt s = [101, 108, 101, 109, 101, 110, 116]))) := eql_txt s ⟨#[101, 108, 101, 109, 101, 110, 116]⟩
  have q10 : binOp .eql 9 (.string s) (.string ⟨#[100, 105, 102, 102, 101, 114, 101, 110, 116]⟩) = pure (.bool (decide (txt s = [100, 105, 102, 102, 101, 114, 101, 110, 116]))) := eql_txt s ⟨#[100, 105, 102, 102, 101, 114, 101, 110, 116]⟩
  have q11 : binOp .eql 9 (.string s) (.string ⟨#[116, 97, 98, 108, 101]⟩) = pure (.bool (decide (txt s = [116, 97, 98, 108, 101]))) := eql_txt s ⟨#[116, 97, 98, 108, 101]⟩
  generalize decide (txt s = [101, 120, 105, 115, 116, 115]) = b0 at q0 ⊢
  generalize decide (txt s = [102, 111, 114, 97, 108, 108]) = b1 at q1 ⊢
  generalize decide (txt s = [105, 110]) = b2 at q2 ⊢
  generalize decide (txt s = [119, 104, 101, 114, 101]) = b3 at q3 ⊢
  generalize decide (txt s = [97, 110, 100]) = b4 at q4 ⊢
  generalize decide (txt s = [103, 111, 97, 108]) = b5 at q5 ⊢
  generalize decide (txt s = [116, 114, 117, 101]) = b6 at q6 ⊢
  generalize decide (txt s = [112, 114, 111, 100, 117, 99, 116]) = b7 at q7 ⊢
  generalize decide (txt s = [105, 102, 102]) = b8 at q8 ⊢
  generalize decide (txt s = [101, 108, 101, 109, 101, 110, 116]) = b9 at q9 ⊢
  generalize decide (txt s = [100, 105, 102, 102, 101, 114, 101, 110, 116]) = b10 at q10 ⊢
  generalize decide (txt s = [116, 97, 98, 108, 101]) = b11 at q11 ⊢
  cases b0
  · skip
    cases b1
    · skip
      cases b2
      · skip
        cases b3
        · skip
          cases b4
          · skip
            cases b5
            · skip
              cases b6
              · skip
                cases b7
                · skip
                  cases b8
                  · skip
                    cases b9
                    · skip
                      cases b10
                      · skip
                        cases b11
                        · skip
                          go_enter Tryz.func105, Tryz.ntmps105
                          go_wp2_with fail
                          go_ret
                          exact ⟨rfl, rfl⟩
                        · skip
                          go_enter Tryz.func105, Tryz.ntmps105
                          go_wp2_with fail
                          go_ret
                          exact ⟨rfl, rfl⟩
                      · skip
                        go_enter Tryz.func105, Tryz.ntmps105
                        go_wp2_with fail
                        go_ret
                        exact ⟨rfl, rfl⟩
                    · skip
                      go_enter Tryz.func105, Tryz.ntmps105
                      go_wp2_with fail
                      go_ret
                      exact ⟨rfl, rfl⟩
                  · skip
                    go_enter Tryz.func105, Tryz.ntmps105
                    go_wp2_with fail
                    go_ret
                    exact ⟨rfl, rfl⟩
                · skip
                  go_enter Tryz.func105, Tryz.ntmps105
                  go_wp2_with fail
                  go_ret
                  exact ⟨rfl, rfl⟩
              · skip
                go_enter Tryz.func105, Tryz.ntmps105
                go_wp2_with fail
                go_ret
                exact ⟨rfl, rfl⟩
            · skip
              go_enter Tryz.func105, Tryz.ntmps105
              go_wp2_with fail
              go_ret
              exact ⟨rfl, rfl⟩
          · skip
            go_enter Tryz.func105, Tryz.ntmps105
            go_wp2_with fail
            go_ret
            exact ⟨rfl, rfl⟩
        · skip
          go_enter Tryz.func105, Tryz.ntmps105
          go_wp2_with fail
          go_ret
          exact ⟨rfl, rfl⟩
      · skip
        go_enter Tryz.func105, Tryz.ntmps105
        go_wp2_with fail
        go_ret
        exact ⟨rfl, rfl⟩
    · skip
      go_enter Tryz.func105, Tryz.ntmps105
      go_wp2_with fail
      go_ret
      exact ⟨rfl, rfl⟩
  · skip
    go_enter Tryz.func105, Tryz.ntmps105
    go_wp2_with fail
    go_ret
    exact ⟨rfl, rfl⟩
/-- what is said of a call that takes in x, or gives up -/
def Ends {α : Type} (w : World) (F : Nat → Prop) (g n bl ol cl base : Nat) (pv : Option Addr) (m cv : Nat) (T : List Tok) (len : Nat) (x : α × Rd) (V : World → Ending → Prop) (e : Ending) (w' : World) : Prop :=
  But F w w' ∧ ((x.2.wrong = false ∧ PAt w' g n bl ol cl base pv m cv T len x.2 ∧ V w' e) ∨ (x.2.wrong = true ∧ e = gone (tokP T len x.2.at_).at_))
section
variable {w w' : World} {g n bl ol cl base : Nat} {pv : Option Addr} {m cv : Nat} {T : List Tok} {len : Nat} {r : Rd}
theorem but_drewN {F : Nat → Prop} {w w' : World} (h : But F w w') (q : Nat) : But F w (w'.drewN q) := ⟨h.os, h.tape, h.output, h.size, h.block⟩
theorem mbut {g : Nat} {w w' : World} (h : Moves g none w w') : But (fun i => i = g) w w' := But.moves h rfl
theorem ends_no {α : Type} {F : Nat → Prop} {x : α × Rd} {V : World → Ending → Prop} (hB : But F w w') (hw : x.2.wrong = true) : Ends w F g n bl ol cl base pv m cv T len x V (gone (tokP T len x.2.at_).at_) w' := ⟨hB, .inr ⟨hw, rfl⟩⟩
theorem fld1 (a c d : Int) (b : ByteArray) (W : World) : (Instr.field 63 (.agg #[.int .i64 a, .string b, .int .i64 c, .int .i64 d]) 1).run Tryz.prog W = .ok (.string b) W := by kernel_rfl
theorem fld2 (a c d : Int) (b : ByteArray) (W : World) : (Instr.field 63 (.agg #[.int .i64 a, .string b, .int .i64 c, .int .i64 d]) 2).run Tryz.prog W = .ok (.int .i64 c) W := by kernel_rfl
/-- a token is handed back -/
def TokE (o : Option Tok) (p : Nat) (e : Ending) : Prop := ∃ (kd v a : Nat) (q : ByteArray), e = .returned (.agg #[.int .i64 (kd : Nat), .string q, .int .i64 (v : Nat), .int .i64 (a : Nat)]) ∧ kd = kindO o ∧ v = valueO o ∧ a = p ∧ txt q = textO o
set_option maxHeartbeats 1000000 in
theorem takes_any (may : Bool) (h : PAt w g n bl ol cl base pv m cv T len r) (hin : may = true → r.at_ < n) :
    Calls Tryz.prog 83 #[.pointer (some ⟨g, 0, none⟩), .bool may] w (Ends w (fun i => i = g) g n bl ol cl base pv m cv T len (takeF may r) fun _ e => TokE (next T r) (tokP T len r.at_).at_ e) := by
  cases may
  · have G := Lib.hid (fun o => give_any (h.below ((Below.refl _ w).alloc (Nat.le_refl _) o)))
    obtain ⟨p, hp⟩ : ∃ p, p = (tokP T len r.at_).at_ := ⟨_, rfl⟩
    have HP := Lib.hid hp
    rw [← hp] at G
    clear h hin hp
    go_enter Tryz.func83, Tryz.ntmps83
    go_wp2_with fail
    refine (G.out _).mono ?_
    rintro e w1 ⟨rfl, q, rfl⟩
    unfold gone
    go_wp2_with fail
    exact ⟨rfl, But.below (below_drewN ((Below.refl _ w).alloc (Nat.le_refl _) _)), .inr ⟨rfl, by rw [HP.out]; rfl⟩⟩
  · refine (take_any h (hin rfl)).mono ?_
    rintro e w1 ⟨rfl, hP, hM⟩
    obtain ⟨q, hq, hq2⟩ := str_open (textO (next T r))
    rw [hq]
    exact ⟨mbut hM, .inl ⟨h.ok, hP, _, _, _, q, rfl, rfl, rfl, rfl, hq2⟩⟩
set_option maxHeartbeats 1000000 in
theorem want_any (s : ByteArray) (hs : txt s ≠ []) (h : PAt w g n bl ol cl base pv m cv T len r) :
    Calls Tryz.prog 62 #[.pointer (some ⟨g, 0, none⟩), .string s] w (Ends w (fun i => i = g) g n bl ol cl base pv m cv T len (mustF (txt s) r (next T r)) fun _ e => e = .returned (.tuple #[])) := by
  have IS := Lib.hid (is_any s h)
  obtain ⟨b, hb⟩ : ∃ b, b = decide (textO (next T r) = txt s) := ⟨_, rfl⟩
  have TK := Lib.hid (fun (q : Nat) => takes_any b (h.drewN q) (fun e => by rw [h.long]; rw [hb] at e; exact next_some (text_some (of_decide_eq_true e) hs)))
  have HX := Lib.hid (show takeF b r = mustF (txt s) r (next T r) by
    unfold takeF mustF
    rw [hb]
    by_cases he : textO (next T r) = txt s
    · rw [decide_eq_true he, if_pos rfl, if_pos he]
    · rw [decide_eq_false he, if_neg (by simp), if_neg he])
  rw [← hb] at IS
  obtain ⟨x, hx⟩ : ∃ x, x = takeF b r := ⟨_, rfl⟩
  rw [← hx] at TK
  rw [← HX.out, ← hx]
  clear h hb hs hx HX
  go_enter Tryz.func62, Tryz.ntmps62
  go_wp2_with fail
  refine IS.out.mono ?_
  rintro e w1 ⟨rfl, q, rfl⟩
  go_wp2_with fail
  refine (TK.out q).mono ?_
  rintro e w2 ⟨hB, ⟨hw, hP, kd, v, a, q0, rfl, _⟩ | ⟨hw, rfl⟩⟩
  · have HE := Lib.hid (show Ends w (fun i => i = g) g n bl ol cl base pv m cv T len x (fun _ e => e = .returned (.tuple #[])) (.returned (.tuple #[])) w2 from ⟨⟨hB.os, hB.tape, hB.output, hB.size, hB.block⟩, .inl ⟨hw, hP, rfl⟩⟩)
    clear hB hw hP
    go_wp2_with fail
    go_end0
    exact HE.out
  · have HE := Lib.hid (show Ends w (fun i => i = g) g n bl ol cl base pv m cv T len x (fun _ e => e = .returned (.tuple #[])) (gone (tokP T len x.2.at_).at_) w2 from ⟨⟨hB.os, hB.tape, hB.output, hB.size, hB.block⟩, .inr ⟨hw, rfl⟩⟩)
    clear hB hw
    unfold gone
    go_wp2_with fail
    exact ⟨rfl, HE.out⟩
set_option maxHeartbeats 1000000 in
theorem isname_any (h : PAt w g n bl ol cl base pv m cv T len r) :
    Calls Tryz.prog 95 #[.pointer (some ⟨g, 0, none⟩)] w fun e w' => e = .returned (.bool (namedO (next T r))) ∧ Below w.heap.size w w' := by
  have c0 := h.c0
  have c1 := h.c1
  have hgl := h.glt
  have hll := h.llt
  obtain ⟨t0, t1, t2, t3⟩ := h.cells
  have i1 : (r.at_ : Int) < ((n + 1 : Nat) : Int) := by have := h.top; omega
  obtain ⟨q, hq, hq2⟩ := str_open (textO (next T r))
  rw [hq] at t1
  have HR := Lib.hid (resv_any q)
  rw [hq2] at HR
  obtain ⟨p, hp⟩ : ∃ p, p = (tokP T len r.at_).at_ := ⟨_, rfl⟩
  rw [← hp] at t3
  obtain ⟨B, hB⟩ : ∃ B, B = namedO (next T r) := ⟨_, rfl⟩
  have HN := Lib.hid hB
  rw [← hB]
  unfold namedO at HN
  obtain ⟨kd, hkd⟩ : ∃ kd, kd = kindO (next T r) := ⟨_, rfl⟩
  rw [← hkd] at t0 HN
  obtain ⟨v, hv⟩ : ∃ v, v = valueO (next T r) := ⟨_, rfl⟩
  rw [← hv] at t2
  obtain ⟨k, hk⟩ : ∃ k, k = r.at_ := ⟨_, rfl⟩
  rw [← hk] at c1 t0 t1 t2 t3 i1
  obtain ⟨n1, hn1⟩ : ∃ n1, n1 = n + 1 := ⟨_, rfl⟩
  rw [← hn1] at c0 i1
  obtain ⟨rs, hrs⟩ : ∃ rs, rs = wordsL.contains (textO (next T r)) := ⟨_, rfl⟩
  rw [← hrs] at HR HN
  clear h hp hk hn1 hq hq2 hkd hv hB hrs
  have HB := Lib.hid (fun (o : Obj) => below_drewN (n := 1) ((Below.refl _ w).alloc (Nat.le_refl _) o))
  by_cases hk1 : kd = 1
  · have he : ((kd : Int) == 1) = true := by rw [hk1]; rfl
    rw [decide_eq_true hk1, Bool.and_true] at HN
    clear hk1
    go_enter Tryz.func95, Tryz.ntmps95
    go_upto_region 1 with fail
    go_region
    all_goals go_wp2_with fail
    refine (HR.out _).mono ?_
    rintro e w2 ⟨rfl, rfl⟩
    go_wp2_with fail
    go_ret
    exact ⟨by rw [HN.out]; rfl, HB.out _⟩
  · have he : ((kd : Int) == 1) = false := beq_eq_false_iff_ne.2 (by omega)
    rw [decide_eq_false hk1, Bool.and_false] at HN
    clear hk1
    go_enter Tryz.func95, Tryz.ntmps95
    go_upto_region 1 with fail
    go_region
    all_goals go_wp2_with fail
    go_ret
    exact ⟨by rw [HN.out]; rfl, HB.out _⟩
set_option maxHeartbeats 1000000 in
theorem sign_any (h : PAt w g n bl ol cl base pv m cv T len r) :
    Calls Tryz.prog 109 #[.pointer (some ⟨g, 0, none⟩)] w fun e w' => e = .returned (.int .i64 (if (hasF tMinus r (next T r)).1 = true then -1 else 1)) ∧ PAt w' g n bl ol cl base pv m cv T len (hasF tMinus r (next T r)).2 ∧ Moves g none w w' := by
  have HT := Lib.hid (took_any ⟨#[45]⟩ (by decide) h)
  rw [show txt ⟨#[45]⟩ = tMinus from rfl] at HT
  obtain ⟨x, hx⟩ : ∃ x, x = hasF tMinus r (next T r) := ⟨_, rfl⟩
  rw [← hx] at HT ⊢
  obtain ⟨b, r1⟩ := x
  clear h hx
  cases b
  · go_enter Tryz.func109, Tryz.ntmps109
    go_wp2_with fail
    refine HT.out.mono ?_
    rintro e w1 ⟨rfl, hP, hM⟩
    have HE := Lib.hid (And.intro hP hM)
    clear hP hM
    go_wp2_with fail
    go_ret
    exact ⟨rfl, HE.out⟩
  · go_enter Tryz.func109, Tryz.ntmps109
    go_wp2_with fail
    refine HT.out.mono ?_
    rintro e w1 ⟨rfl, hP, hM⟩
    have HE := Lib.hid (And.intro hP hM)
    clear hP hM
    go_wp2_with fail
    go_ret
    exact ⟨rfl, HE.out⟩
theorem number_form (T : List Tok) (r : Rd) : number T r = ((if (hasF tMinus r (next T r)).1 = true then -1 else 1) * (valueF (hasF tMinus r (next T r)).2 (next T (hasF tMinus r (next T r)).2)).1, (valueF (hasF tMinus r (next T r)).2 (next T (hasF tMinus r (next T r)).2)).2) := by
  show (if (hasF tMinus r (next T r)).1 = true then seq (Pa.look valueF) fun v => ret (-v) else Pa.look valueF) T (hasF tMinus r (next T r)).2 = _
  rw [if_app]
  split
  · refine Prod.ext ?_ rfl
    show -(valueF (hasF tMinus r (next T r)).2 (next T (hasF tMinus r (next T r)).2)).1 = _
    simp only
    omega
  · refine Prod.ext ?_ rfl
    simp only [Int.one_mul]
    rfl
theorem take_value (r : Rd) (o : Option Tok) : (takeF (decide (kindO o = 2)) r).2 = (valueF r o).2 := by
  unfold takeF valueF
  by_cases h : kindO o = 2
  · rw [decide_eq_true h, if_pos rfl, if_pos h]
  · rw [decide_eq_false h, if_neg (by simp), if_neg h]
theorem value_right {r : Rd} {o : Option Tok} (h : (valueF r o).2.wrong = false) : (valueF r o).1 = (valueO o : Int) := by
  unfold valueF at h ⊢
  split
  · rfl
  · rename_i hk
    rw [if_neg hk] at h
    cases h
theorem kind_some {o : Option Tok} (h : decide (kindO o = 2) = true) : o ≠ none := by
  rintro rfl
  simp [kindO] at h
theorem valueO_few {T : List Tok} {r : Rd} (hv : ∀ t ∈ T, t.value ≤ 2000000000000) : valueO (next T r) ≤ 2000000000000 := by
  cases ho : next T r with
  | none => simp [valueO]
  | some t => exact hv t (next_mem ho)
set_option maxHeartbeats 1000000 in
theorem number_any (h : PAt w g n bl ol cl base pv m cv T len r) (hv : ∀ t ∈ T, t.value ≤ 2000000000000) :
    Calls Tryz.prog 106 #[.pointer (some ⟨g, 0, none⟩)] w (Ends w (fun i => i = g) g n bl ol cl base pv m cv T len (number T r) fun _ e => e = .returned (.int .i64 (number T r).1)) := by
  have SG := Lib.hid (sign_any h)
  rw [number_form]
  obtain ⟨x, hx⟩ : ∃ x, x = hasF tMinus r (next T r) := ⟨_, rfl⟩
  rw [← hx] at SG ⊢
  obtain ⟨b, r1⟩ := x
  simp only at SG ⊢
  obtain ⟨s, hs⟩ : ∃ s : Int, s = if b = true then -1 else 1 := ⟨_, rfl⟩
  rw [← hs] at SG ⊢
  have hs1 : s = 1 ∨ s = -1 := by rw [hs]; cases b <;> simp
  obtain ⟨o, ho⟩ : ∃ o, o = next T r1 := ⟨_, rfl⟩
  rw [← ho]
  have HO := Lib.hid ho
  obtain ⟨v, hvv⟩ : ∃ v, v = valueO o := ⟨_, rfl⟩
  have hv2 : v ≤ 2000000000000 := by rw [hvv, ho]; exact valueO_few hv
  have hw : IntKind.i64.wrap (s * (v : Int)) = s * (v : Int) := IntWalk.i64_in _ (by rcases hs1 with e | e <;> rw [e] <;> omega)
  have HR := Lib.hid (fun e : (valueF r1 o).2.wrong = false => (value_right e).trans (show _ = ((v : Nat) : Int) by rw [hvv]))
  obtain ⟨bk, hbk⟩ : ∃ bk, bk = decide (kindO o = 2) := ⟨_, rfl⟩
  have HT := Lib.hid (show (takeF bk r1).2 = (valueF r1 o).2 by rw [hbk]; exact take_value r1 o)
  have HK := Lib.hid (fun e : bk = true => kind_some (hbk.symm.trans e))
  have HNS := Lib.hid hbk
  have HVV := Lib.hid hvv
  clear h hx hs hs1 ho hvv hv2 hbk
  go_enter Tryz.func106, Tryz.ntmps106
  go_wp2_with fail
  refine SG.out.mono ?_
  rintro e w1 ⟨rfl, hP, hM⟩
  have H1 := Lib.hid hP
  have M1 := Lib.hid hM
  have IN := Lib.hid (isnum_any hP)
  rw [← HO.out, ← HNS.out] at IN
  have TK := Lib.hid (fun q : Nat => takes_any bk (hP.drewN q) (fun e => by rw [hP.long]; exact next_some (by rw [← HO.out]; exact HK.out e)))
  rw [← HO.out] at TK
  clear hP hM
  go_wp2_with fail
  refine IN.out.mono ?_
  rintro e w2 ⟨rfl, q, rfl⟩
  go_wp2_with fail
  refine (TK.out q).mono ?_
  rintro e w3 ⟨hB, ⟨hwr, hP, kd, v', a, q0, rfl, hkd, hv', ha, _⟩ | ⟨hwr, rfl⟩⟩
  · clear hkd ha
    obtain rfl : v' = v := by rw [hv', HVV.out]
    clear hv'
    rw [HT.out] at hwr hP
    have HB := Lib.hid ((mbut M1.out).trans (G := fun i => i = g) (w'' := w3) ⟨hB.os, hB.tape, hB.output, hB.size, hB.block⟩ (fun i _ e => e))
    have HE := Lib.hid hwr
    have HP := Lib.hid hP
    have HV := Lib.hid (HR.out hwr)
    have hf := fun W => fld2 (kd : Int) (v' : Int) (a : Int) q0 W
    clear hB hwr hP
    go_wp2_with fail
    go_ret
    exact ⟨HB.out, .inl ⟨HE.out, HP.out, by rw [HV.out]; rfl⟩⟩
  · rw [HT.out] at hwr ⊢
    have HB := Lib.hid ((mbut M1.out).trans (G := fun i => i = g) (w'' := w3) ⟨hB.os, hB.tape, hB.output, hB.size, hB.block⟩ (fun i _ e => e))
    have HE := Lib.hid hwr
    clear hB hwr
    have HZ := Lib.hid (ends_no (T := T) (len := len) (n := n) (bl := bl) (ol := ol) (cl := cl) (base := base) (pv := pv) (m := m) (cv := cv) (g := g) (x := (s * (valueF r1 o).1, (valueF r1 o).2)) (V := fun _ e => e = .returned (.int .i64 (s * (valueF r1 o).1))) HB.out HE.out)
    unfold gone at HZ ⊢
    go_wp2_with fail
    exact ⟨rfl, HZ.out⟩
end
end Go.Proofs.YtkgieaoahijheaaGreatDoor.Pp
namespace Go.Proofs.YtkgieaoahijheaaGreatDoor.Pp
open Go.RowKit
open Sc (Tok Cells str noTok)
open Pa
set_option maxRecDepth 100000

def findI (s : Txt) (L : List Txt) : Int := match findF s L with
  | some i => (i : Int)
  | none => -1
section
variable {w w' : World} {g n bl ol cl base : Nat} {pv : Option Addr} {m cv : Nat} {T : List Tok} {len : Nat} {r : Rd}
set_option maxHeartbeats 1000000 in
theorem index_any (s : ByteArray) {p : Option Addr} {b off c : Nat} {L : List Txt} (h : NmAt w p b off m L) (hm : m ≤ 1000000) :
    Calls Tryz.prog 115 #[.slice p m c, .string s] w fun e w' => e = .returned (.int .i64 (findI (txt s) L)) ∧ w' = w := by
  have hml := h.long
  have hpv := h.at_
  have H := Lib.hid h
  have HM := Lib.hid hml
  clear h hml
  go_enter Tryz.func115, Tryz.ntmps115
  go_wp2_with fail
  go_loopw [8] (fun vi wr => (∃ k : Nat, k ≤ m ∧ vi = .int .i64 k ∧ ∀ j, j < k → L.getD j [] ≠ txt s) ∧ wr = w) (fun vi _ => m - (intOf vi).toNat)
  case atStart => exact ⟨⟨0, by omega, rfl, fun j hj => absurd hj (by omega)⟩, rfl⟩
  case round =>
    obtain ⟨⟨k, hk, rfl, hno⟩, rfl⟩ := hrel
    have HNO := Lib.hid hno
    clear hno
    by_cases hlt : k < m
    · obtain rfl := hpv (by omega)
      have a0 := H.out.cell k hlt
      obtain ⟨q', hq', hq2'⟩ := str_open (L.getD k [])
      rw [hq'] at a0
      have he := eql_txt s q'
      rw [hq2'] at he
      have hkm : (k : Int) < (m : Int) := by omega
      clear hq' hq2'
      by_cases heq : txt s = L.getD k []
      · rw [decide_eq_true heq] at he
        have HF := Lib.hid (show findI (txt s) L = (k : Int) by unfold findI; rw [find_at HNO.out (by rw [← HM.out]; exact hlt) heq.symm])
        clear heq
        go_wp2_with fail
        go_ret
        exact ⟨by rw [HF.out]; rfl, rfl⟩
      · rw [decide_eq_false heq] at he
        have HN2 := Lib.hid (show ∀ j, j < k + 1 → L.getD j [] ≠ txt s from fun j hj e => by
          by_cases hjk : j < k
          · exact HNO.out j hjk e
          · obtain rfl : j = k := by omega
            exact heq e.symm)
        clear heq
        go_wp2_with fail
        go_roundw
        case rel => exact ⟨⟨k + 1, by omega, by go_num, HN2.out⟩, trivial⟩
        case measure => simp [intOf]; omega
    · have HF := Lib.hid (show findI (txt s) L = -1 by
        unfold findI
        rw [find_no fun j hj => HNO.out j (by rw [← HM.out] at hj; omega)])
      have hge : m ≤ k := by omega
      have hgi : (m : Int) ≤ (k : Int) := by omega
      go_wp2_with fail
      go_ret
      exact ⟨by rw [HF.out]; rfl, rfl⟩
theorem tok_at {o : Option Tok} (ho : o = next T r) (hn : o ≠ none) : o.map (·.at_) = some (tokP T len r.at_).at_ := by
  have hin := next_some (r := r) (T := T) (by rw [← ho]; exact hn)
  have hwr : r.wrong = false := right_of fun hw => hn (ho.trans (next_wrong hw))
  have e : tokP T len r.at_ = T.getD r.at_ noTok := by
    unfold tokP
    simp only [List.getD]
    rw [List.getElem?_append_left hin]
  rw [ho, next_in hwr hin, e]
  rfl
theorem bad_same {r : Rd} {p : Nat} (h : r.bad = some p) : ({ step1 r with bad := some p } : Rd) = step1 r := by
  cases r
  simp only at h
  subst h
  rfl
set_option maxHeartbeats 2000000 in
theorem var_any (h : PAt w g n bl ol cl base pv m cv T len r) (hm : m ≤ 1000000) :
    Calls Tryz.prog 107 #[.pointer (some ⟨g, 0, none⟩)] w (Ends w (fun i => i = g) g n bl ol cl base pv m cv T len (varF r (next T r)) fun _ e => e = .returned (.int .i64 (varF r (next T r)).1)) := by
  have H := Lib.hid h
  have IN := Lib.hid (isname_any h)
  obtain ⟨o, ho⟩ : ∃ o, o = next T r := ⟨_, rfl⟩
  rw [← ho] at IN ⊢
  have HO := Lib.hid ho
  obtain ⟨bk, hbk⟩ : ∃ bk, bk = namedO o := ⟨_, rfl⟩
  rw [← hbk] at IN
  obtain ⟨pl, hpl⟩ : ∃ pl, pl = (tokP T len r.at_).at_ := ⟨_, rfl⟩
  have HPL := Lib.hid hpl
  have TK := Lib.hid (fun (W : World) (hB : Below w.heap.size w W) => takes_any bk (h.below hB) (fun e => by rw [h.long]; exact next_some (by rw [← ho]; exact named_some (hbk.symm.trans e))))
  rw [← ho, ← hpl] at TK
  have HK := Lib.hid hbk
  clear h ho hbk hpl
  cases bk
  · go_enter Tryz.func107, Tryz.ntmps107
    go_wp2_with fail
    refine IN.out.mono ?_
    rintro e w1 ⟨rfl, hB1⟩
    have TK1 := Lib.hid (TK.out w1 hB1)
    have B1 := Lib.hid hB1
    clear hB1
    go_wp2_with fail
    refine TK1.out.mono ?_
    rintro e w2 ⟨hB, ⟨hw, _⟩ | ⟨hw, rfl⟩⟩
    · cases hw
    · have HZ := Lib.hid (ends_no (T := T) (len := len) (n := n) (bl := bl) (ol := ol) (cl := cl) (base := base) (pv := pv) (m := m) (cv := cv) (g := g) (x := varF r o) (V := fun _ e => e = .returned (.int .i64 (varF r o).1)) ((But.below B1.out).trans (G := fun i => i = g) hB (fun i _ e => e)) (by unfold varF; rw [← HK.out]; rfl))
      have hat : (varF r o).2.at_ = (takeF false r).2.at_ := by unfold varF; rw [← HK.out]; rfl
      rw [hat] at HZ
      clear hB hw
      unfold gone at HZ ⊢
      go_wp2_with fail
      exact ⟨rfl, HZ.out⟩
  · go_enter Tryz.func107, Tryz.ntmps107
    go_wp2_with fail
    refine IN.out.mono ?_
    rintro e w1 ⟨rfl, hB1⟩
    have TK1 := Lib.hid (TK.out w1 hB1)
    have B1 := Lib.hid hB1
    clear hB1
    go_wp2_with fail
    refine TK1.out.mono ?_
    rintro e w2 ⟨hB, ⟨hw, hP, kd, v, a, q0, rfl, hkd, hv, ha, hq⟩ | ⟨hw, _⟩⟩
    · have H2 := Lib.hid (show PAt w2 g n bl ol cl base pv m cv T len (step1 r) from hP)
      have c2 := H2.out.c2
      have c3 := H2.out.c3
      have f3 := H2.out.f3
      have B2 := Lib.hid ((But.below B1.out).trans (G := fun i => i = g) hB (fun i _ e => e))
      have IX := Lib.hid (fun (o' : Obj) (q : Nat) => by
        obtain ⟨_, b, hnm, _⟩ := nm_of_owns (((hP.below ((Below.refl _ w2).alloc (Nat.le_refl _) o')).drewN q).nm)
        exact index_any q0 (c := cv) hnm hm)
      rw [hq] at IX
      have HA := Lib.hid ha
      have hgl := H2.out.glt
      have HB := Lib.hid (fun (o' : Obj) => below_drewN (n := 1) ((Below.refl _ w2).alloc (Nat.le_refl _) o'))
      obtain ⟨z, hz⟩ : ∃ z, z = findI (textO o) (takeF true r).2.vars := ⟨_, rfl⟩
      rw [← hz] at IX
      have HZ := Lib.hid hz
      clear hB hw hP hkd hv ha hq hz
      go_wp2_with fail
      go_quiet (exact Calls.quiet_of_same (IX.out _ _))
      obtain ⟨W, hW⟩ : ∃ W, W = (w2.alloc (.cells #[.int .i64 (kd : Nat), .string q0, .int .i64 (v : Nat), .int .i64 (a : Nat)] 63)).drewN nq := ⟨_, rfl⟩
      have HW := Lib.hid (show Below w2.heap.size w2 W by rw [hW]; exact below_drewN ((Below.refl _ w2).alloc (Nat.le_refl _) _))
      have H3 := Lib.hid (H2.out.below HW.out)
      have B3 := Lib.hid (B2.out.trans (G := fun i => i = g) (But.below HW.out) (fun i _ e => e))
      have t3 : W.cell? ⟨w2.heap.size, 3, none⟩ = some (.int .i64 (a : Nat)) := by rw [hW]; go_simp
      have c3 := H3.out.c3
      have f3 := H3.out.f3
      rw [← hW]
      clear hW c2
      cases hf : findF (textO o) r.vars with
      | some i =>
        have hz : z = (i : Int) := by rw [HZ.out]; show findI (textO o) r.vars = _; unfold findI; rw [hf]
        have hx : varF r o = ((i : Int), step1 r) := by unfold varF; rw [if_pos HK.out.symm, hf]
        subst hz
        have d0 : decide ((i : Int) < 0) = false := decide_eq_false (by omega)
        have hge : ¬ ((i : Int) < 0) := by omega
        have HE := Lib.hid (show Ends w (fun i => i = g) g n bl ol cl base pv m cv T len (varF r o) (fun _ e => e = .returned (.int .i64 (varF r o).1)) (.returned (.int .i64 (i : Int))) W by rw [hx]; exact ⟨B3.out, .inl ⟨H.out.ok, H3.out, rfl⟩⟩)
        clear hf hx
        go_wp2_with fail
        go_ret
        exact HE.out
      | none =>
        have hz : z = -1 := by rw [HZ.out]; show findI (textO o) r.vars = _; unfold findI; rw [hf]
        have hx : varF r o = (-1, { step1 r with bad := match r.bad with | some p => some p | none => o.map (·.at_) }) := by unfold varF; rw [if_pos HK.out.symm, hf]; (try rfl)
        subst hz
        have HF := Lib.hid H.out.ok
        cases hb : r.bad with
        | some p =>
          rw [hb, show ({ step1 r with bad := match some p with | some p => some p | none => o.map (·.at_) } : Rd) = step1 r from bad_same hb] at hx
          have HE := Lib.hid (show Ends w (fun i => i = g) g n bl ol cl base pv m cv T len (varF r o) (fun _ e => e = .returned (.int .i64 (varF r o).1)) (.returned (.int .i64 (-1))) W by rw [hx]; exact ⟨B3.out, .inl ⟨HF.out, H3.out, rfl⟩⟩)
          rw [show badI (step1 r).bad = (p : Int) by show badI r.bad = _; rw [hb]; rfl] at c3
          have d0 : decide ((p : Int) < 0) = false := decide_eq_false (by omega)
          have hge : ¬ ((p : Int) < 0) := by omega
          clear hf hx hb
          go_wp2_with fail
          go_ret
          exact HE.out
        | none =>
          rw [show badI (step1 r).bad = -1 by show badI r.bad = _; rw [hb]; rfl] at c3
          have hat : o.map (·.at_) = some a := by rw [HA.out, HPL.out]; exact tok_at HO.out (named_some HK.out.symm)
          have H4 := Lib.hid (H3.out.setBad a)
          rw [hb, show ({ step1 r with bad := match (none : Option Nat) with | some p => some p | none => o.map (·.at_) } : Rd) = { step1 r with bad := some a } by simp only [hat]] at hx
          have B4 := Lib.hid (B3.out.trans (G := fun i => i = g) (But.set ⟨g, 3, none⟩ (.int .i64 (a : Nat)) fun _ => rfl) (fun i _ e => e))
          have HE := Lib.hid (show Ends w (fun i => i = g) g n bl ol cl base pv m cv T len (varF r o) (fun _ e => e = .returned (.int .i64 (varF r o).1)) (.returned (.int .i64 (-1))) (W.setCell ⟨g, 3, none⟩ (.int .i64 (a : Nat))) by rw [hx]; exact ⟨B4.out, .inl ⟨HF.out, H4.out, rfl⟩⟩)
          clear hf hx hb hat
          go_wp2_with fail
          go_ret
          exact HE.out
    · exact absurd hw (by show ¬ (step1 r).wrong = true; have := H.out.ok; simp [step1, this])
end
end Go.Proofs.YtkgieaoahijheaaGreatDoor.Pp
namespace Go.Proofs.YtkgieaoahijheaaGreatDoor.Pp
open Go.RowKit
open Sc (Tok Cells str noTok)
open Pa
set_option maxRecDepth 100000

section
variable {w w' : World} {g n bl ol cl base : Nat} {pv : Option Addr} {m cv : Nat} {T : List Tok} {len : Nat} {r : Rd}
theorem rels_nm (w : World) : NmAt (w.alloc (.cells #[.string ⟨#[61]⟩, .string ⟨#[33, 61]⟩, .string ⟨#[60]⟩, .string ⟨#[60, 61]⟩, .string ⟨#[62]⟩, .string ⟨#[62, 61]⟩] 9)) (some ⟨w.heap.size, 0, none⟩) w.heap.size 0 6 relsL :=
  ⟨rfl, fun _ => rfl, fun k hk => by
    rw [Nat.zero_add, World.cell?_alloc_mark]
    match k, hk with
    | 0, _ => rfl
    | 1, _ => rfl
    | 2, _ => rfl
    | 3, _ => rfl
    | 4, _ => rfl
    | 5, _ => rfl⟩
theorem nm_below {w w' : World} {p : Option Addr} {b off m : Nat} {L : List Txt} (h : NmAt w p b off m L) (hB : Below w.heap.size w w') : NmAt w' p b off m L :=
  ⟨h.long, h.at_, fun k hk => (World.cell?_of_block (w := w) (hB.block b (World.block_lt_of_cell? w _ (h.cell k hk)))).trans (h.cell k hk)⟩
set_option maxHeartbeats 2000000 in
theorem rel_any (h : PAt w g n bl ol cl base pv m cv T len r) :
    Calls Tryz.prog 110 #[.pointer (some ⟨g, 0, none⟩)] w (Ends w (fun i => i = g) g n bl ol cl base pv m cv T len (relF r (next T r)) fun _ e => ∃ i : Nat, e = .returned (.int .i64 (i : Int)) ∧ (relF r (next T r)).1 = some i) := by
  have hgl := h.glt
  have hll := h.llt
  obtain ⟨W, hW⟩ : ∃ W, W = w.alloc (.cells #[.string ⟨#[61]⟩, .string ⟨#[33, 61]⟩, .string ⟨#[60]⟩, .string ⟨#[60, 61]⟩, .string ⟨#[62]⟩, .string ⟨#[62, 61]⟩] 9) := ⟨_, rfl⟩
  have hB : Below w.heap.size w W := by rw [hW]; exact (Below.refl _ w).alloc (Nat.le_refl _) _
  have H := Lib.hid (h.below hB)
  have HB := Lib.hid hB
  have HW := Lib.hid hW
  have c0 := H.out.c0
  have c1 := H.out.c1
  obtain ⟨_, t1, _, _⟩ := H.out.cells
  have i1 : (r.at_ : Int) < ((n + 1 : Nat) : Int) := by have := h.top; omega
  obtain ⟨q0, hq0, hq2⟩ := str_open (textO (next T r))
  rw [hq0] at t1
  have IX := Lib.hid (fun q => index_any q0 (c := 6) (nm_below (rels_nm w) (below_drewN (n := q) (Below.refl _ _))) (by omega))
  rw [hq2, ← hW] at IX
  obtain ⟨o, ho⟩ : ∃ o, o = next T r := ⟨_, rfl⟩
  rw [← ho] at IX ⊢
  have hon : ∀ i, findF (textO o) relsL = some i → r.at_ < n := fun i e => by
    rw [h.long]
    refine next_some (T := T) (r := r) ?_
    rw [← ho]
    rintro rfl
    rw [show textO none = [] from rfl, find_nil] at e
    cases e
  obtain ⟨x, hx⟩ : ∃ x, x = relF r o := ⟨_, rfl⟩
  have HX := Lib.hid hx
  rw [← hx]
  cases hf : findF (textO o) relsL with
  | some i =>
    have hz : findI (textO o) relsL = (i : Int) := by unfold findI; rw [hf]
    rw [hz] at IX
    have TK := Lib.hid (fun q => takes_any true (h.below (below_drewN (n := q) hB)) (fun _ => hon i hf))
    have hd : decide ((i : Int) ≥ 0) = true := decide_eq_true (by omega)
    have hd2 : decide ((0 : Int) ≤ (i : Int)) = true := decide_eq_true (by omega)
    have HE := Lib.hid (show x = (some i, step1 r) by rw [hx]; unfold relF; rw [hf])
    have HF := Lib.hid h.ok
    obtain ⟨k, hk⟩ : ∃ k, k = r.at_ := ⟨_, rfl⟩
    rw [← hk] at c1 t1 i1
    obtain ⟨n1, hn1⟩ : ∃ n1, n1 = n + 1 := ⟨_, rfl⟩
    rw [← hn1] at c0 i1
    clear h hx hq0 hq2 ho hon hf hz hk hn1 hB hW
    go_enter Tryz.func110, Tryz.ntmps110
    go_wp2_with fail
    rw [← HW.out]
    go_quiet (exact Calls.quiet_of_same (IX.out _))
    go_wp2_with fail
    refine (TK.out nq).mono ?_
    rintro e w2 ⟨hB2, ⟨hw, hP, kd, v, a, q1, rfl, _⟩ | ⟨hw, _⟩⟩
    · have HZ := Lib.hid (show Ends w (fun i => i = g) g n bl ol cl base pv m cv T len x (fun _ e => ∃ i : Nat, e = .returned (.int .i64 (i : Int)) ∧ x.1 = some i) (.returned (.int .i64 (i : Int))) w2 by
        rw [HE.out]
        exact ⟨(But.below (below_drewN HB.out)).trans (G := fun i => i = g) hB2 (fun i _ e => e), .inl ⟨hw, hP, i, rfl, rfl⟩⟩)
      clear hB2 hw hP
      go_wp2_with fail
      go_ret
      exact HZ.out
    · exact absurd hw (by show ¬ (step1 r).wrong = true; have := HF.out; simp [step1, this])
  | none =>
    have hz : findI (textO o) relsL = -1 := by unfold findI; rw [hf]
    rw [hz] at IX
    have TK := Lib.hid (fun q => takes_any false (h.below (below_drewN (n := q) hB)) (fun e => by cases e))
    have HE := Lib.hid (show x = (none, fail1 r) by rw [hx]; unfold relF; rw [hf])
    obtain ⟨k, hk⟩ : ∃ k, k = r.at_ := ⟨_, rfl⟩
    rw [← hk] at c1 t1 i1
    obtain ⟨n1, hn1⟩ : ∃ n1, n1 = n + 1 := ⟨_, rfl⟩
    rw [← hn1] at c0 i1
    clear h hx hq0 hq2 ho hon hf hz hk hn1 hB hW
    go_enter Tryz.func110, Tryz.ntmps110
    go_wp2_with fail
    rw [← HW.out]
    go_quiet (exact Calls.quiet_of_same (IX.out _))
    go_wp2_with fail
    refine (TK.out nq).mono ?_
    rintro e w2 ⟨hB2, ⟨hw, _⟩ | ⟨hw, rfl⟩⟩
    · cases hw
    · have HZ := Lib.hid (show Ends w (fun i => i = g) g n bl ol cl base pv m cv T len x (fun _ e => ∃ i : Nat, e = .returned (.int .i64 (i : Int)) ∧ x.1 = some i) (gone (tokP T len (takeF false r).2.at_).at_) w2 by
        rw [HE.out]
        exact ⟨(But.below (below_drewN HB.out)).trans (G := fun i => i = g) hB2 (fun i _ e => e), .inr ⟨rfl, rfl⟩⟩)
      clear hB2 hw
      unfold gone at HZ ⊢
      go_wp2_with fail
      exact ⟨rfl, HZ.out⟩
end
end Go.Proofs.YtkgieaoahijheaaGreatDoor.Pp
namespace Go.Proofs.YtkgieaoahijheaaGreatDoor.Pa
open Go.RowKit
open Sc (Tok Cells str noTok)
set_option maxRecDepth 100000

/-- whatever is told is such -/
def Gives {α : Type} (P : Rx α) (φ : α → Prop) : Prop := ∀ T r, (∀ t ∈ T, t.value ≤ 2000000000000) → φ (P T r).1
section
variable {α β : Type} {φ : α → Prop} {ψ : β → Prop}
theorem gives_ret {a : α} (h : φ a) : Gives (ret a) φ := fun _ _ _ => h
theorem gives_seq {m : Rx α} {f : α → Rx β} (hm : Gives m φ) (hf : ∀ a, φ a → Gives (f a) ψ) : Gives (seq m f) ψ := fun T r hv => hf _ (hm T r hv) T _ hv
theorem gives_true (m : Rx α) : Gives m fun _ => True := fun _ _ _ => trivial
theorem gives_if {c : Prop} [Decidable c] {A B : Rx α} (hA : Gives A φ) (hB : Gives B φ) : Gives (if c then A else B) φ := by split <;> assumption
end
def GoodC (c : PCon) : Prop := Fit c.kind ∧ Fit c.rel ∧ Fit c.const
theorem gives_number : Gives number Fit := fun T r hv => by
  have := number_few (r := r) hv
  unfold Fit
  omega
theorem gives_terms : ∀ (n : Nat) (s : Int) (c : PCon), GoodC c → Gives (terms n s c) GoodC
  | 0, _, _, h => gives_ret h
  | n + 1, _, _, h => gives_seq (gives_true _) fun _ _ => gives_seq (gives_true _) fun _ _ => gives_seq (gives_true _) fun _ _ => gives_seq (gives_true _) fun _ _ => gives_seq (gives_true _) fun _ _ => gives_seq (gives_true _) fun _ _ =>
    gives_if (gives_terms n _ _ h) (gives_ret h)
theorem gives_rel : Gives (look relF) fun i => ∀ k, i = some k → k < 6 := fun T r _ k hk => by
  simp only [look, relF] at hk
  split at hk
  · rename_i i e
    cases hk
    exact findF_lt e
  · cases hk
theorem gives_sum (K : Nat) (c : PCon) (h : GoodC c) : Gives (sumR K c) GoodC :=
  gives_seq (gives_true _) fun _ _ => gives_seq (gives_terms K _ c h) fun d hd => gives_seq gives_rel fun i hi => by
    cases i with
    | none => exact gives_ret hd
    | some k => exact gives_seq (φ := Fit) gives_number fun z hz => gives_ret ⟨hd.1, by have := hi k rfl; show Fit (k : Int); unfold Fit; omega, hz⟩
theorem gives_names : ∀ (n m : Nat) (more : Bool) (c : PCon), GoodC c → Gives (namesR n m more c) GoodC
  | 0, _, _, _, h => gives_ret h
  | n + 1, _, _, _, h => gives_seq (gives_true _) fun _ _ => gives_if (gives_seq (gives_true _) fun _ _ => gives_names n _ _ _ h) (gives_ret h)
theorem gives_nums : ∀ (n m : Nat) (c : PCon), GoodC c → Gives (numsR n m c) GoodC
  | 0, _, _, h => gives_ret h
  | n + 1, _, _, h => gives_seq (gives_true _) fun _ _ => gives_if (gives_seq (gives_true _) fun _ _ => gives_nums n _ _ h) (gives_ret h)
theorem gives_brackets (K m : Nat) (c : PCon) (h : GoodC c) : Gives (brackets K m c) GoodC := gives_seq (gives_true _) fun _ _ => gives_seq (gives_nums K m c h) fun _ hd => gives_seq (gives_true _) fun _ _ => gives_ret hd
theorem good_of (k : Nat) (h : k ≤ 6) : GoodC (conOf k) := by
  refine ⟨?_, ?_, ?_⟩ <;> simp only [conOf, Fit] <;> omega
theorem gives_con (K : Nat) : Gives (conR K) GoodC := gives_seq (gives_true _) fun _ _ =>
  gives_if (gives_seq (gives_true _) fun _ _ => gives_names _ _ _ _ (good_of 2 (by decide))) (gives_if (gives_seq (gives_true _) fun _ _ => gives_seq (gives_true _) fun _ _ => gives_sum _ _ (good_of 3 (by decide)))
    (gives_if (gives_seq (gives_true _) fun _ _ => gives_seq (gives_names _ _ _ _ (good_of 4 (by decide))) fun _ h => gives_brackets _ _ _ h) (gives_if (gives_seq (gives_true _) fun _ _ => gives_names _ _ _ _ (good_of 5 (by decide)))
      (gives_if (gives_seq (gives_true _) fun _ _ => gives_seq (gives_names _ _ _ _ (good_of 6 (by decide))) fun _ h => gives_brackets _ _ _ h) (gives_sum _ _ (good_of 1 (by decide)))))))
def GoodL (l : List PCon) : Prop := ∀ c ∈ l, GoodC c
theorem good_snoc {l : List PCon} {c : PCon} (h : GoodL l) (hc : GoodC c) : GoodL (l ++ [c]) := fun x hx => by
  rcases List.mem_append.1 hx with q | q
  · exact h x q
  · rw [List.mem_singleton.1 q]; exact hc
theorem gives_ands (K : Nat) : ∀ (n : Nat) (l : List PCon), GoodL l → Gives (andsR K n l) GoodL
  | 0, _, h => gives_ret h
  | n + 1, _, h => gives_seq (gives_true _) fun _ _ => gives_if (gives_seq (gives_con K) fun _ hc => gives_ands K n _ (good_snoc h hc)) (gives_ret h)
theorem gives_list (K : Nat) : Gives (listR K) GoodL := gives_seq (gives_true _) fun _ _ => gives_if (gives_ret fun c h => by cases h) (gives_seq (gives_con K) fun c hc => gives_ands K K _ fun x hx => by rw [List.mem_singleton.1 hx]; exact hc)
theorem gives_where (K : Nat) (b : Bool) : Gives (whereR K b) GoodL := gives_if (gives_list K) (gives_ret fun c h => by cases h)
theorem gives_block (K : Nat) : Gives (blockR K) fun b => GoodL b.cons := gives_seq (gives_true _) fun _ _ => gives_seq (gives_true _) fun _ _ => gives_seq (gives_true _) fun _ _ => gives_seq (gives_true _) fun _ _ => gives_seq (gives_where K _) fun _ h => gives_seq (gives_true _) fun _ _ => gives_ret h
theorem gives_blocks (K : Nat) : ∀ (n : Nat) (l : List PBlock), (∀ b ∈ l, GoodL b.cons) → Gives (blocksR K n l) fun l => ∀ b ∈ l, GoodL b.cons
  | 0, _, h => gives_ret h
  | n + 1, l, h => gives_seq (gives_block K) fun b hb => by
    have h2 : ∀ x ∈ l ++ [b], GoodL x.cons := fun x hx => by
      rcases List.mem_append.1 hx with q | q
      · exact h x q
      · rw [List.mem_singleton.1 q]; exact hb
    exact gives_seq (gives_true _) fun _ _ => gives_if (gives_blocks K n _ h2) (gives_ret h2)
theorem gives_body (K : Nat) : Gives (bodyR K) fun m => (∀ b ∈ m.blocks, GoodL b.cons) ∧ GoodL m.goal :=
  gives_seq (gives_seq (gives_blocks K K [] fun b h => by cases h) fun bs hb => gives_seq (gives_true _) fun _ _ => gives_seq (gives_list K) fun g hg => gives_ret (φ := fun m : PModel => (∀ b ∈ m.blocks, GoodL b.cons) ∧ GoodL m.goal) ⟨hb, hg⟩) fun _ h => gives_seq (gives_true _) fun _ _ => gives_ret h

/-- blocks in rows of their own -/
def blockP (w : World) (base : Nat) (cs : List Value) (b : PBlock) : Prop := ∃ v1 v2 : Value, cs = [.bool b.all, v1, v2] ∧ DeclsAt w base v1 b.vars ∧ ConsAt w base v2 b.cons
def BlocksAt (w : World) (base : Nat) (v : Value) (L : List PBlock) : Prop := OwnsP (blockP w base) 3 42 base w v L
section
variable {w w' : World} {base g f b j : Nat} {u v x : Value} {L : List PBlock} {M : List PCon} {D : List PDecl}
theorem ConsAt.grown (h : ConsAt w base v M) (hu : ∀ i, u.ownBlock = some i → ∃ cs, w.heap[i]? = some (.cells cs f)) (hg : w.grownBy w' u.ownBlock) (h1 : 38 ≠ f) (h2 : 3 ≠ f) : ConsAt w' base v M :=
  OwnsP.grown (OwnsP.imp h (fun _ _ _ ⟨u1, u2, u3, e, o⟩ => ⟨u1, u2, u3, e, ⟨OwnsP.grown o.o1 hu hg h2, OwnsP.grown o.o2 hu hg h2, OwnsP.grown o.o3 hu hg h2, o.p12, o.p13, o.p23⟩⟩)) hu hg h1
theorem DeclsAt.low {low : Nat} (h : DeclsAt w base v D) (hl : low ≤ base) : DeclsAt w low v D :=
  OwnsP.low (OwnsP.imp h (fun _ _ _ ⟨s, u, e, t, o⟩ => ⟨s, u, e, t, o.low hl⟩)) hl
theorem BlocksAt.below (h : BlocksAt w base v L) (hB : Below w.heap.size w w') : BlocksAt w' base v L :=
  OwnsP.below (OwnsP.imp h (fun _ _ _ ⟨v1, v2, e, d, c⟩ => ⟨v1, v2, e, d.below hB, c.below hB⟩)) hB
theorem BlocksAt.set (h : BlocksAt w base v L) (hb : ∃ cs, w.heap[b]? = some (.cells cs f)) (h1 : 42 ≠ f) (h2 : 45 ≠ f) (h3 : 71 ≠ f) (h4 : 38 ≠ f) (h5 : 3 ≠ f) : BlocksAt (w.setCell ⟨b, j, none⟩ x) base v L :=
  OwnsP.set (OwnsP.imp h (fun _ _ _ ⟨v1, v2, e, d, c⟩ => ⟨v1, v2, e, d.set hb h2 h3, c.set hb h4 h5⟩)) hb h1
theorem BlocksAt.grown (h : BlocksAt w base v L) (hu : ∀ i, u.ownBlock = some i → ∃ cs, w.heap[i]? = some (.cells cs f)) (hg : w.grownBy w' u.ownBlock) (h1 : 42 ≠ f) (h2 : 45 ≠ f) (h3 : 71 ≠ f) (h4 : 38 ≠ f) (h5 : 3 ≠ f) : BlocksAt w' base v L :=
  OwnsP.grown (OwnsP.imp h (fun _ _ _ ⟨v1, v2, e, d, c⟩ => ⟨v1, v2, e, d.grown hu hg h2 h3, c.grown hu hg h4 h5⟩)) hu hg h1
/- what is so in memory reads as a model's parts -/
theorem cons_read (h : ConsAt w base v M) (hG : GoodL M) : Slc rCon 6 w v M :=
  OwnsP.slc h fun _ c hc ⟨u1, u2, u3, e, o⟩ => ⟨u1, u2, u3, e, hG c hc, o.o1.slc fun _ _ _ h => h, o.o2.slc fun _ _ _ h => h, o.o3.slc fun _ _ _ h => h⟩
theorem decls_read (h : DeclsAt w base v D) : Slc rDecl 2 w v D :=
  OwnsP.slc h fun _ _ _ ⟨s, u, e, t, o⟩ => ⟨s, u, e, t, o.slc fun _ _ _ h => h⟩
theorem blocks_read (h : BlocksAt w base v L) (hG : ∀ b ∈ L, GoodL b.cons) : Slc rBlock 3 w v L :=
  OwnsP.slc h fun _ b hb ⟨v1, v2, e, d, c⟩ => ⟨v1, v2, e, decls_read d, cons_read c (hG b hb)⟩
end
end Go.Proofs.YtkgieaoahijheaaGreatDoor.Pa
