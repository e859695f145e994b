/-
  The program's parser of tokens in memory. What its looks at the next token answer.
  The program's parser of tokens: what it takes, and how it gives up.
  What the program's parser of tokens does, token by token: pure functions, and what holds of all of them. Nothing of the program.
-/
import Derived.Test.YtkgieaoahijheaaGreatDoorZYAV
import Derived.IntWalk
import Derived.Test.YtkgieaoahijheaaGreatDoorZYAF
import Derived.WalkLawsBesides
import Derived.RegionDies
namespace Go.Proofs.YtkgieaoahijheaaGreatDoor.Pp
open Go.RowKit
open Sc (Tok Cells str noTok)
open Pa
set_option maxRecDepth 100000

def endT (len : Nat) : Tok := ⟨0, [], 0, len⟩
/-- the token at a place, or the one behind the last one -/
def tokP (T : List Tok) (len k : Nat) : Tok := (T ++ [endT len]).getD k noTok
/-- with this a parser gives up -/
def gone (p : Nat) : Ending := .panicked [{ v := .iface 94 (.int .i64 (p : Int)), recovered := false }]
/-- a parser in memory: block g, of four cells -/
structure PAt (w : World) (g n bl ol cl base : Nat) (pv : Option Addr) (m cv : Nat) (T : List Tok) (len : Nat) (r : Rd) : Prop where
  c0 : w.cell? ⟨g, 0, none⟩ = some (.slice (some ⟨bl, ol, none⟩) (n + 1) cl)
  c1 : w.cell? ⟨g, 1, none⟩ = some (.int .i64 (r.at_ : Int))
  c2 : w.cell? ⟨g, 2, none⟩ = some (.slice pv m cv)
  c3 : w.cell? ⟨g, 3, none⟩ = some (.int .i64 (badI r.bad))
  f1 : w.frozen? ⟨g, 1, none⟩ = false
  f2 : w.frozen? ⟨g, 2, none⟩ = false
  f3 : w.frozen? ⟨g, 3, none⟩ = false
  ok : r.wrong = false
  long : n = T.length
  few : n ≤ 100000
  top : r.at_ ≤ n
  tk : Cells w bl ol (T ++ [endT len])
  nm : OwnsP nameP 1 9 base w (.slice pv m cv) r.vars
  ty : ∃ cs, w.heap[g]? = some (.cells cs 66)
  tt : ∃ cs, w.heap[bl]? = some (.cells cs 63)
section
variable {w w' : World} {g n bl ol cl base : Nat} {pv : Option Addr} {m cv : Nat} {T : List Tok} {len : Nat} {r : Rd}
theorem PAt.of_blocks (h : PAt w g n bl ol cl base pv m cv T len r) (hg : w'.heap[g]? = w.heap[g]?) (hl : w'.heap[bl]? = w.heap[bl]?) (hv : ∀ k, (Value.slice pv m cv).ownBlock = some k → w'.heap[k]? = w.heap[k]?) : PAt w' g n bl ol cl base pv m cv T len r := by
  have cg : ∀ (i : Nat) (x : Value), w.cell? ⟨g, i, none⟩ = some x → w'.cell? ⟨g, i, none⟩ = some x := fun i x hc => (World.cell?_of_block (w := w) (a := ⟨g, i, none⟩) hg).trans hc
  have fg : ∀ i : Nat, w.frozen? ⟨g, i, none⟩ = false → w'.frozen? ⟨g, i, none⟩ = false := fun i hc => (World.frozen?_of_block (w := w) (a := ⟨g, i, none⟩) hg).trans hc
  have cl' : ∀ (i : Nat) (x : Value), w.cell? ⟨bl, i, none⟩ = some x → w'.cell? ⟨bl, i, none⟩ = some x := fun i x hc => (World.cell?_of_block (w := w) (a := ⟨bl, i, none⟩) hl).trans hc
  refine ⟨cg _ _ h.c0, cg _ _ h.c1, cg _ _ h.c2, cg _ _ h.c3, fg _ h.f1, fg _ h.f2, fg _ h.f3, h.ok, h.long, h.few, h.top, fun k hk => ?_, h.nm.same hv, ?_, ?_⟩
  · obtain ⟨a, b, c, d⟩ := h.tk k hk
    exact ⟨cl' _ _ a, cl' _ _ b, cl' _ _ c, cl' _ _ d⟩
  · obtain ⟨cs, e⟩ := h.ty; exact ⟨cs, hg.trans e⟩
  · obtain ⟨cs, e⟩ := h.tt; exact ⟨cs, hl.trans e⟩
theorem PAt.drewN (h : PAt w g n bl ol cl base pv m cv T len r) (q : Nat) : PAt (w.drewN q) g n bl ol cl base pv m cv T len r := h.of_blocks rfl rfl fun _ _ => rfl
theorem PAt.below (h : PAt w g n bl ol cl base pv m cv T len r) (hB : Below w.heap.size w w') : PAt w' g n bl ol cl base pv m cv T len r :=
  h.of_blocks (hB.block g (Array.getElem?_eq_some_iff.1 h.ty.choose_spec).1) (hB.block bl (Array.getElem?_eq_some_iff.1 h.tt.choose_spec).1) fun k hk => hB.block k (h.nm.lt k hk).2
theorem PAt.gne (h : PAt w g n bl ol cl base pv m cv T len r) : bl ≠ g := kinds_apart h.tt h.ty (by decide)
theorem PAt.glt (h : PAt w g n bl ol cl base pv m cv T len r) : g < w.heap.size := (Array.getElem?_eq_some_iff.1 h.ty.choose_spec).1
theorem PAt.llt (h : PAt w g n bl ol cl base pv m cv T len r) : bl < w.heap.size := (Array.getElem?_eq_some_iff.1 h.tt.choose_spec).1
theorem tok_next (hl : n = T.length) (ht : r.at_ ≤ n) (hw : r.wrong = false) : kindO (next T r) = (tokP T len r.at_).kind ∧ textO (next T r) = (tokP T len r.at_).text ∧ valueO (next T r) = (tokP T len r.at_).value := by
  unfold tokP
  by_cases h : r.at_ < T.length
  · rw [next_in hw h]
    have e : (T ++ [endT len]).getD r.at_ noTok = T.getD r.at_ noTok := by
      simp only [List.getD]
      rw [List.getElem?_append_left h]
    rw [e]
    exact ⟨rfl, rfl, rfl⟩
  · rw [next_out (.inr (by omega))]
    have e : (T ++ [endT len]).getD r.at_ noTok = endT len := by
      obtain e0 : r.at_ = T.length := by omega
      simp only [List.getD]
      rw [List.getElem?_append_right (by omega), e0]
      simp
    rw [e]
    exact ⟨rfl, rfl, rfl⟩
theorem PAt.cells (h : PAt w g n bl ol cl base pv m cv T len r) : w.cell? ⟨bl, ol + r.at_ * 4, none⟩ = some (.int .i64 (kindO (next T r) : Nat)) ∧ w.cell? ⟨bl, ol + r.at_ * 4 + 1, none⟩ = some (str (textO (next T r))) ∧
    w.cell? ⟨bl, ol + r.at_ * 4 + 2, none⟩ = some (.int .i64 (valueO (next T r) : Nat)) ∧ w.cell? ⟨bl, ol + r.at_ * 4 + 3, none⟩ = some (.int .i64 ((tokP T len r.at_).at_ : Nat)) := by
  obtain ⟨e1, e2, e3⟩ := tok_next (len := len) h.long h.top h.ok
  rw [e1, e2, e3]
  have := h.top
  exact h.tk r.at_ (by rw [List.length_append, ← h.long]; simp; omega)
/-- the step of a parser that took a token -/
theorem PAt.step (h : PAt w g n bl ol cl base pv m cv T len r) (hk : r.at_ < n) : PAt (w.setCell ⟨g, 1, none⟩ (.int .i64 ((r.at_ : Int) + 1))) g n bl ol cl base pv m cv T len (step1 r) := by
  have hne := h.gne
  have c0 := h.c0
  have c1 := h.c1
  have c2 := h.c2
  have c3 := h.c3
  have f1 := h.f1
  have f2 := h.f2
  have f3 := h.f3
  refine ⟨by go_simp, by go_simp; simp [step1], by go_simp, by go_simp; simp [step1], by go_simp, by go_simp, by go_simp, h.ok, h.long, h.few, by show r.at_ + 1 ≤ n; omega, fun k hk => ?_, h.nm.same fun k hk => Below.heap_setCell w ⟨g, 1, none⟩ _ k (kinds_apart (h.nm.kind hk) h.ty (by decide)), ?_, ?_⟩
  · obtain ⟨a, b, c, d⟩ := h.tk k hk
    exact ⟨cell_off a hne, cell_off b hne, cell_off c hne, cell_off d hne⟩
  · obtain ⟨cs, e⟩ := h.ty
    refine ⟨cs.setIfInBounds 1 (.int .i64 ((r.at_ : Int) + 1)), ?_⟩
    simp only [World.setCell, Array.getElem?_modify, e]
    rfl
  · obtain ⟨cs, e⟩ := h.tt
    exact ⟨cs, (Below.heap_setCell w ⟨g, 1, none⟩ _ bl hne).trans e⟩
theorem PAt.setBad (h : PAt w g n bl ol cl base pv m cv T len r) (p : Nat) : PAt (w.setCell ⟨g, 3, none⟩ (.int .i64 (p : Int))) g n bl ol cl base pv m cv T len { r with bad := some p } := by
  have hne := h.gne
  have c0 := h.c0
  have c1 := h.c1
  have c2 := h.c2
  have c3 := h.c3
  have f1 := h.f1
  have f2 := h.f2
  have f3 := h.f3
  refine ⟨by go_simp, by go_simp, by go_simp, by go_simp; simp [badI], by go_simp, by go_simp, by go_simp, h.ok, h.long, h.few, h.top, fun k hk => ?_, h.nm.same fun k hk => Below.heap_setCell w ⟨g, 3, none⟩ _ k (kinds_apart (h.nm.kind hk) h.ty (by decide)), ?_, ?_⟩
  · obtain ⟨a, b, c, d⟩ := h.tk k hk
    exact ⟨cell_off a hne, cell_off b hne, cell_off c hne, cell_off d hne⟩
  · obtain ⟨cs, e⟩ := h.ty
    refine ⟨cs.setIfInBounds 3 (.int .i64 (p : Int)), ?_⟩
    simp only [World.setCell, Array.getElem?_modify, e]
    rfl
  · obtain ⟨cs, e⟩ := h.tt
    exact ⟨cs, (Below.heap_setCell w ⟨g, 3, none⟩ _ bl hne).trans e⟩
/-- a row of a kind that a parser does not hold grows -/
theorem PAt.row {v : Value} {f : Nat} (h : PAt w g n bl ol cl base pv m cv T len r) (hk : ∀ k, v.ownBlock = some k → ∃ cs, w.heap[k]? = some (.cells cs f)) (hg : w.grownBy w' v.ownBlock) (h1 : 66 ≠ f) (h2 : 63 ≠ f) (h3 : 9 ≠ f) : PAt w' g n bl ol cl base pv m cv T len r := by
  have hne : ∀ (k e : Nat), e ≠ f → (∃ cs, w.heap[k]? = some (.cells cs e)) → w'.heap[k]? = w.heap[k]? := fun k e he q => hg.block k (Array.getElem?_eq_some_iff.1 q.choose_spec).1 (fun e' => kinds_apart q (hk k e'.symm) he rfl)
  exact h.of_blocks (hne g 66 h1 h.ty) (hne bl 63 h2 h.tt) (fun k hk => hne k 9 h3 (h.nm.kind hk))
theorem PAt.put {b j f : Nat} {x : Value} (h : PAt w g n bl ol cl base pv m cv T len r) (hb : ∃ cs, w.heap[b]? = some (.cells cs f)) (h1 : 66 ≠ f) (h2 : 63 ≠ f) (h3 : 9 ≠ f) : PAt (w.setCell ⟨b, j, none⟩ x) g n bl ol cl base pv m cv T len r := by
  have hne : ∀ (k e : Nat), e ≠ f → (∃ cs, w.heap[k]? = some (.cells cs e)) → (w.setCell ⟨b, j, none⟩ x).heap[k]? = w.heap[k]? := fun k e he q => Below.heap_setCell w ⟨b, j, none⟩ x k (kinds_apart q hb he)
  exact h.of_blocks (hne g 66 h1 h.ty) (hne bl 63 h2 h.tt) (fun k hk => hne k 9 h3 (h.nm.kind hk))
/-- one name more -/
theorem PAt.named {p : Option Addr} {cap : Nat} {s : Txt} (h : PAt w g n bl ol cl base pv m cv T len r) (hg : w.grownBy w' (Value.slice pv m cv).ownBlock) (hn : OwnsP nameP 1 9 base w' (.slice p (r.vars.length + 1) cap) (r.vars ++ [s])) :
    PAt (w'.setCell ⟨g, 2, none⟩ (.slice p (r.vars.length + 1) cap)) g n bl ol cl base p (r.vars.length + 1) cap T len { r with vars := r.vars ++ [s] } := by
  have hne : ∀ (k e : Nat), e ≠ 9 → (∃ cs, w.heap[k]? = some (.cells cs e)) → w'.heap[k]? = w.heap[k]? := fun k e he q => hg.block k (Array.getElem?_eq_some_iff.1 q.choose_spec).1 (fun e' => kinds_apart q (h.nm.kind e'.symm) he rfl)
  have eg := hne g 66 (by decide) h.ty
  have el := hne bl 63 (by decide) h.tt
  have hty : ∃ cs, w'.heap[g]? = some (.cells cs 66) := by rw [eg]; exact h.ty
  have hgl := h.gne
  have cg : ∀ (i : Nat) (x : Value), w.cell? ⟨g, i, none⟩ = some x → w'.cell? ⟨g, i, none⟩ = some x := fun i x hc => (World.cell?_of_block (w := w) (a := ⟨g, i, none⟩) eg).trans hc
  have fg : ∀ i : Nat, w.frozen? ⟨g, i, none⟩ = false → w'.frozen? ⟨g, i, none⟩ = false := fun i hc => (World.frozen?_of_block (w := w) (a := ⟨g, i, none⟩) eg).trans hc
  have c0 := cg _ _ h.c0
  have c1 := cg _ _ h.c1
  have c2 := cg _ _ h.c2
  have c3 := cg _ _ h.c3
  have f1 := fg _ h.f1
  have f2 := fg _ h.f2
  have f3 := fg _ h.f3
  refine ⟨by go_simp, by go_simp, by go_simp, by go_simp, by go_simp, by go_simp, by go_simp, h.ok, h.long, h.few, h.top, fun k hk => ?_, OwnsP.set hn hty (by decide), ?_, ?_⟩
  · obtain ⟨a, b, c, d⟩ := h.tk k hk
    have cl' : ∀ (i : Nat) (x : Value), w.cell? ⟨bl, i, none⟩ = some x → w'.cell? ⟨bl, i, none⟩ = some x := fun i x hc => (World.cell?_of_block (w := w) (a := ⟨bl, i, none⟩) el).trans hc
    exact ⟨cell_off (cl' _ _ a) hgl, cell_off (cl' _ _ b) hgl, cell_off (cl' _ _ c) hgl, cell_off (cl' _ _ d) hgl⟩
  · obtain ⟨cs, e⟩ := hty
    refine ⟨cs.setIfInBounds 2 (.slice p (r.vars.length + 1) cap), ?_⟩
    simp only [World.setCell, Array.getElem?_modify, e]
    rfl
  · obtain ⟨cs, e⟩ := h.tt
    exact ⟨cs, ((Below.heap_setCell w' ⟨g, 2, none⟩ _ bl hgl).trans el).trans e⟩

set_option maxHeartbeats 1000000 in
theorem is_any (s : ByteArray) (h : PAt w g n bl ol cl base pv m cv T len r) :
    Calls Tryz.prog 81 #[.pointer (some ⟨g, 0, none⟩), .string s] w fun e w' => e = .returned (.bool (decide (textO (next T r) = txt s))) ∧ ∃ q, w' = w.drewN q := by
  have c0 := h.c0
  have c1 := h.c1
  obtain ⟨_, t1, _, _⟩ := h.cells
  have i1 : (r.at_ : Int) < ((n + 1 : Nat) : Int) := by have := h.top; omega
  obtain ⟨q, hq, hq2⟩ := str_open (textO (next T r))
  rw [hq] at t1
  have he := eql_txt q s
  rw [hq2] at he
  obtain ⟨b, hb⟩ : ∃ b, b = decide (textO (next T r) = txt s) := ⟨_, rfl⟩
  rw [← hb] at he ⊢
  obtain ⟨k, hk⟩ : ∃ k, k = r.at_ := ⟨_, rfl⟩
  rw [← hk] at c1 t1 i1
  obtain ⟨n1, hn1⟩ : ∃ n1, n1 = n + 1 := ⟨_, rfl⟩
  rw [← hn1] at c0 i1
  clear h hq hq2 hb hk hn1
  go_enter Tryz.func81, Tryz.ntmps81
  go_upto_region 1 with fail
  go_quiet (fail)
  go_wp2_with fail
  go_ret
  exact ⟨rfl, _, rfl⟩
end
end Go.Proofs.YtkgieaoahijheaaGreatDoor.Pp
namespace Go.Proofs.YtkgieaoahijheaaGreatDoor.Pp
open Go.RowKit
open Sc (Tok Cells str noTok)
open Pa
set_option maxRecDepth 100000

theorem results_tok {fn : Func} {p : Tmp} (h : fn.results = #[.cell p 63]) (tmps : Array Value) (w : World) (b : Nat) (v0 v1 v2 v3 : Value) (hp : tmps.getD p undef = .pointer (some ⟨b, 0, none⟩)) (c0 : w.cell? ⟨b, 0, none⟩ = some v0) (c1 : w.cell? ⟨b, 1, none⟩ = some v1) (c2 : w.cell? ⟨b, 2, none⟩ = some v2) (c3 : w.cell? ⟨b, 3, none⟩ = some v3) :
    (results fn tmps).run Tryz.prog w = .ok (.agg #[v0, v1, v2, v3]) w := by
  have hp' : tmps[p]?.getD undef = .pointer (some ⟨b, 0, none⟩) := by simpa using hp
  simp only [results, h]
  simp [hp', asAddr]
  go_simp
section
variable {w w' : World} {g n bl ol cl base : Nat} {pv : Option Addr} {m cv : Nat} {T : List Tok} {len : Nat} {r : Rd}
set_option maxHeartbeats 1000000 in
theorem isnum_any (h : PAt w g n bl ol cl base pv m cv T len r) :
    Calls Tryz.prog 97 #[.pointer (some ⟨g, 0, none⟩)] w fun e w' => e = .returned (.bool (decide (kindO (next T r) = 2))) ∧ ∃ q, w' = w.drewN q := by
  have c0 := h.c0
  have c1 := h.c1
  obtain ⟨t0, _, _, _⟩ := h.cells
  have i1 : (r.at_ : Int) < ((n + 1 : Nat) : Int) := by have := h.top; omega
  obtain ⟨kd, hkd⟩ : ∃ kd, kd = kindO (next T r) := ⟨_, rfl⟩
  rw [← hkd] at t0 ⊢
  obtain ⟨b, hb⟩ : ∃ b, b = decide (kd = 2) := ⟨_, rfl⟩
  have he : ((kd : Int) == 2) = b := by
    rw [hb]
    by_cases hk : kd = 2
    · rw [decide_eq_true hk]; exact beq_iff_eq.2 (by omega)
    · rw [decide_eq_false hk]; exact beq_eq_false_iff_ne.2 (by omega)
  rw [← hb]
  obtain ⟨k, hk⟩ : ∃ k, k = r.at_ := ⟨_, rfl⟩
  rw [← hk] at c1 t0 i1
  obtain ⟨n1, hn1⟩ : ∃ n1, n1 = n + 1 := ⟨_, rfl⟩
  rw [← hn1] at c0 i1
  have HE := Lib.hid he
  clear h hb hk hn1 hkd he
  go_enter Tryz.func97, Tryz.ntmps97
  go_upto_region 1 with fail
  go_quiet (fail)
  go_wp2_with fail
  go_ret
  exact ⟨by rw [← HE.out]; rfl, _, rfl⟩
set_option maxHeartbeats 1000000 in
theorem took_any (s : ByteArray) (hs : txt s ≠ []) (h : PAt w g n bl ol cl base pv m cv T len r) :
    Calls Tryz.prog 60 #[.pointer (some ⟨g, 0, none⟩), .string s] w fun e w' => e = .returned (.bool (hasF (txt s) r (next T r)).1) ∧ PAt w' g n bl ol cl base pv m cv T len (hasF (txt s) r (next T r)).2 ∧ Moves g none w w' := by
  have IS := Lib.hid (is_any s h)
  have H := Lib.hid h
  have hfew := h.few
  have htop := h.top
  obtain ⟨o, ho⟩ : ∃ o, o = next T r := ⟨_, rfl⟩
  rw [← ho] at IS ⊢
  unfold hasF
  by_cases he : textO o = txt s
  · rw [decide_eq_true he] at IS
    rw [if_pos he]
    have hin : r.at_ < n := by rw [h.long]; exact next_some (r := r) (T := T) (by rw [← ho]; exact text_some he hs)
    have hw : IntKind.i64.wrap ((r.at_ : Int) + 1) = (r.at_ : Int) + 1 := IntWalk.i64_in _ (by omega)
    clear he ho h
    go_enter Tryz.func60, Tryz.ntmps60
    go_wp2_with fail
    refine IS.out.mono ?_
    rintro e w1 ⟨rfl, q1, hq1⟩
    have H1 := Lib.hid (show PAt w1 g n bl ol cl base pv m cv T len r by rw [hq1]; exact H.out.drewN q1)
    have HM := Lib.hid (show Moves g none w w1 by rw [hq1]; exact (Moves.refl g none w).drewN q1)
    clear hq1
    have c1 := H1.out.c1
    have f1 := H1.out.f1
    go_wp2_with fail
    go_ret
    exact ⟨rfl, H1.out.step hin, HM.out.set 1 _⟩
  · rw [decide_eq_false he] at IS
    rw [if_neg he]
    clear he ho h
    go_enter Tryz.func60, Tryz.ntmps60
    go_wp2_with fail
    refine IS.out.mono ?_
    rintro e w1 ⟨rfl, q1, hq1⟩
    have H1 := Lib.hid (show PAt w1 g n bl ol cl base pv m cv T len r by rw [hq1]; exact H.out.drewN q1)
    have HM := Lib.hid (show Moves g none w w1 by rw [hq1]; exact (Moves.refl g none w).drewN q1)
    clear hq1
    go_wp2_with fail
    go_ret
    exact ⟨rfl, H1.out, HM.out⟩
set_option maxHeartbeats 1000000 in
theorem give_any (h : PAt w g n bl ol cl base pv m cv T len r) :
    Calls Tryz.prog 63 #[.pointer (some ⟨g, 0, none⟩)] w fun e w' => e = gone (tokP T len r.at_).at_ ∧ ∃ q, w' = w.drewN q := by
  have c0 := h.c0
  have c1 := h.c1
  obtain ⟨_, _, _, t3⟩ := h.cells
  have i1 : (r.at_ : Int) < ((n + 1 : Nat) : Int) := by have := h.top; omega
  obtain ⟨p, hp⟩ : ∃ p, p = (tokP T len r.at_).at_ := ⟨_, rfl⟩
  rw [← hp] at t3 ⊢
  obtain ⟨k, hk⟩ : ∃ k, k = r.at_ := ⟨_, rfl⟩
  rw [← hk] at c1 t3 i1
  obtain ⟨n1, hn1⟩ : ∃ n1, n1 = n + 1 := ⟨_, rfl⟩
  rw [← hn1] at c0 i1
  clear h hp hk hn1
  go_enter Tryz.func63, Tryz.ntmps63
  go_upto_region 0 with fail
  go_region_dies
  all_goals exact ⟨rfl, rfl, 1, rfl⟩
set_option maxHeartbeats 1000000 in
theorem take_any (h : PAt w g n bl ol cl base pv m cv T len r) (hin : r.at_ < n) :
    Calls Tryz.prog 83 #[.pointer (some ⟨g, 0, none⟩), .bool true] w fun e w' => e = .returned (.agg #[.int .i64 (kindO (next T r) : Nat), str (textO (next T r)), .int .i64 (valueO (next T r) : Nat), .int .i64 ((tokP T len r.at_).at_ : Nat)]) ∧
      PAt w' g n bl ol cl base pv m cv T len (step1 r) ∧ Moves g none w w' := by
  have hw : IntKind.i64.wrap ((r.at_ : Int) + 1) = (r.at_ : Int) + 1 := IntWalk.i64_in _ (by have := h.few; omega)
  have H := Lib.hid h
  have c0 := h.c0
  have c1 := h.c1
  have f1 := h.f1
  have hgl := h.glt
  have hll := h.llt
  obtain ⟨t0, t1, t2, t3⟩ := h.cells
  have i1 : (r.at_ : Int) < ((n + 1 : Nat) : Int) := by have := h.top; omega
  obtain ⟨q, hq, hq2⟩ := str_open (textO (next T r))
  rw [hq] at t1 ⊢
  obtain ⟨p, hp⟩ : ∃ p, p = (tokP T len r.at_).at_ := ⟨_, rfl⟩
  rw [← hp] at t3 ⊢
  obtain ⟨kd, hkd⟩ : ∃ kd, kd = kindO (next T r) := ⟨_, rfl⟩
  rw [← hkd] at t0 ⊢
  obtain ⟨v, hv⟩ : ∃ v, v = valueO (next T r) := ⟨_, rfl⟩
  rw [← hv] at t2 ⊢
  obtain ⟨k, hk⟩ : ∃ k, k = r.at_ := ⟨_, rfl⟩
  have HK := Lib.hid hk
  rw [← hk] at c1 t0 t1 t2 t3 i1 hw
  obtain ⟨n1, hn1⟩ : ∃ n1, n1 = n + 1 := ⟨_, rfl⟩
  rw [← hn1] at c0 i1
  clear h hp hk hn1 hq hq2 hkd hv
  go_enter Tryz.func83, Tryz.ntmps83
  go_upto_region 3 with fail
  go_region
  all_goals go_wp2_with fail
  obtain ⟨rfl⟩ := HK
  (try simp only [Exit.inBlock, Exit.then])
  have HB := fun (W : World) (o1 o2 : Obj) => (below_drewN (n := 1) (((Below.refl _ W).alloc (Nat.le_refl _) o1).alloc ((Below.refl _ W).alloc (Nat.le_refl _) o1).size o2))
  refine bodyPost_ret (results_tok rfl _ _ w.heap.size (.int .i64 (kd : Nat)) (.string q) (.int .i64 (v : Nat)) (.int .i64 (p : Nat)) rfl ?_ ?_ ?_ ?_) rfl ?_
  · go_simp
  · go_simp
  · go_simp
  · go_simp
  · exact ⟨rfl, (H.out.step hin).below (HB _ _ _), ((Moves.refl g none w).set 1 _).trans (Moves.of_below (HB _ _ _))⟩
end
end Go.Proofs.YtkgieaoahijheaaGreatDoor.Pp
namespace Go.Proofs.YtkgieaoahijheaaGreatDoor.Pp
open Sc (Tok)
open Pa
set_option maxRecDepth 100000

def takeF (may : Bool) (r : Rd) : Unit × Rd := if may = true then ((), step1 r) else ((), fail1 r)
/-- a name in a constraint; a name of none is -1 -/
def varF (r : Rd) (o : Option Tok) : Int × Rd :=
  if namedO o = true then
    match findF (textO o) r.vars with
    | some i => ((i : Int), step1 r)
    | none => (-1, { step1 r with bad := match r.bad with | some p => some p | none => o.map (·.at_) })
  else (0, fail1 r)
def termQ (s : Int) (c : PCon) : Rx PCon := seq (tell fun _ o => kindO o) fun k => seq (factor k) fun v => seq (Pa.look varF) fun x => ret { c with coefs := c.coefs ++ [s * v], vars := c.vars ++ [x] }
def restQ : Nat → PCon → Rx PCon
  | 0, c => ret c
  | n + 1, c => seq (Pa.look (hasF tPlus)) fun b => if b = true then seq (termQ 1 c) (restQ n) else seq (Pa.look (hasF tMinus)) fun d => if d = true then seq (termQ (-1) c) (restQ n) else seq (Pa.look relF) (relate c)
def sumQ (K : Nat) (c : PCon) : Rx PCon := seq (Pa.look (hasF tMinus)) fun b => seq (termQ (if b = true then -1 else 1) c) (restQ K)
def varsQ : Nat → List Int → Rx (List Int)
  | 0, l => ret l
  | n + 1, l => seq (Pa.look varF) fun x => varsQ n (l ++ [x])
def moreQ : Nat → List Int → Rx (List Int)
  | 0, l => ret l
  | n + 1, l => seq (tell fun _ o => namedO o) fun go => if go = true then seq (Pa.look varF) fun x => moreQ n (l ++ [x]) else ret l
def fromQ (K m : Nat) : Rx (List Int) := seq (varsQ m []) (moreQ K)
def restN (m : Nat) : Nat → List Int → Rx (List Int)
  | 0, l => ret l
  | n + 1, l => if l.length < m then seq number fun x => restN m n (l ++ [x]) else seq (Pa.look (hasF tShut)) fun b => if b = true then ret l else seq number fun x => restN m n (l ++ [x])
def numsQ (K m : Nat) : Rx (List Int) := seq (Pa.look (mustF tOpen)) fun _ => restN m K []
def tableQ (K m : Nat) (c : PCon) : Rx PCon := seq (numsQ K m) fun l => ret { c with nums := l }
def conQ (K : Nat) : Rx PCon := seq (Pa.look (hasF tProduct)) fun b1 => if b1 = true then seq (varsQ 3 []) fun l => ret { conOf 2 with vars := l }
  else seq (Pa.look (hasF tIff)) fun b2 => if b2 = true then seq (varsQ 1 []) fun l => sumQ K { conOf 3 with vars := l }
  else seq (Pa.look (hasF tElement)) fun b3 => if b3 = true then seq (varsQ 2 []) fun l => tableQ K 1 { conOf 4 with vars := l }
  else seq (Pa.look (hasF tDifferent)) fun b4 => if b4 = true then seq (fromQ K 2) fun l => ret { conOf 5 with vars := l }
  else seq (Pa.look (hasF tTable)) fun b5 => if b5 = true then seq (fromQ K 1) fun l => tableQ K 0 { conOf 6 with vars := l }
  else sumQ K (conOf 1)
def andsQ (K : Nat) : Nat → List PCon → Rx (List PCon)
  | 0, l => ret l
  | n + 1, l => seq (Pa.look (hasF tAnd)) fun b => if b = true then seq (conQ K) fun c => andsQ K n (l ++ [c]) else ret l
def listQ (K : Nat) : Rx (List PCon) := seq (Pa.look (hasF tTrue)) fun b => if b = true then ret [] else seq (conQ K) fun c => andsQ K K [c]
def spansQ : Nat → List (Int × Int) → Rx (List (Int × Int))
  | 0, l => ret l
  | n + 1, l => seq (tell fun _ o => decide (kindO o = 2) || decide (textO o = tMinus)) fun go => if go = true then seq rangeOne fun d => spansQ n (l ++ [d]) else ret l
def declQ (K : Nat) : Rx PDecl := seq (Pa.look nameF) fun s => seq (addVar s) fun _ => seq (Pa.look (mustF tIn)) fun _ => seq rangeOne fun d => seq (spansQ K [d]) fun dom => ret ⟨s, dom⟩
def declsQ (K : Nat) : Nat → List PDecl → Rx (List PDecl)
  | 0, l => ret l
  | n + 1, l => seq (Pa.look (hasF tComma)) fun b => if b = true then seq (declQ K) fun d => declsQ K n (l ++ [d]) else ret l
def whereQ (K : Nat) (b : Bool) : Rx (List PCon) := if b = true then listQ K else ret []
def blockQ (K : Nat) : Rx PBlock := seq (Pa.look (hasF tForall)) fun all => seq (headR all) fun _ => seq (declQ K) fun d => seq (declsQ K K [d]) fun vs => seq (Pa.look (hasF tWhere)) fun b => seq (whereQ K b) fun cs =>
  seq (Pa.look (mustF tSemi)) fun _ => ret ⟨all, vs, cs⟩
def blocksQ (K : Nat) : Nat → List PBlock → Rx (List PBlock)
  | 0, l => ret l
  | n + 1, l => seq (Pa.look (hasF tGoal)) fun b => if b = true then ret l else seq (blockQ K) fun x => blocksQ K n (l ++ [x])
/-- nothing stands behind -/
def endQ : Rx Unit := fun T r => if r.wrong = true then ((), r) else if r.at_ < T.length then ((), fail1 r) else ((), r)
def modelQ (K : Nat) : Rx PModel := seq (blockQ K) fun b => seq (blocksQ K K [b]) fun bs => seq (listQ K) fun g => seq (Pa.look (mustF tSemi)) fun _ => seq endQ fun _ => ret ⟨bs, g⟩

/- what is wrong stays so; a place is kept; it goes on -/
structure Tame {α : Type} (P : Rx α) : Prop where
  wrong : ∀ T r, r.wrong = true → (P T r).2.wrong = true
  stay : ∀ T r, r.wrong = true → (P T r).2.at_ = r.at_
  bad : ∀ T r, (P T r).2.bad = none → r.bad = none
  up : ∀ T r, r.at_ ≤ (P T r).2.at_
theorem nextW {T : List Tok} {r : Rd} (h : r.wrong = true) : next T r = none := by
  unfold next
  rw [if_pos h]
theorem tame_ret {α : Type} (a : α) : Tame (ret a) := ⟨fun _ _ h => h, fun _ _ _ => rfl, fun _ _ h => h, fun _ _ => Nat.le_refl _⟩
theorem tame_seq {α β : Type} {m : Rx α} {f : α → Rx β} (hm : Tame m) (hf : ∀ a, Tame (f a)) : Tame (seq m f) :=
  ⟨fun T r h => (hf _).wrong T _ (hm.wrong T r h), fun T r h => ((hf _).stay T _ (hm.wrong T r h)).trans (hm.stay T r h), fun T r h => hm.bad T r ((hf _).bad T _ h), fun T r => Nat.le_trans (hm.up T r) ((hf _).up T _)⟩
theorem tame_if {α : Type} {c : Prop} [Decidable c] {A B : Rx α} (hA : Tame A) (hB : Tame B) : Tame (if c then A else B) := by split <;> assumption
theorem tame_tell {α : Type} (f : Rd → Option Tok → α) : Tame (tell f) := ⟨fun _ _ h => h, fun _ _ _ => rfl, fun _ _ h => h, fun _ _ => Nat.le_refl _⟩
theorem tame_look {α : Type} {f : Rd → Option Tok → α × Rd} (h1 : ∀ r, r.wrong = true → (f r none).2.wrong = true ∧ (f r none).2.at_ = r.at_) (h2 : ∀ r o, (f r o).2.bad = none → r.bad = none) (h3 : ∀ r o, r.at_ ≤ (f r o).2.at_) : Tame (Pa.look f) :=
  ⟨fun T r h => by show (f r (next T r)).2.wrong = true; rw [nextW h]; exact (h1 r h).1, fun T r h => by show (f r (next T r)).2.at_ = r.at_; rw [nextW h]; exact (h1 r h).2, fun T r h => h2 r _ h, fun T r => h3 r _⟩
theorem tame_must {s : Txt} (hs : s ≠ []) : Tame (Pa.look (mustF s)) := tame_look (fun r _ => by unfold mustF; rw [if_neg (fun e => hs e.symm)]; exact ⟨rfl, rfl⟩) (fun r o h => by unfold mustF at h; split at h <;> exact h) (fun r o => by unfold mustF; split <;> simp [step1, fail1])
theorem tame_has {s : Txt} (hs : s ≠ []) : Tame (Pa.look (hasF s)) := tame_look (fun r h => by unfold hasF; rw [if_neg (fun e => hs e.symm)]; exact ⟨h, rfl⟩) (fun r o h => by unfold hasF at h; split at h <;> exact h) (fun r o => by unfold hasF; split <;> simp [step1])
theorem tame_name : Tame (Pa.look nameF) := tame_look (fun r _ => ⟨rfl, rfl⟩) (fun r o h => by unfold nameF at h; split at h <;> exact h) (fun r o => by unfold nameF; split <;> simp [step1, fail1])
theorem tame_value : Tame (Pa.look valueF) := tame_look (fun r _ => ⟨rfl, rfl⟩) (fun r o h => by unfold valueF at h; split at h <;> exact h) (fun r o => by unfold valueF; split <;> simp [step1, fail1])
theorem tame_rel : Tame (Pa.look relF) := tame_look (fun r _ => ⟨rfl, rfl⟩) (fun r o h => by unfold relF at h; split at h <;> exact h) (fun r o => by unfold relF; split <;> simp [step1, fail1])
theorem varF_bad {r : Rd} {o : Option Tok} (h : (varF r o).2.bad = none) : r.bad = none := by
  unfold varF at h
  split at h
  · split at h
    · exact h
    · cases hb : r.bad with
      | none => rfl
      | some p => rw [hb] at h; cases h
  · exact h
theorem varF_up {r : Rd} {o : Option Tok} : r.at_ ≤ (varF r o).2.at_ := by
  unfold varF
  split
  · split <;> simp [step1]
  · simp [fail1]
theorem tame_var : Tame (Pa.look varF) := tame_look (fun _ _ => ⟨rfl, rfl⟩) (fun _ _ h => varF_bad h) (fun _ _ => varF_up)
theorem varF_went (r : Rd) (o : Option Tok) : Went r (varF r o).2 := by
  unfold varF
  split
  · split
    · exact ⟨by simp [step1], .inr (by simp [step1])⟩
    · exact ⟨by simp [step1], .inr (by simp [step1])⟩
  · exact ⟨by simp [fail1], .inl rfl⟩
theorem tame_number : Tame number := tame_seq (tame_has (by decide)) fun _ => tame_if (tame_seq tame_value fun _ => tame_ret _) tame_value
theorem tame_factor (k : Nat) : Tame (factor k) := tame_if (tame_seq tame_value fun _ => tame_seq (tame_must (by decide)) fun _ => tame_ret _) (tame_ret _)
theorem tame_term (s : Int) (c : PCon) : Tame (termQ s c) := tame_seq (tame_tell _) fun _ => tame_seq (tame_factor _) fun _ => tame_seq tame_var fun _ => tame_ret _
theorem tame_relate (c : PCon) (i : Option Nat) : Tame (relate c i) := by
  cases i with
  | none => exact tame_ret _
  | some i => exact tame_seq (f := fun k => ret { c with rel := (i : Int), const := k }) tame_number fun _ => tame_ret _
theorem tame_rest : ∀ (n : Nat) (c : PCon), Tame (restQ n c)
  | 0, _ => tame_ret _
  | n + 1, c => tame_seq (tame_has (by decide)) fun _ => tame_if (tame_seq (tame_term _ _) (tame_rest n)) (tame_seq (tame_has (by decide)) fun _ => tame_if (tame_seq (tame_term _ _) (tame_rest n)) (tame_seq tame_rel (tame_relate c)))
theorem tame_sum (K : Nat) (c : PCon) : Tame (sumQ K c) := tame_seq (tame_has (by decide)) fun _ => tame_seq (tame_term _ _) (tame_rest K)
theorem tame_vars : ∀ (n : Nat) (l : List Int), Tame (varsQ n l)
  | 0, _ => tame_ret _
  | n + 1, _ => tame_seq tame_var fun _ => tame_vars n _
theorem tame_more : ∀ (n : Nat) (l : List Int), Tame (moreQ n l)
  | 0, _ => tame_ret _
  | n + 1, _ => tame_seq (tame_tell _) fun _ => tame_if (tame_seq tame_var fun _ => tame_more n _) (tame_ret _)
theorem tame_from (K m : Nat) : Tame (fromQ K m) := tame_seq (tame_vars m _) (tame_more K)
theorem tame_restN (m : Nat) : ∀ (n : Nat) (l : List Int), Tame (restN m n l)
  | 0, _ => tame_ret _
  | n + 1, _ => tame_if (tame_seq tame_number fun _ => tame_restN m n _) (tame_seq (tame_has (by decide)) fun _ => tame_if (tame_ret _) (tame_seq tame_number fun _ => tame_restN m n _))
theorem tame_nums (K m : Nat) : Tame (numsQ K m) := tame_seq (tame_must (by decide)) fun _ => tame_restN m K _
theorem tame_table (K m : Nat) (c : PCon) : Tame (tableQ K m c) := tame_seq (tame_nums K m) fun _ => tame_ret _
theorem tame_con (K : Nat) : Tame (conQ K) := tame_seq (tame_has (by decide)) fun _ => tame_if (tame_seq (tame_vars _ _) fun _ => tame_ret _) (tame_seq (tame_has (by decide)) fun _ => tame_if (tame_seq (tame_vars _ _) fun _ => tame_sum _ _)
  (tame_seq (tame_has (by decide)) fun _ => tame_if (tame_seq (tame_vars _ _) fun _ => tame_table _ _ _) (tame_seq (tame_has (by decide)) fun _ => tame_if (tame_seq (tame_from _ _) fun _ => tame_ret _)
  (tame_seq (tame_has (by decide)) fun _ => tame_if (tame_seq (tame_from _ _) fun _ => tame_table _ _ _) (tame_sum _ _)))))
theorem tame_ands (K : Nat) : ∀ (n : Nat) (l : List PCon), Tame (andsQ K n l)
  | 0, _ => tame_ret _
  | n + 1, _ => tame_seq (tame_has (by decide)) fun _ => tame_if (tame_seq (tame_con K) fun _ => tame_ands K n _) (tame_ret _)
theorem tame_list (K : Nat) : Tame (listQ K) := tame_seq (tame_has (by decide)) fun _ => tame_if (tame_ret _) (tame_seq (tame_con K) fun _ => tame_ands K K _)
theorem tame_high (b : Bool) (lo : Int) : Tame (highR b lo) := tame_if tame_number (tame_ret _)
theorem tame_one : Tame rangeOne := tame_seq tame_number fun _ => tame_seq (tame_has (by decide)) fun _ => tame_seq (tame_high _ _) fun _ => tame_ret _
theorem tame_spans : ∀ (n : Nat) (l : List (Int × Int)), Tame (spansQ n l)
  | 0, _ => tame_ret _
  | n + 1, _ => tame_seq (tame_tell _) fun _ => tame_if (tame_seq tame_one fun _ => tame_spans n _) (tame_ret _)
theorem tame_add (s : Txt) : Tame (addVar s) := tame_look (fun _ h => ⟨h, rfl⟩) (fun _ _ h => h) (fun _ _ => Nat.le_refl _)
theorem tame_decl (K : Nat) : Tame (declQ K) := tame_seq tame_name fun _ => tame_seq (tame_add _) fun _ => tame_seq (tame_must (by decide)) fun _ => tame_seq tame_one fun _ => tame_seq (tame_spans _ _) fun _ => tame_ret _
theorem tame_decls (K : Nat) : ∀ (n : Nat) (l : List PDecl), Tame (declsQ K n l)
  | 0, _ => tame_ret _
  | n + 1, _ => tame_seq (tame_has (by decide)) fun _ => tame_if (tame_seq (tame_decl K) fun _ => tame_decls K n _) (tame_ret _)
theorem tame_where (K : Nat) (b : Bool) : Tame (whereQ K b) := tame_if (tame_list K) (tame_ret _)
theorem tame_head (b : Bool) : Tame (headR b) := tame_if (tame_ret _) (tame_must (by decide))
theorem tame_block (K : Nat) : Tame (blockQ K) := tame_seq (tame_has (by decide)) fun _ => tame_seq (tame_head _) fun _ => tame_seq (tame_decl K) fun _ => tame_seq (tame_decls K K _) fun _ => tame_seq (tame_has (by decide)) fun _ => tame_seq (tame_where K _) fun _ =>
  tame_seq (tame_must (by decide)) fun _ => tame_ret _
theorem tame_blocks (K : Nat) : ∀ (n : Nat) (l : List PBlock), Tame (blocksQ K n l)
  | 0, _ => tame_ret _
  | n + 1, _ => tame_seq (tame_has (by decide)) fun _ => tame_if (tame_ret _) (tame_seq (tame_block K) fun _ => tame_blocks K n _)
theorem tame_end : Tame endQ := by
  refine ⟨fun T r h => ?_, fun T r h => ?_, fun T r h => ?_, fun T r => ?_⟩
  · unfold endQ; rw [if_pos h]; exact h
  · unfold endQ; rw [if_pos h]
  · unfold endQ at h
    split at h
    · exact h
    · split at h <;> exact h
  · unfold endQ
    split
    · exact Nat.le_refl _
    · split <;> exact Nat.le_refl _
theorem tame_model (K : Nat) : Tame (modelQ K) := tame_seq (tame_block K) fun _ => tame_seq (tame_blocks K K _) fun _ => tame_seq (tame_list K) fun _ => tame_seq (tame_must (by decide)) fun _ => tame_seq tame_end fun _ => tame_ret _
/-- what was wrong ahead is what is wrong -/
theorem Tame.after {α : Type} {P : Rx α} (h : Tame P) {T : List Tok} {r : Rd} {x : α × Rd} (hx : x = P T r) (hw : r.wrong = true) : x.2.wrong = true ∧ x.2.at_ = r.at_ := by
  rw [hx]
  exact ⟨h.wrong T r hw, h.stay T r hw⟩
end Go.Proofs.YtkgieaoahijheaaGreatDoor.Pp
