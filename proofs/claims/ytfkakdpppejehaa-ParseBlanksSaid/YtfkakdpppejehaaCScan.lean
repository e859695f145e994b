/-
  What Scan of the program answers, at every text.
-/
import Derived.Test.YtfkakdpppejehaaCMem
namespace Go.Proofs.Ytfkakdpppejehaa.Sc
open Go.RowKit

/-- what a call of Scan hands back: the tokens (their type's number is t) in memory from base on, or the place and what is wrong -/
def ScanPost (t : TypeId) (base : Nat) (R : Res) (e : Ending) (w' : World) : Prop :=
  match R with
  | .ok L => ∃ v, e = .returned (.tuple #[v, .int .i64 0, .int .i64 0]) ∧ OwnsT t w' base v L
  | .bad p x => e = .returned (.tuple #[.slice none 0 0, .int .i64 (p : Nat), .int .i64 (x : Nat)])

theorem scan_long (s : ByteArray) (w : World) (hm : 4000 < s.size) :
    Calls Try.prog 11 #[.string s] w fun e w' => e = .returned (.tuple #[.slice none 0 0, .int .i64 0, .int .i64 5]) ∧ w' = w := by
  have h1 : (4000 : Int) < ((s.size : Nat) : Int) := by omega
  go_enter Try.func11, Try.ntmps11
  go_wp2_with fail
  go_ret3
  exact ⟨rfl, rfl⟩

theorem cut_from (s : ByteArray) (k : Nat) (h : k ≤ s.size) (W : World) : (Instr.slice 9 (.string s) (some (.int .i64 (k : Int))) none none).run Try.prog W = .ok (.string (s.extract k s.size)) W := by
  rw [run_slice_string_from_if W 9 s .i64 (k : Int) Try.underlying9, if_pos ⟨by omega, by omega⟩]
  rfl
theorem txt_from (s : ByteArray) (k : Nat) : txt (s.extract k s.size) = (txt s).drop k := by
  show (s.extract k s.size).data.toList = _
  rw [Lib.extract_data, List.take_of_length_le (by rw [List.length_drop, ← txt_size]; exact Nat.le_refl _)]
theorem size_from (s : ByteArray) (k : Nat) : (s.extract k s.size).size = s.size - k := by
  rw [txt_size, txt_from, List.length_drop, ← txt_size]

/-- how far a loop over a text has come: A is told, place k is next -/
structure Going (l : List UInt8) (k : Nat) (A : List Tok) : Prop where
  rest : scanL 0 l = (scanL k (l.drop k)).app A
  few : A.length ≤ k
theorem going_start (l : List UInt8) : Going l 0 [] := ⟨by simp [Res.app_nil], Nat.le_refl _⟩
theorem going_skip {l : List UInt8} {k : Nat} {A : List Tok} {c : UInt8} (h : Going l k A) (e : l.drop k = c :: l.drop (k + 1)) (hs : between c = true) : Going l (k + 1) A :=
  ⟨by rw [h.rest, e, scan_skip k (by rw [step, if_pos hs])], by have := h.few; omega⟩
theorem going_tok {l : List UInt8} {k : Nat} {A : List Tok} {c : UInt8} {kd m v : Nat} (h : Going l k A) (e : l.drop k = c :: l.drop (k + 1)) (hs : between c = false) (hf : first c (l.drop (k + 1)) = .tok kd m v) :
    Going l (k + m) (A ++ [⟨kd, (l.drop k).take m, v, k⟩]) ∧ 0 < m ∧ k + m ≤ l.length := by
  have hz := first_size hf
  have hl : (l.drop k).length = (c :: l.drop (k + 1)).length := by rw [← e]
  rw [← hl, List.length_drop] at hz
  refine ⟨⟨?_, ?_⟩, hz.1, by omega⟩
  · rw [h.rest]
    have := scan_tok (c := c) (r := l.drop (k + 1)) (k := kd) (m := m) (v := v) k (by rw [step, if_neg (by simp [hs]), hf])
    rw [← e] at this
    rw [this, Res.app_cons, List.drop_drop]
  · have := h.few
    rw [List.length_append, List.length_singleton]
    omega
theorem going_bad {l : List UInt8} {k : Nat} {A : List Tok} {c : UInt8} {x : Nat} (h : Going l k A) (e : l.drop k = c :: l.drop (k + 1)) (hs : between c = false) (hf : first c (l.drop (k + 1)) = .bad x) : scanL 0 l = .bad k x := by
  rw [h.rest, e, scan_bad k (by rw [step, if_neg (by simp [hs]), hf])]
  rfl
theorem going_end {l : List UInt8} {k : Nat} {A : List Tok} (h : Going l k A) (hk : l.length ≤ k) : scanL 0 l = .ok A := by
  rw [h.rest, List.drop_of_length_le hk, scan_nil]
  simp [Res.app]
theorem ans_tok (s : ByteArray) (k m v : Nat) : ans s (.tok k m v) = .tuple #[.agg #[.int .i64 (k : Nat), .string (s.extract 0 m), .int .i64 (v : Nat), .int .i64 0], .int .i64 0] := rfl
theorem ans_bad (s : ByteArray) (x : Nat) : ans s (.bad x) = .tuple #[.agg #[.int .i64 0, .string ⟨#[]⟩, .int .i64 0, .int .i64 0], .int .i64 (x : Nat)] := rfl
theorem size_cut {t : ByteArray} {m : Nat} (h : m ≤ t.size) : (t.extract 0 m).size = m := by
  rw [txt_size] at h
  rw [txt_size]
  show ((t.extract 0 m).data.toList).length = m
  rw [Lib.extract_data, List.drop_zero, List.length_take]
  have e : (txt t).length = t.data.toList.length := rfl
  omega
theorem cells_tok (w : World) (kd v k : Nat) (q : ByteArray) (tx : List UInt8) (h : Value.string q = str tx) (g : Nat) (hg : g = w.heap.size) {ty : TypeId} : ∀ j z, (cells4 ⟨kd, tx, v, k⟩)[j]? = some z → (w.alloc (.cells #[.int .i64 kd, .string q, .int .i64 v, .int .i64 k] ty)).cell? ((⟨g, 0, none⟩ : Addr).add j) = some z := by
  subst hg
  intro j z hj
  refine cells_four w _ _ _ _ ty j z ?_
  rw [h]
  exact hj
theorem first_small {c : UInt8} {r : List UInt8} {k m v : Nat} (h : first c r = .tok k m v) : v ≤ mostV := by
  unfold first at h
  split at h
  · cases h; omega
  · split at h
    · split at h
      · cases h; assumption
      · cases h
    · split at h
      · cases h
      · cases h; omega
theorem first_not_skip {c : UInt8} {r : List UInt8} : first c r ≠ .skip := by
  unfold first
  split
  · simp
  · split
    · split <;> simp
    · split <;> simp

set_option maxRecDepth 100000 in
set_option maxHeartbeats 2000000 in
theorem scan_any (s : ByteArray) (w : World) (hm : s.size ≤ 4000) :
    Calls Try.prog 11 #[.string s] w fun e w' => ScanPost 54 w.heap.size (scanL 0 (txt s)) e w' ∧ Below w.heap.size w w' := by
  obtain ⟨i0, hi, hz0, hz1, hz2⟩ := info_parts info34
  obtain ⟨n, hn⟩ : ∃ n, n = s.size := ⟨_, rfl⟩
  have hsz : ((s.size : Nat) : Int) = (n : Int) := by rw [hn]
  have HM := Lib.hid hm
  rw [← hn] at hm
  have HN := Lib.hid hn
  have HS := Lib.hid (going_start (txt s))
  have HL := Lib.hid (show n = (txt s).length by rw [hn, txt_size])
  have I := Lib.hid (And.intro hi (And.intro hz0 (And.intro hz1 hz2)))
  clear hi hz0 hz1 hz2 hn
  go_enter Try.func11, Try.ntmps11
  go_wp2_with fail
  go_loopw [5, 6] (fun l i wr => ∃ k : Nat, k ≤ n ∧ i = .int .i64 k ∧ ∃ A, Going (txt s) k A ∧ OwnsT 54 wr w.heap.size l A ∧ Below w.heap.size w wr) (fun _ i _ => n - (intOf i).toNat)
  case atStart => exact ⟨0, by omega, rfl, [], HS.out, World.ownsRow_nil _ _ _ _, Below.refl _ _⟩
  case round =>
    obtain ⟨k, hk, rfl, A, hgo, hown, hB⟩ := hrel
    obtain ⟨p, cp, rfl⟩ := shape hown
    have HG := Lib.hid hgo
    have HO := Lib.hid hown
    have HB := Lib.hid hB
    have hfew := hgo.few
    clear hgo hown hB
    by_cases hlt : k < n
    · obtain ⟨c, ec, ed⟩ := drop_at (l := txt s) (k := k) (by rw [← HL.out]; exact hlt)
      have hx := idx ec
      have hb := between_any c
      cases eb : between c
      · rw [eb] at hb
        have BT := Lib.hid hb
        have hcut := cut_from s k (by rw [← HN.out]; omega)
        have ht : txt (s.extract k s.size) = c :: (txt s).drop (k + 1) := by rw [txt_from, ed]
        have F := Lib.hid (fun W => first_any (s.extract k s.size) c ((txt s).drop (k + 1)) W (by rw [size_from, ← HN.out]; omega) ht)
        obtain ⟨t, et⟩ : ∃ t, t = s.extract k s.size := ⟨_, rfl⟩
        rw [← et] at hcut F ht
        have HT := Lib.hid ht
        clear hb ec et ht
        cases ef : first c ((txt s).drop (k + 1)) with
        | skip => exact absurd ef first_not_skip
        | bad x =>
          have hr := going_bad HG.out ed eb ef
          rw [ef] at F
          have hx5 : x = 2 ∨ x = 5 := scan_err hr
          have HX := Lib.hid hr
          clear hr ed eb ef
          rw [ans_bad] at F
          go_wp2_with (go_at_call 20; refine (BT.out _).mono ?_; rintro e w' ⟨rfl, rfl⟩)
          refine (F.out _).mono ?_
          rintro e w1 ⟨rfl, hB1⟩
          have HB1 := Lib.hid (HB.out.trans (hB1.mono HB.out.size))
          clear hB1
          have hx0 : ((x : Int) == 0) = false := beq_eq_false_iff_ne.2 (by omega)
          go_wp2_with fail
          go_ret3
          refine ⟨?_, HB1.out.alloc HB1.out.size _⟩
          rw [HX.out]
          exact rfl
        | tok kd m v =>
          obtain ⟨hr, hm0, hml⟩ := going_tok HG.out ed eb ef
          rw [ef] at F
          rw [← HL.out] at hml
          have hstr : Value.string (t.extract 0 m) = str (((txt s).drop k).take m) := by rw [str_cut, HT.out, ed]; rfl
          have hlen : (t.extract 0 m).size = m := size_cut (by rw [txt_size, HT.out, ← ed, List.length_drop, ← HL.out]; omega)
          have hv : v < 4611686018427387904 := by
            have := first_small ef
            unfold mostV at this
            omega
          rw [ans_tok] at F
          obtain ⟨q, eq⟩ : ∃ q, q = t.extract 0 m := ⟨_, rfl⟩
          rw [← eq] at F hstr hlen
          have HX := Lib.hid hr
          have HSTR := Lib.hid hstr
          have hlen2 : ((q.size : Nat) : Int) = (m : Int) := by rw [hlen]
          clear hr ed eb ef eq hstr hlen
          go_wp2_with (go_at_call 20; refine (BT.out _).mono ?_; rintro e w' ⟨rfl, rfl⟩)
          refine (F.out _).mono ?_
          rintro e w1 ⟨rfl, hB1⟩
          have HO1 := Lib.hid (owns_below HO.out hB1)
          have HB1 := Lib.hid (HB.out.trans (hB1.mono HB.out.size))
          clear hB1
          have hi := I.out.1
          have hz0 := I.out.2.1
          have hz1 := I.out.2.2.1
          have hz2 := I.out.2.2.2
          have HZ := Lib.hid (HB1.out.size)
          go_wp2_with (at_builtin; refine append_tok rfl _ _ 51 54 i0 Try.underlying51 hi hz0 hz1 hz2 rfl w.heap.size _ (w1.heap.size + 1) A ⟨kd, ((txt s).drop k).take m, v, k⟩ rfl rfl ((HO1.out.alloc _).alloc _) (cells_tok _ _ _ _ _ _ HSTR.out (w1.heap.size + 1) (by simp)) (by omega) (by have := HZ.out; simp; omega) ?_; intro v' w2 hown hgrow; have hq : w2.cell? ⟨w1.heap.size, 1, none⟩ = some (.string q) := cell_grown hgrow (fun e => Nat.lt_irrefl _ (HO1.out.lt _ e).2) (by go_simp))
          go_roundw
          case rel =>
            refine ⟨k + m, hml, by go_num, _, HX.out, hown, ?_⟩
            exact ((HB1.out.alloc HZ.out _).alloc (by have := HZ.out; simp; omega) _).grown hgrow (by have := HZ.out; simp; omega) (fun j e => (HO1.out.lt j e).1)
          case measure => simp [intOf]; omega
      · rw [eb] at hb
        have BT := Lib.hid hb
        have HX := Lib.hid (going_skip HG.out ed eb)
        clear hb eb ec ed
        go_wp2_with (go_at_call 20; refine (BT.out _).mono ?_; rintro e w' ⟨rfl, rfl⟩)
        go_roundw
        case rel => exact ⟨k + 1, by omega, by go_num, A, HX.out, HO.out, HB.out⟩
        case measure => simp [intOf]; omega
    · have hr := going_end HG.out (by rw [← HL.out]; omega)
      have HR := Lib.hid hr
      clear hr
      go_wp2
      go_ret3
      refine ⟨?_, HB.out⟩
      rw [HR.out]
      exact ⟨_, rfl, HO.out⟩
end Go.Proofs.Ytfkakdpppejehaa.Sc
