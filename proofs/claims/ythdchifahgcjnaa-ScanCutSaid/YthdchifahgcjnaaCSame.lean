/-
  What Same of the document's answers and own of the law answer, at every list of tokens that can be read.
-/
import Derived.Test.YthdchifahgcjnaaCRef
namespace Go.Proofs.Ythdchifahgcjnaa
open Go.RowKit

def eqTok (t u : Tok) : Bool := decide (t.kind = u.kind) && (decide (t.text = u.text) && (decide (t.value = u.value) && decide (t.at_ = u.at_)))
theorem eqTok_iff {t u : Tok} : eqTok t u = true ↔ t = u := by
  obtain ⟨a, b, c, d⟩ := t
  obtain ⟨a', b', c', d'⟩ := u
  simp [eqTok]
theorem eqTok_self (t : Tok) : eqTok t t = true := eqTok_iff.2 rfl
theorem eqTok_not {t u : Tok} (h : t ≠ u) : eqTok t u = false := by
  cases e : eqTok t u
  · rfl
  · exact absurd (eqTok_iff.1 e) h
theorem nat_beq (a b : Nat) : (((a : Nat) : Int) == ((b : Nat) : Int)) = decide (a = b) := by
  rw [beq_eq_decide, Bool.eq_iff_iff]; simp only [decide_eq_true_eq]; omega
theorem str_beq (a b : List UInt8) : ((⟨a.toArray⟩ : ByteArray).toList == (⟨b.toArray⟩ : ByteArray).toList) = decide (a = b) := by
  rw [ByteArray.toList_mk, ByteArray.toList_mk, Bool.eq_iff_iff]; simp
theorem neq36 (t u : Tok) (W : World) : Sem.run Try.prog (binOp .neq 36 (.agg #[.int .i64 t.kind, str t.text, .int .i64 t.value, .int .i64 t.at_]) (.agg #[.int .i64 u.kind, str u.text, .int .i64 u.value, .int .i64 u.at_])) W = .ok (.bool (!eqTok t u)) W := by
  unfold str eqTok
  rw [← nat_beq, ← nat_beq, ← nat_beq, ← str_beq]
  go_simp
  by_cases h1 : (t.kind : Int) = u.kind <;> by_cases h2 : t.text = u.text <;> by_cases h3 : (t.value : Int) = u.value <;> by_cases h4 : (t.at_ : Int) = u.at_ <;> simp [h1, h2, h3, h4]
theorem neq34 (t u : Tok) (W : World) : Sem.run Try.prog (binOp .neq 34 (.agg #[.int .i64 t.kind, str t.text, .int .i64 t.value, .int .i64 t.at_]) (.agg #[.int .i64 u.kind, str u.text, .int .i64 u.value, .int .i64 u.at_])) W = .ok (.bool (!eqTok t u)) W := by
  unfold str eqTok
  rw [← nat_beq, ← nat_beq, ← nat_beq, ← str_beq]
  go_simp
  by_cases h1 : (t.kind : Int) = u.kind <;> by_cases h2 : t.text = u.text <;> by_cases h3 : (t.value : Int) = u.value <;> by_cases h4 : (t.at_ : Int) = u.at_ <;> simp [h1, h2, h3, h4]

theorem str_is (l : List UInt8) : ∃ q, str l = .string q := ⟨_, rfl⟩
theorem cells_at (w : World) (t : Tok) (g : Nat) (hg : g = w.heap.size) {ty : TypeId} : ∀ j z, (cells4 t)[j]? = some z → (w.alloc (.cells #[.int .i64 t.kind, str t.text, .int .i64 t.value, .int .i64 t.at_] ty)).cell? ((⟨g, 0, none⟩ : Addr).add j) = some z := by
  subst hg
  intro j z hj
  exact cells_four w _ _ _ _ ty j z hj
theorem drewN_on {w wr : World} {m : Nat} (h : ∃ n, wr = w.drewN n) : ∃ n, wr.drewN m = w.drewN n := by
  obtain ⟨n, rfl⟩ := h
  exact ⟨n + m, by rw [World.drewN_drewN]⟩
theorem take_snoc {L : List Tok} {k : Nat} (h : k < L.length) : L.take (k + 1) = L.take k ++ [L.getD k noTok] := by
  rw [List.take_add_one, List.getElem?_eq_getElem h]
  simp [h]

set_option maxRecDepth 100000 in
set_option maxHeartbeats 1000000 in
theorem own_cells (p : Option Addr) (b off c len : Nat) (L : List Tok) (hl : len = L.length) (w : World) (hm : len ≤ 50000) (hp : 0 < len → p = some ⟨b, off, none⟩) (hx : Cells w b off L) :
    Calls Try.prog 9 #[.slice p len c] w fun e w' => ∃ v', e = .returned v' ∧ OwnsT 36 w' w.heap.size v' L ∧ Below w.heap.size w w' := by
  obtain ⟨i0, hi, hz0, hz1, hz2⟩ := info_parts info36
  have HX := Lib.hid hx
  have HN := Lib.hid hl
  have I := Lib.hid (And.intro hi (And.intro hz0 (And.intro hz1 hz2)))
  clear hx hl hi hz0 hz1 hz2
  go_enter Try.func9, Try.ntmps9
  go_wp2
  go_loopw [3, 9] (fun o i wr => ∃ k : Nat, k ≤ len ∧ i = .int .i64 k ∧ OwnsT 36 wr w.heap.size o (L.take k) ∧ Below w.heap.size w wr) (fun _ i _ => len - (intOf i).toNat)
  case atStart => exact ⟨0, by omega, rfl, World.ownsRow_made w #[] 0 (Nat.le_refl _) (by decide) rfl, (Below.refl _ w).alloc (Nat.le_refl _) _⟩
  case round =>
    obtain ⟨k, hk, rfl, hown, hB⟩ := hrel
    obtain ⟨A, eA⟩ : ∃ A, A = L.take k := ⟨_, rfl⟩
    rw [← eA] at hown
    have htl : A.length ≤ 100000 := by rw [eA, List.length_take]; omega
    obtain ⟨po, cp, rfl⟩ := shape hown
    by_cases hlt : k < len
    · obtain rfl := hp (by omega)
      have hlx : k < L.length := by have := HN.out; omega
      obtain ⟨c0, c1, c2, c3⟩ := (cells_below HX.out hB) k hlx
      have hts := take_snoc hlx
      obtain ⟨t, et⟩ : ∃ t, t = L.getD k noTok := ⟨_, rfl⟩
      rw [← et] at c0 c1 c2 c3 hts
      rw [← eA] at hts
      obtain ⟨q, eq⟩ := str_is t.text
      rw [eq] at c1
      have HSTR := Lib.hid eq.symm
      have HTS := Lib.hid hts
      have HO := Lib.hid hown
      have HB := Lib.hid hB
      have HZ := Lib.hid hB.size
      have hi := I.out.1
      have hz0 := I.out.2.1
      have hz1 := I.out.2.2.1
      have hz2 := I.out.2.2.2
      clear et hts hown hB eA hlx eq
      go_wp2_with (at_builtin; refine append_tok rfl _ _ 27 36 i0 Try.underlying27 hi hz0 hz1 hz2 rfl w.heap.size _ _ A ⟨t.kind, t.text, t.value, t.at_⟩ rfl rfl (owns_below HO.out (((Below.refl _ wr).alloc (Nat.le_refl _) _).alloc (by simp) _)) (cells_tok _ _ _ _ _ _ HSTR.out _ (by simp)) htl (by have := HZ.out; simp at *; omega) ?_; intro v' w2 hown hgrow)
      go_roundw
      case rel =>
        refine ⟨k + 1, by omega, by go_num, ?_, ?_⟩
        · rw [HTS.out]
          exact hown
        · exact (((HB.out.alloc HZ.out _).alloc (by have := HZ.out; simp; omega) _)).grown hgrow (by have := HZ.out; simp; omega) (fun j e => (HO.out.lt j e).1)
      case measure => simp [intOf]; omega
    · have ek : A = L := by rw [eA]; exact List.take_of_length_le (by have := HN.out; omega)
      have HO := Lib.hid hown
      have HB := Lib.hid hB
      have HE := Lib.hid ek
      clear hown hB ek eA
      go_wp2
      go_ret
      exact ⟨_, rfl, HE.out ▸ HO.out, HB.out⟩

theorem own_any {w : World} {v : Value} {L : List Tok} (h : Sees w v L) (hm : L.length ≤ 50000) :
    Calls Try.prog 9 #[v] w fun e w' => ∃ v', e = .returned v' ∧ OwnsT 36 w' w.heap.size v' L ∧ Below w.heap.size w w' := by
  obtain ⟨p, b, off, c, rfl, hp, hx⟩ := h
  exact own_cells p b off c _ L rfl w hm hp hx

theorem neq36s {t u : Tok} {q r : ByteArray} (hq : Value.string q = str t.text) (hr : Value.string r = str u.text) (W : World) : Sem.run Try.prog (binOp .neq 36 (.agg #[.int .i64 t.kind, .string q, .int .i64 t.value, .int .i64 t.at_]) (.agg #[.int .i64 u.kind, .string r, .int .i64 u.value, .int .i64 u.at_])) W = .ok (.bool (!eqTok t u)) W := by
  rw [hq, hr]; exact neq36 t u W
theorem neq34s {t u : Tok} {q r : ByteArray} (hq : Value.string q = str t.text) (hr : Value.string r = str u.text) (W : World) : Sem.run Try.prog (binOp .neq 34 (.agg #[.int .i64 t.kind, .string q, .int .i64 t.value, .int .i64 t.at_]) (.agg #[.int .i64 u.kind, .string r, .int .i64 u.value, .int .i64 u.at_])) W = .ok (.bool (!eqTok t u)) W := by
  rw [hq, hr]; exact neq34 t u W
theorem toks_eq {A B : List Tok} (hl : A.length = B.length) (h : ∀ k, k < A.length → A.getD k noTok = B.getD k noTok) : A = B :=
  List.ext_getElem hl fun j h1 h2 => by simpa [h1, h2] using h j h1

set_option maxRecDepth 100000 in
set_option maxHeartbeats 1000000 in
/-- Same, at lists that are the same -/
theorem same_cells (p p' : Option Addr) (b off c b' off' c' len : Nat) (L : List Tok) (hl : len = L.length) (w : World) (hm : len ≤ 50000) (hp : 0 < len → p = some ⟨b, off, none⟩) (hx : Cells w b off L) (hp' : 0 < len → p' = some ⟨b', off', none⟩) (hx' : Cells w b' off' L) :
    Calls Try.prog 8 #[.slice p len c, .slice p' len c'] w fun e w' => e = .returned (.bool true) ∧ ∃ n, w' = w.drewN n := by
  have HX := Lib.hid hx
  have HY := Lib.hid hx'
  have HN := Lib.hid hl
  clear hx hx' hl
  go_enter Try.func8, Try.ntmps8
  go_wp2
  go_loopw [5] (fun i wr => (∃ k : Nat, k ≤ len ∧ i = .int .i64 k) ∧ ∃ n, wr = w.drewN n) (fun i _ => len - (intOf i).toNat)
  case atStart => exact ⟨⟨0, by omega, rfl⟩, 0, rfl⟩
  case round =>
    obtain ⟨⟨k, hk, rfl⟩, hw⟩ := hrel
    have HW := Lib.hid hw
    by_cases hlt : k < len
    · obtain rfl := hp (by omega)
      obtain rfl := hp' (by omega)
      have hlx : k < L.length := by have := HN.out; omega
      have cx : Cells wr b off L := by obtain ⟨n, rfl⟩ := hw; exact HX.out
      have cy : Cells wr b' off' L := by obtain ⟨n, rfl⟩ := hw; exact HY.out
      obtain ⟨a0, a1, a2, a3⟩ := cx k hlx
      obtain ⟨b0, b1, b2, b3⟩ := cy k hlx
      obtain ⟨t, et⟩ : ∃ t, t = L.getD k noTok := ⟨_, rfl⟩
      rw [← et] at a0 a1 a2 a3 b0 b1 b2 b3
      obtain ⟨q, eq⟩ := str_is t.text
      rw [eq] at a1 b1
      have hne := neq36s (t := t) (u := t) eq.symm eq.symm
      rw [eqTok_self] at hne
      clear et hlx cx cy hw eq
      go_wp2
      go_quiet (fail)
      go_wp2_with fail
      go_roundw
      case rel => exact ⟨⟨k + 1, by omega, by go_num⟩, drewN_on HW.out⟩
      case measure => simp [intOf]; omega
    · clear hw
      go_wp2
      go_ret
      exact ⟨rfl, HW.out⟩
theorem same_any {w : World} {a b : Value} {L : List Tok} (ha : Sees w a L) (hb : Sees w b L) (hm : L.length ≤ 50000) :
    Calls Try.prog 8 #[a, b] w fun e w' => e = .returned (.bool true) ∧ ∃ n, w' = w.drewN n := by
  obtain ⟨p, b, off, c, rfl, hp, hx⟩ := ha
  obtain ⟨p', b', off', c', rfl, hp', hx'⟩ := hb
  exact same_cells p p' b off c b' off' c' _ L rfl w hm hp hx hp' hx'
end Go.Proofs.Ythdchifahgcjnaa
