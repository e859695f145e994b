/-
  What Decls of the document's answers for models answers, at any two lists of variables that can be read.
-/
import Derived.Test.YtfkakdpppejehaaMSpan
namespace Go.Proofs.Ytfkakdpppejehaa
open Go.RowKit
set_option maxRecDepth 100000

/-- are two lists the same, element by element? -/
def listB {α : Type} (eq : α → α → Bool) : List α → List α → Bool
  | [], [] => true
  | a :: r, b :: s => eq a b && listB eq r s
  | _, _ => false
theorem listB_iff {α : Type} {eq : α → α → Bool} (h : ∀ a b, eq a b = true ↔ a = b) : ∀ xs ys : List α, listB eq xs ys = true ↔ xs = ys
  | [], [] => by simp [listB]
  | a :: r, b :: s => by rw [listB, Bool.and_eq_true, h, listB_iff h r s]; simp
  | [], b :: s => by simp [listB]
  | a :: r, [] => by simp [listB]
theorem listB_len {α : Type} (eq : α → α → Bool) : ∀ xs ys : List α, xs.length ≠ ys.length → listB eq xs ys = false
  | [], [], h => absurd rfl h
  | a :: r, b :: s, h => by rw [listB, listB_len eq r s (fun e => h (by rw [List.length_cons, List.length_cons, e])), Bool.and_false]
  | [], b :: s, _ => rfl
  | a :: r, [], _ => rfl
theorem listB_at {α : Type} (eq : α → α → Bool) {xs ys : List α} {k : Nat} {a b : α} (ha : xs[k]? = some a) (hb : ys[k]? = some b) : listB eq (xs.drop k) (ys.drop k) = (eq a b && listB eq (xs.drop (k + 1)) (ys.drop (k + 1))) := by
  obtain ⟨h1, e1⟩ := List.getElem?_eq_some_iff.1 ha
  obtain ⟨h2, e2⟩ := List.getElem?_eq_some_iff.1 hb
  rw [List.drop_eq_getElem_cons h1, List.drop_eq_getElem_cons h2, listB, e1, e2]
theorem listB_end {α : Type} (eq : α → α → Bool) {xs ys : List α} {k : Nat} (h1 : xs.length ≤ k) (h2 : ys.length ≤ k) : listB eq (xs.drop k) (ys.drop k) = true := by
  rw [List.drop_of_length_le h1, List.drop_of_length_le h2, listB]

def sameD (a b : PDecl) : Bool := decide (a.name = b.name) && decide (a.dom = b.dom)
theorem sameD_iff (a b : PDecl) : sameD a b = true ↔ a = b := by
  obtain ⟨n, d⟩ := a
  obtain ⟨n', d'⟩ := b
  simp [sameD]

theorem decl_at {w : World} {p : Option Addr} {b off len : Nat} {L : List PDecl} (h : SliceOf rDecl 2 w p b off len L) {k : Nat} (hk : k < len) :
    ∃ (d : PDecl) (s : ByteArray) (v : Value), L[k]? = some d ∧ w.cell? ⟨b, off + k * 2, none⟩ = some (.string s) ∧ w.cell? ⟨b, off + k * 2 + 1, none⟩ = some v ∧ txt s = d.name ∧ Slc rSpan 2 w v d.dom := by
  have hx : k < L.length := by rw [← h.long]; exact hk
  have e : L[k]? = some L[k] := List.getElem?_eq_getElem hx
  obtain ⟨cs, h1, h2, s, v, h3, h4, h5⟩ := h.cell k _ e
  subst h3
  exact ⟨_, s, v, e, h2 0 (by omega), h2 1 (by omega), h4, h5⟩
theorem neq_txt (s q : ByteArray) : binOp .neq 9 (.string s) (.string q) = pure (.bool (!decide (txt s = txt q))) := by
  rw [binOp_string_neq]
  congr 2
  rw [Lib.toList_data, Lib.toList_data, Bool.eq_iff_iff]
  simp

set_option maxRecDepth 100000 in
set_option maxHeartbeats 1000000 in
theorem decls_cells (p q : Option Addr) (b off c b' off' c' len len' : Nat) (xs ys : List PDecl) (w : World) (hx : SliceOf rDecl 2 w p b off len xs) (hy : SliceOf rDecl 2 w q b' off' len' ys) (hm : len ≤ 1000000) (hm' : len' ≤ 1000000)
    (sx : ∀ d ∈ xs, d.dom.length ≤ 1000000) (sy : ∀ d ∈ ys, d.dom.length ≤ 1000000) :
    Calls Try.prog 18 #[.slice p len c, .slice q len' c'] w fun e w' => e = .returned (.bool (listB sameD xs ys)) ∧ ∃ n, w' = w.drewN n := by
  have HX := Lib.hid hx
  have HY := Lib.hid hy
  have SX := Lib.hid sx
  have SY := Lib.hid sy
  have hp := hx.at_
  have hq := hy.at_
  by_cases he : len = len'
  · subst he
    obtain ⟨R, hR⟩ : ∃ R, R = listB sameD xs ys := ⟨_, rfl⟩
    rw [← hR]
    have HR := Lib.hid hR
    have HS := Lib.hid (show R = listB sameD (xs.drop 0) (ys.drop 0) by rw [hR]; simp)
    clear hx hy hR sx sy
    go_enter Try.func18, Try.ntmps18
    go_wp2
    go_loopw [5] (fun i wr => (∃ k : Nat, k ≤ len ∧ i = .int .i64 k ∧ R = listB sameD (xs.drop k) (ys.drop k)) ∧ ∃ n, wr = w.drewN n) (fun i _ => len - (intOf i).toNat)
    case atStart => exact ⟨⟨0, by omega, rfl, HS.out⟩, 0, rfl⟩
    case round =>
      obtain ⟨⟨k, hk, rfl, hrel⟩, hw⟩ := hrel
      have HW := Lib.hid hw
      clear hw
      by_cases hlt : k < len
      · obtain rfl := hp (by omega)
        obtain rfl := hq (by omega)
        have cx : SliceOf rDecl 2 wr (some ⟨b, off, none⟩) b off len xs := by obtain ⟨n, rfl⟩ := HW.out; exact HX.out.drewN rDecl_stays n
        have cy : SliceOf rDecl 2 wr (some ⟨b', off', none⟩) b' off' len ys := by obtain ⟨n, rfl⟩ := HW.out; exact HY.out.drewN rDecl_stays n
        obtain ⟨d, s, v, ex, a0, a1, hs, hv⟩ := decl_at cx hlt
        obtain ⟨d', s', v', ey, b0, b1, hs', hv'⟩ := decl_at cy hlt
        have hstep := hrel.trans (listB_at sameD ex ey)
        have hne := neq_txt s s'
        rw [hs, hs'] at hne
        have hsd : sameD d d' = (decide (d.name = d'.name) && decide (d.dom = d'.dom)) := rfl
        have SM := Lib.hid (fun m => ssame_any (Slc.below rSpan_stays hv (w' := wr.drewN m) ⟨rfl, rfl, rfl, Nat.le_refl _, fun _ _ => rfl⟩) (Slc.below rSpan_stays hv' (w' := wr.drewN m) ⟨rfl, rfl, rfl, Nat.le_refl _, fun _ _ => rfl⟩) (SX.out d (List.mem_of_getElem? ex)) (SY.out d' (List.mem_of_getElem? ey)))
        clear ex ey cx cy hrel hv hv' hs hs'
        by_cases hn : d.name = d'.name
        · rw [decide_eq_true hn] at hne hsd
          by_cases hd : d.dom = d'.dom
          · rw [decide_eq_true hd] at hsd SM
            rw [hsd] at hstep
            have NX := Lib.hid (hstep.trans (Bool.true_and _))
            clear hstep hsd hn hd
            go_wp2
            go_quiet ((go_at_call 30; exact Calls.quiet_of (SM.out _)))
            go_wp2_with fail
            go_roundw
            case rel => exact ⟨⟨k + 1, by omega, by go_num, NX.out⟩, drewN_on HW.out⟩
            case measure => simp [intOf]; omega
          · rw [decide_eq_false hd] at hsd SM
            rw [hsd] at hstep
            have key : R = false := hstep.trans (Bool.false_and _)
            subst key
            clear hstep hsd hn hd
            go_wp2
            go_quiet ((go_at_call 30; exact Calls.quiet_of (SM.out _)))
            go_wp2_with fail
            go_ret
            exact ⟨rfl, drewN_on HW.out⟩
        · rw [decide_eq_false hn] at hne hsd
          rw [hsd, Bool.false_and] at hstep
          have key : R = false := hstep.trans (Bool.false_and _)
          subst key
          clear hstep hsd hn
          go_wp2
          go_quiet (fail)
          go_wp2_with fail
          go_ret
          exact ⟨rfl, drewN_on HW.out⟩
      · have key : R = true := by
          rw [hrel]
          exact listB_end sameD (by rw [← HX.out.long]; omega) (by rw [← HY.out.long]; omega)
        subst key
        clear hrel
        go_wp2
        go_ret
        exact ⟨rfl, HW.out⟩
  · have key : listB sameD xs ys = false := listB_len _ _ _ (by rw [← hx.long, ← hy.long]; exact he)
    rw [key]
    have he2 : ((len : Int) == (len' : Int)) = false := beq_eq_false_iff_ne.2 (by omega)
    clear hx hy key hp hq sx sy
    go_enter Try.func18, Try.ntmps18
    go_wp2_with fail
    go_ret
    exact ⟨rfl, 0, rfl⟩
theorem decls_any {w : World} {u v : Value} {xs ys : List PDecl} (hx : Slc rDecl 2 w u xs) (hy : Slc rDecl 2 w v ys) (hm : xs.length ≤ 1000000) (hm' : ys.length ≤ 1000000)
    (sx : ∀ d ∈ xs, d.dom.length ≤ 1000000) (sy : ∀ d ∈ ys, d.dom.length ≤ 1000000) :
    Calls Try.prog 18 #[u, v] w fun e w' => e = .returned (.bool (listB sameD xs ys)) ∧ ∃ n, w' = w.drewN n := by
  obtain ⟨p, b, off, c, len, rfl, _, hs⟩ := hx
  obtain ⟨q, b', off', c', len', rfl, _, ht⟩ := hy
  exact decls_cells p q b off c b' off' c' len len' xs ys w hs ht (by rw [hs.long]; exact hm) (by rw [ht.long]; exact hm') sx sy
end Go.Proofs.Ytfkakdpppejehaa
