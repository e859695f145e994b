/-
  What Same of the document's answers for lists of spans, and Decls of its answers for models, answer, at any two lists that can be read.
  What Decls of the document's answers for models answers, at any two lists of variables that can be read.
  What a reader of tokens does: steps, numbers and names (the document's answers for texts of models).
-/
import Derived.Test.YtfkakdpppejehaaGreatZYAB
import Derived.Test.YtfkakdpppejehaaGreatZYAF
namespace Go.Proofs.YtfkakdpppejehaaGreat
open Go.RowKit
set_option maxRecDepth 100000

theorem span_at {w : World} {p : Option Addr} {b off len : Nat} {L : List (Int × Int)} (h : SliceOf rSpan 2 w p b off len L) {k : Nat} (hk : k < len) :
    w.cell? ⟨b, off + k * 2, none⟩ = some (.int .i64 (L.getD k (0, 0)).1) ∧ w.cell? ⟨b, off + k * 2 + 1, none⟩ = some (.int .i64 (L.getD k (0, 0)).2) := by
  have hx : k < L.length := by rw [← h.long]; exact hk
  have e : L[k]? = some (L.getD k (0, 0)) := by simp [hx]
  obtain ⟨cs, h1, h2, h3, _⟩ := h.cell k _ e
  subst h3
  exact ⟨h2 0 (by omega), h2 1 (by omega)⟩
theorem SliceOf.drewN {α : Type} {R : Reader α} {n : Nat} {w : World} {p : Option Addr} {b off len : Nat} {L : List α} (hR : R.Stays) (h : SliceOf R n w p b off len L) (m : Nat) : SliceOf R n (w.drewN m) p b off len L :=
  h.below hR ⟨rfl, rfl, rfl, Nat.le_refl _, fun _ _ => rfl⟩
theorem pair_ext {a b c d : Int} (h : (a == c && b == d) = true) : (a, b) = (c, d) := by
  simp at h
  rw [h.1, h.2]
theorem neq52 (a b c d : Int) (W : World) : Sem.run Tryz.prog (binOp .neq 33 (.agg #[.int .i64 a, .int .i64 b]) (.agg #[.int .i64 c, .int .i64 d])) W = .ok (.bool (!decide ((a, b) = (c, d)))) W := by
  go_simp
  by_cases h1 : a = c <;> by_cases h2 : b = d <;> simp [h1, h2]

set_option maxHeartbeats 400000 in
theorem ssame_cells (p q : Option Addr) (b off c b' off' c' len len' : Nat) (xs ys : List (Int × Int)) (w : World) (hx : SliceOf rSpan 2 w p b off len xs) (hy : SliceOf rSpan 2 w q b' off' len' ys) (hm : len ≤ 1000000) (hm' : len' ≤ 1000000) :
    Calls Tryz.prog 38 #[.slice p len c, .slice q len' c'] w fun e w' => e = .returned (.bool (decide (xs = ys))) ∧ ∃ n, w' = w.drewN n := by
  have HX := Lib.hid hx
  have HY := Lib.hid hy
  have hp := hx.at_
  have hq := hy.at_
  by_cases he : len = len'
  · subst he
    obtain ⟨R, hR⟩ : ∃ R, R = decide (xs = ys) := ⟨_, rfl⟩
    rw [← hR]
    have HR := Lib.hid hR
    have HS := Lib.hid (show ∀ j, j < 0 → xs.getD j (0, 0) = ys.getD j (0, 0) from fun j h => by omega)
    clear hx hy hR
    go_enter Tryz.func38, Tryz.ntmps38
    go_wp2
    go_loopw [5] (fun i wr => (∃ k : Nat, k ≤ len ∧ i = .int .i64 k ∧ ∀ j, j < k → xs.getD j (0, 0) = ys.getD j (0, 0)) ∧ ∃ n, wr = w.drewN n) (fun i _ => len - (intOf i).toNat)
    case atStart => exact ⟨⟨0, by omega, rfl, HS.out⟩, 0, rfl⟩
    case round =>
      obtain ⟨⟨k, hk, rfl, hrel⟩, hw⟩ := hrel
      have HW := Lib.hid hw
      have HE := Lib.hid hrel
      clear hw hrel
      by_cases hlt : k < len
      · obtain rfl := hp (by omega)
        obtain rfl := hq (by omega)
        have cx : SliceOf rSpan 2 wr (some ⟨b, off, none⟩) b off len xs := by obtain ⟨n, rfl⟩ := HW.out; exact HX.out.drewN rSpan_stays n
        have cy : SliceOf rSpan 2 wr (some ⟨b', off', none⟩) b' off' len ys := by obtain ⟨n, rfl⟩ := HW.out; exact HY.out.drewN rSpan_stays n
        obtain ⟨a0, a1⟩ := span_at cx hlt
        obtain ⟨b0, b1⟩ := span_at cy hlt
        obtain ⟨⟨x0, x1⟩, ex⟩ : ∃ x, x = xs.getD k (0, 0) := ⟨_, rfl⟩
        obtain ⟨⟨y0, y1⟩, ey⟩ : ∃ y, y = ys.getD k (0, 0) := ⟨_, rfl⟩
        rw [← ex] at a0 a1
        rw [← ey] at b0 b1
        have hne := neq52 x0 x1 y0 y1
        by_cases hxy : (x0, x1) = (y0, y1)
        · have EK := Lib.hid (show ∀ j, j < k + 1 → xs.getD j (0, 0) = ys.getD j (0, 0) from fun j hj => by
            by_cases h : j < k
            · exact HE.out j h
            · obtain rfl : j = k := by omega
              rw [← ex, ← ey, hxy])
          rw [decide_eq_true hxy] at hne
          clear ex ey cx cy hxy
          go_wp2
          go_quiet (fail)
          go_wp2_with fail
          go_roundw
          case rel => exact ⟨⟨k + 1, by omega, by go_num, EK.out⟩, drewN_on HW.out⟩
          case measure => simp [intOf]; omega
        · have key : R = false := by
            rw [HR.out]
            refine decide_eq_false fun h => hxy ?_
            rw [ex, ey, h]
          subst key
          rw [decide_eq_false hxy] at hne
          clear ex ey cx cy hxy
          go_wp2
          go_quiet (fail)
          go_wp2_with fail
          go_ret
          exact ⟨rfl, drewN_on HW.out⟩
      · have key : R = true := by
          rw [HR.out]
          refine decide_eq_true (List.ext_getElem (by rw [← HX.out.long, ← HY.out.long]) fun j h1 h2 => ?_)
          have := HE.out j (by have := HX.out.long; omega)
          simpa [h1, h2] using this
        subst key
        go_wp2
        go_ret
        exact ⟨rfl, HW.out⟩
  · have key : decide (xs = ys) = false := decide_eq_false fun h => he (by rw [hx.long, hy.long, h])
    rw [key]
    have he2 : ((len : Int) == (len' : Int)) = false := beq_eq_false_iff_ne.2 (by omega)
    clear hx hy key hp hq
    go_enter Tryz.func38, Tryz.ntmps38
    go_wp2_with fail
    go_ret
    exact ⟨rfl, 0, rfl⟩
theorem ssame_any {w : World} {u v : Value} {xs ys : List (Int × Int)} (hx : Slc rSpan 2 w u xs) (hy : Slc rSpan 2 w v ys) (hm : xs.length ≤ 1000000) (hm' : ys.length ≤ 1000000) :
    Calls Tryz.prog 38 #[u, v] w fun e w' => e = .returned (.bool (decide (xs = ys))) ∧ ∃ n, w' = w.drewN n := by
  obtain ⟨p, b, off, c, len, rfl, _, hs⟩ := hx
  obtain ⟨q, b', off', c', len', rfl, _, ht⟩ := hy
  exact ssame_cells p q b off c b' off' c' len len' xs ys w hs ht (by rw [hs.long]; exact hm) (by rw [ht.long]; exact hm')
end Go.Proofs.YtfkakdpppejehaaGreat
namespace Go.Proofs.YtfkakdpppejehaaGreat
open Go.RowKit
set_option maxRecDepth 100000

/-- are two lists the same, element by element? -/
def listB {α : Type} (eq : α → α → Bool) : List α → List α → Bool
  | [], [] => true
  | a :: r, b :: s => eq a b && listB eq r s
  | _, _ => false
theorem listB_iff {α : Type} {eq : α → α → Bool} (h : ∀ a b, eq a b = true ↔ a = b) : ∀ xs ys : List α, listB eq xs ys = true ↔ xs = ys
  | [], [] => by simp [listB]
  | a :: r, b :: s => by rw [listB, Bool.and_eq_true, h, listB_iff h r s]; simp
  | [], b :: s => by simp [listB]
  | a :: r, [] => by simp [listB]
theorem listB_len {α : Type} (eq : α → α → Bool) : ∀ xs ys : List α, xs.length ≠ ys.length → listB eq xs ys = false
  | [], [], h => absurd rfl h
  | a :: r, b :: s, h => by rw [listB, listB_len eq r s (fun e => h (by rw [List.length_cons, List.length_cons, e])), Bool.and_false]
  | [], b :: s, _ => rfl
  | a :: r, [], _ => rfl
theorem listB_at {α : Type} (eq : α → α → Bool) {xs ys : List α} {k : Nat} {a b : α} (ha : xs[k]? = some a) (hb : ys[k]? = some b) : listB eq (xs.drop k) (ys.drop k) = (eq a b && listB eq (xs.drop (k + 1)) (ys.drop (k + 1))) := by
  obtain ⟨h1, e1⟩ := List.getElem?_eq_some_iff.1 ha
  obtain ⟨h2, e2⟩ := List.getElem?_eq_some_iff.1 hb
  rw [List.drop_eq_getElem_cons h1, List.drop_eq_getElem_cons h2, listB, e1, e2]
theorem listB_end {α : Type} (eq : α → α → Bool) {xs ys : List α} {k : Nat} (h1 : xs.length ≤ k) (h2 : ys.length ≤ k) : listB eq (xs.drop k) (ys.drop k) = true := by
  rw [List.drop_of_length_le h1, List.drop_of_length_le h2, listB]

def sameD (a b : PDecl) : Bool := decide (a.name = b.name) && decide (a.dom = b.dom)
theorem sameD_iff (a b : PDecl) : sameD a b = true ↔ a = b := by
  obtain ⟨n, d⟩ := a
  obtain ⟨n', d'⟩ := b
  simp [sameD]

theorem decl_at {w : World} {p : Option Addr} {b off len : Nat} {L : List PDecl} (h : SliceOf rDecl 2 w p b off len L) {k : Nat} (hk : k < len) :
    ∃ (d : PDecl) (s : ByteArray) (v : Value), L[k]? = some d ∧ w.cell? ⟨b, off + k * 2, none⟩ = some (.string s) ∧ w.cell? ⟨b, off + k * 2 + 1, none⟩ = some v ∧ txt s = d.name ∧ Slc rSpan 2 w v d.dom := by
  have hx : k < L.length := by rw [← h.long]; exact hk
  have e : L[k]? = some L[k] := List.getElem?_eq_getElem hx
  obtain ⟨cs, h1, h2, s, v, h3, h4, h5⟩ := h.cell k _ e
  subst h3
  exact ⟨_, s, v, e, h2 0 (by omega), h2 1 (by omega), h4, h5⟩
theorem neq_txt (s q : ByteArray) : binOp .neq 9 (.string s) (.string q) = pure (.bool (!decide (txt s = txt q))) := by
  rw [binOp_string_neq]
  congr 2
  rw [Lib.toList_data, Lib.toList_data, Bool.eq_iff_iff]
  simp

set_option maxRecDepth 100000 in
set_option maxHeartbeats 1000000 in
theorem decls_cells (p q : Option Addr) (b off c b' off' c' len len' : Nat) (xs ys : List PDecl) (w : World) (hx : SliceOf rDecl 2 w p b off len xs) (hy : SliceOf rDecl 2 w q b' off' len' ys) (hm : len ≤ 1000000) (hm' : len' ≤ 1000000)
    (sx : ∀ d ∈ xs, d.dom.length ≤ 1000000) (sy : ∀ d ∈ ys, d.dom.length ≤ 1000000) :
    Calls Tryz.prog 17 #[.slice p len c, .slice q len' c'] w fun e w' => e = .returned (.bool (listB sameD xs ys)) ∧ ∃ n, w' = w.drewN n := by
  have HX := Lib.hid hx
  have HY := Lib.hid hy
  have SX := Lib.hid sx
  have SY := Lib.hid sy
  have hp := hx.at_
  have hq := hy.at_
  by_cases he : len = len'
  · subst he
    obtain ⟨R, hR⟩ : ∃ R, R = listB sameD xs ys := ⟨_, rfl⟩
    rw [← hR]
    have HR := Lib.hid hR
    have HS := Lib.hid (show R = listB sameD (xs.drop 0) (ys.drop 0) by rw [hR]; simp)
    clear hx hy hR sx sy
    go_enter Tryz.func17, Tryz.ntmps17
    go_wp2
    go_loopw [5] (fun i wr => (∃ k : Nat, k ≤ len ∧ i = .int .i64 k ∧ R = listB sameD (xs.drop k) (ys.drop k)) ∧ ∃ n, wr = w.drewN n) (fun i _ => len - (intOf i).toNat)
    case atStart => exact ⟨⟨0, by omega, rfl, HS.out⟩, 0, rfl⟩
    case round =>
      obtain ⟨⟨k, hk, rfl, hrel⟩, hw⟩ := hrel
      have HW := Lib.hid hw
      clear hw
      by_cases hlt : k < len
      · obtain rfl := hp (by omega)
        obtain rfl := hq (by omega)
        have cx : SliceOf rDecl 2 wr (some ⟨b, off, none⟩) b off len xs := by obtain ⟨n, rfl⟩ := HW.out; exact HX.out.drewN rDecl_stays n
        have cy : SliceOf rDecl 2 wr (some ⟨b', off', none⟩) b' off' len ys := by obtain ⟨n, rfl⟩ := HW.out; exact HY.out.drewN rDecl_stays n
        obtain ⟨d, s, v, ex, a0, a1, hs, hv⟩ := decl_at cx hlt
        obtain ⟨d', s', v', ey, b0, b1, hs', hv'⟩ := decl_at cy hlt
        have hstep := hrel.trans (listB_at sameD ex ey)
        have hne := neq_txt s s'
        rw [hs, hs'] at hne
        have hsd : sameD d d' = (decide (d.name = d'.name) && decide (d.dom = d'.dom)) := rfl
        have SM := Lib.hid (fun m => ssame_any (Slc.below rSpan_stays hv (w' := wr.drewN m) ⟨rfl, rfl, rfl, Nat.le_refl _, fun _ _ => rfl⟩) (Slc.below rSpan_stays hv' (w' := wr.drewN m) ⟨rfl, rfl, rfl, Nat.le_refl _, fun _ _ => rfl⟩) (SX.out d (List.mem_of_getElem? ex)) (SY.out d' (List.mem_of_getElem? ey)))
        clear ex ey cx cy hrel hv hv' hs hs'
        by_cases hn : d.name = d'.name
        · rw [decide_eq_true hn] at hne hsd
          by_cases hd : d.dom = d'.dom
          · rw [decide_eq_true hd] at hsd SM
            rw [hsd] at hstep
            have NX := Lib.hid (hstep.trans (Bool.true_and _))
            clear hstep hsd hn hd
            go_wp2
            go_quiet ((go_at_call 38; exact Calls.quiet_of (SM.out _)))
            go_wp2_with fail
            go_roundw
            case rel => exact ⟨⟨k + 1, by omega, by go_num, NX.out⟩, drewN_on HW.out⟩
            case measure => simp [intOf]; omega
          · rw [decide_eq_false hd] at hsd SM
            rw [hsd] at hstep
            have key : R = false := hstep.trans (Bool.false_and _)
            subst key
            clear hstep hsd hn hd
            go_wp2
            go_quiet ((go_at_call 38; exact Calls.quiet_of (SM.out _)))
            go_wp2_with fail
            go_ret
            exact ⟨rfl, drewN_on HW.out⟩
        · rw [decide_eq_false hn] at hne hsd
          rw [hsd, Bool.false_and] at hstep
          have key : R = false := hstep.trans (Bool.false_and _)
          subst key
          clear hstep hsd hn
          go_wp2
          go_quiet (fail)
          go_wp2_with fail
          go_ret
          exact ⟨rfl, drewN_on HW.out⟩
      · have key : R = true := by
          rw [hrel]
          exact listB_end sameD (by rw [← HX.out.long]; omega) (by rw [← HY.out.long]; omega)
        subst key
        clear hrel
        go_wp2
        go_ret
        exact ⟨rfl, HW.out⟩
  · have key : listB sameD xs ys = false := listB_len _ _ _ (by rw [← hx.long, ← hy.long]; exact he)
    rw [key]
    have he2 : ((len : Int) == (len' : Int)) = false := beq_eq_false_iff_ne.2 (by omega)
    clear hx hy key hp hq sx sy
    go_enter Tryz.func17, Tryz.ntmps17
    go_wp2_with fail
    go_ret
    exact ⟨rfl, 0, rfl⟩
theorem decls_any {w : World} {u v : Value} {xs ys : List PDecl} (hx : Slc rDecl 2 w u xs) (hy : Slc rDecl 2 w v ys) (hm : xs.length ≤ 1000000) (hm' : ys.length ≤ 1000000)
    (sx : ∀ d ∈ xs, d.dom.length ≤ 1000000) (sy : ∀ d ∈ ys, d.dom.length ≤ 1000000) :
    Calls Tryz.prog 17 #[u, v] w fun e w' => e = .returned (.bool (listB sameD xs ys)) ∧ ∃ n, w' = w.drewN n := by
  obtain ⟨p, b, off, c, len, rfl, _, hs⟩ := hx
  obtain ⟨q, b', off', c', len', rfl, _, ht⟩ := hy
  exact decls_cells p q b off c b' off' c' len len' xs ys w hs ht (by rw [hs.long]; exact hm) (by rw [ht.long]; exact hm') sx sy
end Go.Proofs.YtfkakdpppejehaaGreat
namespace Go.Proofs.YtfkakdpppejehaaGreat.Pa
open Go.RowKit
open Sc (Tok Cells str noTok)
set_option maxRecDepth 100000

theorem str_open (l : List UInt8) : ∃ q : ByteArray, str l = .string q ∧ txt q = l := ⟨⟨l.toArray⟩, rfl, by simp [txt]⟩
theorem cell_off {u : World} {p a : Addr} {v y : Value} (h : u.cell? p = some v) (hne : p.block ≠ a.block) : (u.setCell a y).cell? p = some v := by
  rw [World.cell?_of_block (w := u) (Below.heap_setCell u a y p.block hne)]
  exact h
section
variable {w : World} {g n : Nat} {pl : Option Addr} {bl ol cl : Nat} {pv : Option Addr} {bv ov m cv : Nat} {T : List Tok} {r : Rd}
theorem RdAt.rest (h : RdAt w g n pl bl ol cl pv bv ov m cv T r) (i : Nat) (x : Value) : Cells (w.setCell ⟨g, i, none⟩ x) bl ol T ∧ NmAt (w.setCell ⟨g, i, none⟩ x) pv bv ov m r.vars := by
  refine ⟨fun k hk => ?_, h.nm.long, h.nm.at_, fun k hk => ?_⟩
  · have hn := h.tg (by rw [h.long]; omega)
    obtain ⟨a, b, c, d⟩ := h.tk k hk
    exact ⟨cell_off a hn, cell_off b hn, cell_off c hn, cell_off d hn⟩
  · exact cell_off (h.nm.cell k hk) (h.ng (by omega))
theorem RdAt.kinds (h : RdAt w g n pl bl ol cl pv bv ov m cv T r) (i : Nat) (x : Value) : (∃ cs, (w.setCell ⟨g, i, none⟩ x).heap[g]? = some (.cells cs 58)) ∧ (0 < m → ∃ cs, (w.setCell ⟨g, i, none⟩ x).heap[bv]? = some (.cells cs 9)) ∧ (0 < n → ∃ cs, (w.setCell ⟨g, i, none⟩ x).heap[bl]? = some (.cells cs 63)) := by
  refine ⟨?_, fun h0 => ?_, fun h0 => ?_⟩
  · obtain ⟨cs, e⟩ := h.ty
    refine ⟨cs.setIfInBounds i x, ?_⟩
    simp only [World.setCell, Array.getElem?_modify, e]
    rfl
  · obtain ⟨cs, e⟩ := h.nt h0
    exact ⟨cs, (Below.heap_setCell w ⟨g, i, none⟩ x bv (h.ng h0)).trans e⟩
  · obtain ⟨cs, e⟩ := h.tt h0
    exact ⟨cs, (Below.heap_setCell w ⟨g, i, none⟩ x bl (h.tg h0)).trans e⟩
theorem RdAt.step (h : RdAt w g n pl bl ol cl pv bv ov m cv T r) (hk : r.at_ < n) : RdAt (w.setCell ⟨g, 1, none⟩ (.int .i64 ((r.at_ : Int) + 1))) g n pl bl ol cl pv bv ov m cv T (step1 r) := by
  obtain ⟨h1, h2⟩ := h.rest 1 (.int .i64 ((r.at_ : Int) + 1))
  have c0 := h.c0
  have c1 := h.c1
  have c2 := h.c2
  have c3 := h.c3
  have c4 := h.c4
  have f1 := h.f1
  have f2 := h.f2
  have f3 := h.f3
  have f4 := h.f4
  exact ⟨by go_simp, by go_simp; simp [step1], by go_simp; simp [step1], by go_simp, by go_simp; simp [step1], by go_simp, by go_simp, by go_simp, by go_simp, h.long, h.few, by show r.at_ + 1 ≤ n; omega, h.tl, h1, h.tg, h2, h.ng, (h.kinds _ _).1, (h.kinds _ _).2.1, (h.kinds _ _).2.2⟩
theorem RdAt.fail (h : RdAt w g n pl bl ol cl pv bv ov m cv T r) : RdAt (w.setCell ⟨g, 2, none⟩ (.bool true)) g n pl bl ol cl pv bv ov m cv T (fail1 r) := by
  obtain ⟨h1, h2⟩ := h.rest 2 (.bool true)
  have c0 := h.c0
  have c1 := h.c1
  have c2 := h.c2
  have c3 := h.c3
  have c4 := h.c4
  have f1 := h.f1
  have f2 := h.f2
  have f3 := h.f3
  have f4 := h.f4
  exact ⟨by go_simp, by go_simp; simp [fail1], by go_simp; simp [fail1], by go_simp, by go_simp; simp [fail1], by go_simp, by go_simp, by go_simp, by go_simp, h.long, h.few, h.top, h.tl, h1, h.tg, h2, h.ng, (h.kinds _ _).1, (h.kinds _ _).2.1, (h.kinds _ _).2.2⟩
theorem RdAt.in_ (h : RdAt w g n pl bl ol cl pv bv ov m cv T r) (hn : next T r ≠ none) : r.at_ < n := by rw [h.long]; exact next_some hn

set_option maxHeartbeats 1000000 in
theorem must_any (s : ByteArray) (hs : txt s ≠ []) (h : RdAt w g n pl bl ol cl pv bv ov m cv T r) :
    Calls Tryz.prog 14 #[.pointer (some ⟨g, 0, none⟩), .string s] w fun e w' => e = .returned (.tuple #[]) ∧ RdAt w' g n pl bl ol cl pv bv ov m cv T (mustF (txt s) r (next T r)).2 ∧ Moves g none w w' := by
  have HT := Lib.hid (text_any h)
  have H := Lib.hid h
  obtain ⟨o, ho⟩ : ∃ o, o = next T r := ⟨_, rfl⟩
  rw [← ho] at HT ⊢
  obtain ⟨q, hq, hq2⟩ := str_open (textO o)
  rw [hq] at HT
  have hne := neq_txt q s
  rw [hq2] at hne
  have HO := Lib.hid ho
  have HS := Lib.hid hs
  clear h hq hq2 ho hs
  go_enter Tryz.func14, Tryz.ntmps14
  go_wp2_with fail
  refine HT.out.mono ?_
  rintro e w1 ⟨rfl, q1, hq1⟩
  have H1 := Lib.hid (show RdAt w1 g n pl bl ol cl pv bv ov m cv T r by rw [hq1]; exact H.out.drewN q1)
  have HM := Lib.hid (show Moves g none w w1 by rw [hq1]; exact (Moves.refl g none w).drewN q1)
  clear hq1
  have c1 := H1.out.c1
  have f1 := H1.out.f1
  have c2 := H1.out.c2
  have f2 := H1.out.f2
  have hfew := H1.out.few
  have htop := H1.out.top
  by_cases he : textO o = txt s
  · rw [decide_eq_true he] at hne
    have hin : r.at_ < n := H.out.in_ (by rw [← HO.out]; exact text_some he HS.out)
    have HE := Lib.hid he
    have hw : IntKind.i64.wrap ((r.at_ : Int) + 1) = (r.at_ : Int) + 1 := IntWalk.i64_in _ (by omega)
    clear he
    go_wp2_with fail
    go_end0
    refine ⟨rfl, ?_, HM.out.set 1 _⟩
    unfold mustF
    rw [if_pos HE.out]
    exact H1.out.step hin
  · rw [decide_eq_false he] at hne
    have HE := Lib.hid he
    clear he
    go_wp2_with fail
    refine bodyPost_ret (results_none rfl _ _ _) rfl ?_
    refine ⟨rfl, ?_, HM.out.set 2 _⟩
    unfold mustF
    rw [if_neg HE.out]
    exact H1.out.fail

set_option maxHeartbeats 1000000 in
theorem has_any (s : ByteArray) (hs : txt s ≠ []) (h : RdAt w g n pl bl ol cl pv bv ov m cv T r) :
    Calls Tryz.prog 28 #[.pointer (some ⟨g, 0, none⟩), .string s] w fun e w' => e = .returned (.bool (hasF (txt s) r (next T r)).1) ∧ RdAt w' g n pl bl ol cl pv bv ov m cv T (hasF (txt s) r (next T r)).2 ∧ Moves g none w w' := by
  have HT := Lib.hid (text_any h)
  have H := Lib.hid h
  have hfew := h.few
  have htop := h.top
  obtain ⟨o, ho⟩ : ∃ o, o = next T r := ⟨_, rfl⟩
  rw [← ho] at HT ⊢
  obtain ⟨q, hq, hq2⟩ := str_open (textO o)
  rw [hq] at HT
  have hne := neq_txt q s
  rw [hq2] at hne
  have HO := Lib.hid ho
  clear h hq hq2 ho
  unfold hasF
  by_cases he : textO o = txt s
  · rw [decide_eq_true he] at hne
    rw [if_pos he]
    have hin : r.at_ < n := H.out.in_ (by rw [← HO.out]; exact text_some he hs)
    have hw : IntKind.i64.wrap ((r.at_ : Int) + 1) = (r.at_ : Int) + 1 := IntWalk.i64_in _ (by omega)
    clear he
    go_enter Tryz.func28, Tryz.ntmps28
    go_wp2_with fail
    refine HT.out.mono ?_
    rintro e w1 ⟨rfl, q1, hq1⟩
    have H1 := Lib.hid (show RdAt w1 g n pl bl ol cl pv bv ov m cv T r by rw [hq1]; exact H.out.drewN q1)
    have HM := Lib.hid (show Moves g none w w1 by rw [hq1]; exact (Moves.refl g none w).drewN q1)
    clear hq1
    have c1 := H1.out.c1
    have f1 := H1.out.f1
    have c2 := H1.out.c2
    have f2 := H1.out.f2
    go_wp2_with fail
    go_ret
    exact ⟨rfl, H1.out.step hin, HM.out.set 1 _⟩
  · rw [decide_eq_false he] at hne
    rw [if_neg he]
    clear he
    go_enter Tryz.func28, Tryz.ntmps28
    go_wp2_with fail
    refine HT.out.mono ?_
    rintro e w1 ⟨rfl, q1, hq1⟩
    have H1 := Lib.hid (show RdAt w1 g n pl bl ol cl pv bv ov m cv T r by rw [hq1]; exact H.out.drewN q1)
    have HM := Lib.hid (show Moves g none w w1 by rw [hq1]; exact (Moves.refl g none w).drewN q1)
    clear hq1
    have c1 := H1.out.c1
    have f1 := H1.out.f1
    have c2 := H1.out.c2
    have f2 := H1.out.f2
    go_wp2_with fail
    go_ret
    exact ⟨rfl, H1.out, HM.out⟩

set_option maxHeartbeats 1000000 in
theorem value_any (h : RdAt w g n pl bl ol cl pv bv ov m cv T r) :
    Calls Tryz.prog 58 #[.pointer (some ⟨g, 0, none⟩)] w fun e w' => e = .returned (.int .i64 (valueF r (next T r)).1) ∧ RdAt w' g n pl bl ol cl pv bv ov m cv T (valueF r (next T r)).2 ∧ Moves g none w w' := by
  have HT := Lib.hid (kind_any h)
  have H := Lib.hid h
  have hfew := h.few
  have htop := h.top
  have htl := h.tl
  obtain ⟨o, ho⟩ : ∃ o, o = next T r := ⟨_, rfl⟩
  rw [← ho] at HT ⊢
  have HO := Lib.hid ho
  obtain ⟨k, hk⟩ : ∃ k, k = kindO o := ⟨_, rfl⟩
  rw [← hk] at HT
  have HK := Lib.hid hk
  unfold valueF
  rw [← hk]
  clear h ho hk
  by_cases he : k = 2
  · rw [if_pos he]
    have hnn : next T r ≠ none := by
      intro e
      have h1 := HK.out
      rw [HO.out, e] at h1
      rw [h1] at he
      simp [kindO] at he
    have hin : r.at_ < n := H.out.in_ hnn
    have hw : IntKind.i64.wrap ((r.at_ : Int) + 1) = (r.at_ : Int) + 1 := IntWalk.i64_in _ (by omega)
    have ho2 : o = some (T.getD r.at_ noTok) := by
      rw [HO.out]
      refine next_in ?_ (by rw [← H.out.long]; exact hin)
      cases hwr : r.wrong
      · rfl
      · exact absurd (next_wrong hwr) hnn
    have hv : (valueO o : Int) = ((T.getD r.at_ noTok).value : Int) := by rw [ho2]; rfl
    rw [hv]
    obtain ⟨v, hve⟩ : ∃ v, v = (T.getD r.at_ noTok).value := ⟨_, rfl⟩
    rw [← hve]
    have HVE := Lib.hid hve
    have hpl := Lib.hid (htl (by omega))
    have e4 : (r.at_ : Int) + 1 - 1 = (r.at_ : Int) := by omega
    have hw2 : IntKind.i64.wrap (r.at_ : Int) = (r.at_ : Int) := IntWalk.i64_in _ (by omega)
    have i1 : (r.at_ : Int) < (n : Int) := by omega
    have i0 : (0 : Int) ≤ (r.at_ : Int) := by omega
    have hin2 : r.at_ < T.length := by rw [← H.out.long]; exact hin
    subst he
    clear ho2 hv hve hnn
    go_enter Tryz.func58, Tryz.ntmps58
    go_wp2_with fail
    refine HT.out.mono ?_
    rintro e w1 ⟨rfl, q1, hq1⟩
    have H1 := Lib.hid (show RdAt w1 g n pl bl ol cl pv bv ov m cv T r by rw [hq1]; exact H.out.drewN q1)
    have HM := Lib.hid (show Moves g none w w1 by rw [hq1]; exact (Moves.refl g none w).drewN q1)
    clear hq1
    have c1 := H1.out.c1
    have f1 := H1.out.f1
    have c2 := H1.out.c2
    have f2 := H1.out.f2
    have HS2 := Lib.hid (H1.out.step hin)
    go_upto_region 5 with fail
    obtain ⟨w2, hw3⟩ : ∃ w2, w2 = w1.setCell ⟨g, 1, none⟩ (.int .i64 ((r.at_ : Int) + 1)) := ⟨_, rfl⟩
    have HM2 := Lib.hid (show Moves g none w w2 by rw [hw3]; exact HM.out.set 1 _)
    rw [← hw3] at HS2 ⊢
    clear hw3 c1 f1 c2 f2
    obtain ⟨_, _, t2, _⟩ := HS2.out.tk r.at_ hin2
    rw [← HVE.out] at t2
    have b0 := HS2.out.c0
    rw [hpl.out] at b0
    have b1 : w2.cell? ⟨g, 1, none⟩ = some (.int .i64 ((r.at_ : Int) + 1)) := HS2.out.c1
    go_quiet (fail)
    go_wp2_with fail
    go_ret
    exact ⟨rfl, HS2.out.drewN _, HM2.out.drewN _⟩
  · have e2 : ((k : Int) == 2) = false := beq_eq_false_iff_ne.2 (by omega)
    rw [if_neg he]
    clear he
    go_enter Tryz.func58, Tryz.ntmps58
    go_wp2_with fail
    refine HT.out.mono ?_
    rintro e w1 ⟨rfl, q1, hq1⟩
    have H1 := Lib.hid (show RdAt w1 g n pl bl ol cl pv bv ov m cv T r by rw [hq1]; exact H.out.drewN q1)
    have HM := Lib.hid (show Moves g none w w1 by rw [hq1]; exact (Moves.refl g none w).drewN q1)
    clear hq1
    have c1 := H1.out.c1
    have f1 := H1.out.f1
    have c2 := H1.out.c2
    have f2 := H1.out.f2
    go_wp2_with fail
    go_ret
    exact ⟨rfl, H1.out.fail, HM.out.set 2 _⟩

theorem if_app {α : Type} {c : Prop} [Decidable c] (P Q : Rx α) (T : List Tok) (r : Rd) : (if c then P else Q) T r = if c then P T r else Q T r := by split <;> rfl
theorem number_eq (T : List Tok) (r : Rd) : number T r = if (hasF tMinus r (next T r)).1 = true then (-(valueF (hasF tMinus r (next T r)).2 (next T (hasF tMinus r (next T r)).2)).1, (valueF (hasF tMinus r (next T r)).2 (next T (hasF tMinus r (next T r)).2)).2) else valueF (hasF tMinus r (next T r)).2 (next T (hasF tMinus r (next T r)).2) := by
  show (if (hasF tMinus r (next T r)).1 = true then seq (look valueF) (fun v => ret (-v)) else look valueF) T (hasF tMinus r (next T r)).2 = _
  rw [if_app]
  rfl

set_option maxHeartbeats 1000000 in
theorem number_any (h : RdAt w g n pl bl ol cl pv bv ov m cv T r) (hv : ∀ t ∈ T, t.value ≤ 2000000000000) :
    Calls Tryz.prog 31 #[.pointer (some ⟨g, 0, none⟩)] w fun e w' => e = .returned (.int .i64 (number T r).1) ∧ RdAt w' g n pl bl ol cl pv bv ov m cv T (number T r).2 ∧ Moves g none w w' := by
  have HT := Lib.hid (has_any ⟨#[45]⟩ (by decide) h)
  have ht : txt ⟨#[45]⟩ = tMinus := rfl
  rw [ht] at HT
  rw [number_eq]
  obtain ⟨b, hb⟩ : ∃ b, b = (hasF tMinus r (next T r)).1 := ⟨_, rfl⟩
  obtain ⟨r1, hr1⟩ : ∃ r1, r1 = (hasF tMinus r (next T r)).2 := ⟨_, rfl⟩
  rw [← hb, ← hr1] at HT ⊢
  clear h ht hb hr1
  cases b
  · rw [if_neg (by simp)]
    go_enter Tryz.func31, Tryz.ntmps31
    go_wp2_with fail
    refine HT.out.mono ?_
    rintro e w1 ⟨rfl, h1, hm1⟩
    have HV := Lib.hid (value_any h1)
    have HM := Lib.hid hm1
    clear h1 hm1
    go_wp2_with fail
    refine HV.out.mono ?_
    rintro e w2 ⟨rfl, h2, hm2⟩
    have H2 := Lib.hid h2
    have HM2 := Lib.hid (HM.out.trans hm2)
    clear h2 hm2
    go_wp2_with fail
    go_ret
    exact ⟨rfl, H2.out, HM2.out⟩
  · rw [if_pos rfl]
    obtain ⟨z, hz⟩ : ∃ z, z = (valueF r1 (next T r1)).1 := ⟨_, rfl⟩
    have hz1 : -2000000000000 ≤ z ∧ z ≤ 2000000000000 := by
      rw [hz]
      unfold valueF
      split
      · cases ho : next T r1 with
        | none => simp [valueO]
        | some t =>
          have := hv t (next_mem ho)
          simp only [valueO]
          omega
      · simp
    have HZ := Lib.hid hz
    rw [← hz]
    have hw : IntKind.i64.wrap (-z) = -z := IntWalk.i64_in _ (by omega)
    clear hz
    go_enter Tryz.func31, Tryz.ntmps31
    go_wp2_with fail
    refine HT.out.mono ?_
    rintro e w1 ⟨rfl, h1, hm1⟩
    have HV := Lib.hid (value_any h1)
    rw [← HZ.out] at HV
    have HM := Lib.hid hm1
    clear h1 hm1
    go_wp2_with fail
    refine HV.out.mono ?_
    rintro e w2 ⟨rfl, h2, hm2⟩
    have H2 := Lib.hid h2
    have HM2 := Lib.hid (HM.out.trans hm2)
    clear h2 hm2
    go_wp2_with fail
    go_ret
    exact ⟨by go_num, H2.out, HM2.out⟩
end
end Go.Proofs.YtfkakdpppejehaaGreat.Pa
