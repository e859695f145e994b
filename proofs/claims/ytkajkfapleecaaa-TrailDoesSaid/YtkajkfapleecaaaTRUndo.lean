/-
  The document's trail: Undo, and Changed.
-/
import Derived.Test.YtkajkfapleecaaaTRef
namespace Go.Proofs.Ytkajkfapleecaaa
open Go.RowKit

theorem rundo_none {M : Nat} {w : World} {F : List Nat} {r : Nat} {σ : Tr Int} (h : RAt M w F r σ) (ht : σ.top = 0) :
    Calls Try.prog 12 #[.pointer (some ⟨r, 0, none⟩)] w fun e w' => e = .returned (.int .i64 9) ∧ w = w' := by
  obtain ⟨bc, bs, bo, cap, vs, G, hP, rfl⟩ := h
  have c2 := hP.c2
  rw [ht] at c2
  have HP := Lib.hid hP
  clear hP ht
  go_enter Try.func12, Try.ntmps12
  go_wp2_with fail
  go_ret
  exact ⟨rfl, rfl⟩

/-- the first k cells have been turned back -/
def backCur (σ : Tr Int) (k : Nat) : Nat → Int := fun j => if j < k then σ.old σ.top j else σ.cur j
def backSt (σ : Tr Int) (k : Nat) : Nat → Int := fun j => if j < k then σ.undo.st j else σ.st j
theorem backCur_next (σ : Tr Int) (k : Nat) : setAt (backCur σ k) k (σ.old σ.top k) = backCur σ (k + 1) := by
  funext j
  unfold setAt backCur
  by_cases e : j = k
  · rw [if_pos e, if_pos (by omega), e]
  · rw [if_neg e]
    by_cases h : j < k
    · rw [if_pos h, if_pos (by omega)]
    · rw [if_neg h, if_neg (by omega)]
theorem backSt_next (σ : Tr Int) (k : Nat) : bump (backCur σ k) (backSt σ k) k (σ.old σ.top k) = backSt σ (k + 1) := by
  funext j
  unfold bump
  have e1 : backCur σ k k = σ.cur k := by unfold backCur; rw [if_neg (by omega)]
  rw [e1]
  unfold backSt
  by_cases e : j = k
  · subst e
    rw [if_neg (show ¬ j < j by omega), if_pos (show j < j + 1 by omega)]
    show (if j = j ∧ ¬ σ.cur j = σ.old σ.top j then σ.st j + 1 else σ.st j) = (if ¬ σ.cur j = σ.old σ.top j then σ.st j + 1 else σ.st j)
    by_cases h : σ.cur j = σ.old σ.top j
    · rw [if_neg (fun h' => h'.2 h), if_neg (fun h' => h' h)]
    · rw [if_pos ⟨rfl, h⟩, if_pos h]
  · rw [if_neg (fun h => e h.1)]
    by_cases h : j < k
    · rw [if_pos h, if_pos (by omega)]
    · rw [if_neg h, if_neg (by omega)]

def RBack (σ : Tr Int) (bc bs k : Nat) (w wr : World) : Prop := NumsAt σ.n wr bc (backCur σ k) ∧ NumsAt σ.n wr bs (backSt σ k) ∧ Turn [bc, bs] w wr

set_option maxRecDepth 100000 in
set_option maxHeartbeats 1600000 in
theorem rundo_any {M : Nat} {w : World} {F : List Nat} {r : Nat} {σ : Tr Int} (h : RAt M w F r σ) (ht0 : 0 < σ.top) (hM : M ≤ 1000000) (hst : ∀ j, 0 ≤ σ.st j ∧ σ.st j ≤ 1000000) :
    Calls Try.prog 12 #[.pointer (some ⟨r, 0, none⟩)] w (RDoes M w F r σ.undo (.returned (.int .i64 0))) := by
  obtain ⟨bc, bs, bo, cap, vs, G, hP, rfl⟩ := h
  obtain ⟨v, hv, hrow⟩ := hP.rows σ.top (Nat.le_refl _)
  obtain ⟨p, vb, vo, vc, rfl, hp, hcell⟩ := hrow.shape
  have hGb : 0 < σ.n → vb ∈ G := by
    intro hn
    rcases hrow with ⟨_, _, _, hx⟩ | ⟨b', off', c', e1, hb, _⟩
    · have := rowOf_length σ.n (σ.old σ.top)
      rw [hx] at this
      simp at this
      omega
    · have := hp (by rw [rowOf_length]; exact hn)
      rw [this] at e1
      injection e1 with e1
      injection e1 with e1
      injection e1 with e1
      rw [e1]
      exact hb
  rw [rowOf_length] at hp hcell
  have hoc := hP.oc (Nat.le_refl σ.top)
  rw [hv] at hoc
  have c0 := hP.c0
  have c1 := hP.c1
  have c2 := hP.c2
  have hroom := hP.room
  have hmost := hP.most
  obtain ⟨n, hn⟩ : ∃ n, n = σ.n := ⟨_, rfl⟩
  obtain ⟨t, ht⟩ : ∃ t, t = σ.top := ⟨_, rfl⟩
  rw [← hn] at c0 c1 hp hcell hGb
  rw [rowOf_length, ← hn, ← ht] at hoc
  rw [← ht] at c2 hroom hmost ht0
  have n0 : n ≤ 1000 := by rw [hn]; exact hP.small
  have t0 : (0 : Int) ≤ (t : Int) := by omega
  have t1 : (t : Int) ≤ 1000000 := by omega
  have t2 : ((t : Int) == 0) = false := by simp; omega
  have t3 : (t : Int) < ((t + 1 : Nat) : Int) := by omega
  have t4 : (t : Int) ≤ (cap : Int) := by omega
  have HP := Lib.hid hP
  have HN := Lib.hid hn
  have HT := Lib.hid ht
  have HS := Lib.hid hst
  have HCE := Lib.hid hcell
  have HGB := Lib.hid hGb
  have HR := Lib.hid hroom
  have HV := Lib.hid hv
  have HC0 := Lib.hid c0
  have HC1 := Lib.hid c1
  have HC2 := Lib.hid c2
  have HOC := Lib.hid hoc
  have HT0 := Lib.hid ht0
  have HB0 := Lib.hid (show RBack σ bc bs 0 w w from ⟨hP.cur, hP.st, Turn.refl _ _⟩)
  clear hP hn ht hst hcell hGb hroom hmost hrow hv c0 c1 hM hoc ht0
  go_enter Try.func12, Try.ntmps12
  go_wp2_with fail
  go_loopw [4] (fun i wr => ∃ k : Nat, k ≤ n ∧ i = .int .i64 k ∧ RBack σ bc bs k w wr) (fun i _ => n - (intOf i).toNat)
  case atStart => exact ⟨0, by omega, rfl, HB0.out⟩
  case round =>
    obtain ⟨k, hk, rfl, hcur, hst, hturn⟩ := hrel
    have HCU := Lib.hid hcur
    have HSU := Lib.hid hst
    have HTU := Lib.hid hturn
    clear hcur hst hturn HB0
    have hr : r ∉ [bc, bs] := by simp [HP.out.apart.1.1, HP.out.apart.1.2.1]
    have d0 := HTU.out.cell HC0.out hr
    have d1 := HTU.out.cell HC1.out hr
    have d2 := HTU.out.cell HC2.out hr
    have d3 := HTU.out.cell HOC.out (by simp [HP.out.apart.1.2.2.2.2.1.symm, HP.out.apart.1.2.2.2.2.2.symm])
    have f2 : wr.frozen? ⟨r, 2, none⟩ = false := by
      rw [World.frozen?_of_block (w := w) (HTU.out.block r (HP.out.ltall r (by simp)) hr)]
      exact HP.out.f 2
    by_cases hlt : k < n
    · obtain rfl := hp (by omega)
      have hG := HP.out.apart.2 vb (HGB.out (by have := HN.out; omega))
      have d4 := HTU.out.cell (HCE.out k hlt) (by simp [hG.2.1, hG.2.2])
      rw [rowOf_get _ _ (by have := HN.out; omega)] at d4
      have k1 : (k : Int) < (n : Int) := by omega
      have HK : Hid (k < σ.n) := by rw [← HN.out]; exact hlt
      have hput := rput_any (x := σ.old σ.top k) (by rw [← HN.out]; exact d0) (by rw [← HN.out]; exact d1) HCU.out HSU.out HP.out.apart.1.1 HP.out.apart.1.2.1 HP.out.apart.1.2.2.2.1 HK.out (by unfold backSt; rw [if_neg (by omega)]; exact HS.out k)
      have HPU := Lib.hid hput
      generalize hx : σ.old σ.top k = x at d4 HPU
      have HX := Lib.hid hx
      clear hG hput hx hp
      go_wp2_with fail
      go_at_call 30
      refine HPU.out.mono ?_
      rintro e w1 ⟨rfl, e1, e2, e3⟩
      rw [← HX.out, backCur_next] at e1
      rw [← HX.out, backSt_next] at e2
      have HF := Lib.hid (show RBack σ bc bs (k + 1) w w1 from ⟨e1, e2, HTU.out.trans e3 (fun y hy => .inl hy)⟩)
      clear e1 e2 e3
      go_wp2_with fail
      go_roundw
      case rel => exact ⟨k + 1, by omega, by go_num, HF.out⟩
      case measure => simp [intOf]; omega
    · obtain rfl : k = n := by omega
      clear hlt hp
      have hcur : NumsAt σ.n wr bc (σ.old σ.top) := HCU.out.congr (fun i hi => by unfold backCur; rw [if_pos (by have := HN.out; omega)])
      have hst : NumsAt σ.n wr bs σ.undo.st := HSU.out.congr (fun i hi => by unfold backSt; rw [if_pos (by have := HN.out; omega)])
      have HCU := Lib.hid hcur
      have HSU := Lib.hid hst
      clear hcur hst
      have hput := HP.out.put HTU.out (by simp) HCU.out HSU.out
      have HPU := Lib.hid hput
      clear hput
      have hf : RParts M (wr.setCell ⟨r, 2, none⟩ (.slice (some ⟨bo, 0, none⟩) t cap)) r bc bs bo cap (vs.take t) G σ.undo := by
        have ha := HPU.out.apart
        have hT2 : Turn [r] wr (wr.setCell ⟨r, 2, none⟩ (.slice (some ⟨bo, 0, none⟩) t cap)) := (Turn.refl _ _).setCell (.inl (by simp)) _
        have ht : t = σ.top := HT.out
        have ht0 := HT0.out
        exact {
          small := HPU.out.small
          most := by have := HPU.out.most; show σ.top - 1 < M; have e : σ.top < M := this; omega
          head := by
            rw [heap_setCell_same HPU.out.head]
            have e : t = σ.top - 1 + 1 := by omega
            rw [e]
            rfl
          cur := HPU.out.cur.turn hT2 (by simpa using ha.1.1.symm)
          st := HPU.out.st.turn hT2 (by simpa using ha.1.2.1.symm)
          len := by
            rw [List.length_take, HPU.out.len]
            show min t (σ.top + 1) = σ.top - 1 + 1
            omega
          olds := by
            obtain ⟨oo, h1, h2, h3⟩ := HPU.out.olds
            refine ⟨oo, ?_, h2, ?_⟩
            · rw [hT2.block bo (Array.getElem?_eq_some_iff.1 h1).1 (by simpa using ha.1.2.2.1.symm)]
              exact h1
            · rw [← h3, List.take_take]
              show oo.toList.take (σ.top - 1 + 1) = oo.toList.take (min t (σ.top + 1))
              have e : σ.top - 1 + 1 = min t (σ.top + 1) := by omega
              rw [e]
          room := by
            have := HPU.out.room
            show σ.top - 1 + 1 ≤ cap ∧ cap ≤ maxLen
            have e : σ.top + 1 ≤ cap := this.1
            exact ⟨by omega, this.2⟩
          rows := fun j hj => by
            have hj' : j ≤ σ.top - 1 := hj
            obtain ⟨v, h1, h2⟩ := HPU.out.rows j (by show j ≤ σ.top; omega)
            exact ⟨v, by rw [List.getElem?_take, if_pos (by omega)]; exact h1, h2.turn hT2 (fun b hb => by simpa using (ha.2 b hb).1)⟩
          apart := ha
          lts := fun b hb => Nat.lt_of_lt_of_le (HPU.out.lts b hb) hT2.size }
      have HF := Lib.hid hf
      clear hf
      go_wp2
      go_ret
      exact ⟨rfl, _, ⟨bc, bs, bo, cap, _, G, HF.out, rfl⟩, (HTU.out.sub (S' := r :: bc :: bs :: bo :: G) (by simp)).setCell (.inl (by simp)) _, fun b hb => .inl hb⟩

theorem below_drew {B : Nat} {a w : World} (h : Below B a w) (n : Nat) : Below B a (w.drewN n) := ⟨h.os, h.tape, h.output, h.size, h.block⟩
theorem news_one (w : World) (u : Value) (t : TypeId) (H : Nat) (hH : H = w.heap.size) : ∀ (j : Nat) (x : Value), [u][j]? = some x → (w.alloc (.cells #[u] t)).cell? ((⟨H, 0, none⟩ : Addr).add j) = some x := by
  subst hH
  exact cell_one_new w u t

/-- the changed ones of the first k cells -/
def chgTo (σ : Tr Int) (k : Nat) : List Int := ((List.range k).filter σ.diff).map Int.ofNat
theorem chgTo_next (σ : Tr Int) (k : Nat) : chgTo σ (k + 1) = if σ.diff k = true then chgTo σ k ++ [(k : Int)] else chgTo σ k := by
  unfold chgTo
  rw [List.range_succ, List.filter_append, List.map_append]
  by_cases h : σ.diff k = true
  · rw [if_pos h, List.filter_cons_of_pos h]
    rfl
  · rw [if_neg h, List.filter_cons_of_neg h]
    simp
theorem chgTo_le (σ : Tr Int) (k : Nat) : (chgTo σ k).length ≤ k := by
  unfold chgTo
  rw [List.length_map]
  have := List.length_filter_le σ.diff (List.range k)
  rwa [List.length_range] at this

set_option maxRecDepth 100000 in
set_option maxHeartbeats 1600000 in
theorem rchanged_any {M : Nat} {w : World} {F : List Nat} {r : Nat} {σ : Tr Int} (h : RAt M w F r σ) (hM : M ≤ 1000000) :
    Calls Try.prog 17 #[.pointer (some ⟨r, 0, none⟩)] w (Listsint σ w) := by
  obtain ⟨bc, bs, bo, cap, vs, G, hP, rfl⟩ := h
  obtain ⟨v, hv, hrow⟩ := hP.rows σ.top (Nat.le_refl _)
  obtain ⟨p, vb, vo, vc, rfl, hp, hcell⟩ := hrow.shape
  rw [rowOf_length] at hp hcell
  have hoc := hP.oc (Nat.le_refl σ.top)
  rw [hv] at hoc
  have c0 := hP.c0
  have c2 := hP.c2
  have hmost := hP.most
  obtain ⟨n, hn⟩ : ∃ n, n = σ.n := ⟨_, rfl⟩
  obtain ⟨t, ht⟩ : ∃ t, t = σ.top := ⟨_, rfl⟩
  rw [← hn] at c0 hp hcell
  rw [rowOf_length, ← hn, ← ht] at hoc
  rw [← ht] at c2 hmost
  have n0 : n ≤ 1000 := by rw [hn]; exact hP.small
  have t0 : (0 : Int) ≤ (t : Int) := by omega
  have t1 : (t : Int) ≤ 1000000 := by omega
  have t3 : (t : Int) < ((t + 1 : Nat) : Int) := by omega
  have HP := Lib.hid hP
  have HN := Lib.hid hn
  have HT := Lib.hid ht
  have HCE := Lib.hid hcell
  have HC0 := Lib.hid c0
  have HA := Lib.hid ((Below.refl w.heap.size w).alloc (Nat.le_refl _) (.cells #[] 3))
  have k0 := cell_below HA.out c0
  have k2 := cell_below HA.out c2
  have k3 := cell_below HA.out hoc
  have HO := Lib.hid (show OwnsI (w.alloc (.cells #[] 3)) w.heap.size (.slice (some ⟨w.heap.size, 0, none⟩) 0 0) (chgTo σ 0) from World.ownsRow_made w #[] 0 (Nat.le_refl _) (by decide) rfl)
  obtain ⟨i0, hi0, hz0, hz1, hz2⟩ := info_parts info3
  have HI0 := Lib.hid hi0
  have HZ0 := Lib.hid hz0
  have HZ1 := Lib.hid hz1
  have HZ2 := Lib.hid hz2
  clear hP hn ht hcell hmost hrow hv hM hoc c0 c2 hi0 hz0 hz1 hz2
  go_enter Try.func17, Try.ntmps17
  go_wp2
  go_quiet (fail)
  have HA := Lib.hid (below_drew HA.out nq)
  have HO := Lib.hid (show OwnsI ((w.alloc (.cells #[] 3)).drewN nq) w.heap.size (.slice (some ⟨w.heap.size, 0, none⟩) 0 0) (chgTo σ 0) from HO.out)
  clear k2 k3
  go_wp2
  go_loopw [3, 5] (fun o i wr => ∃ k : Nat, k ≤ n ∧ i = .int .i64 k ∧ OwnsI wr w.heap.size o (chgTo σ k) ∧ Below w.heap.size w wr) (fun _ i _ => n - (intOf i).toNat)
  case atStart => exact ⟨0, by omega, rfl, HO.out, HA.out⟩
  case round =>
    obtain ⟨k, hk, rfl, hown, hB⟩ := hrel
    have HOW := Lib.hid hown
    have HB := Lib.hid hB
    clear hown hB HO HA k0
    have d0 := cell_below HB.out HC0.out
    by_cases hlt : k < n
    · obtain rfl := hp (by omega)
      have hks : k < σ.n := by rw [← HN.out]; exact hlt
      have d1 := cell_below HB.out (HP.out.cur.cell hks)
      have d2 := cell_below HB.out (HCE.out k hlt)
      rw [rowOf_get _ _ hlt] at d2
      have k1 : (k : Int) < (n : Int) := by omega
      have k2 : (0 : Int) ≤ (k : Int) := by omega
      have hnx := chgTo_next σ k
      have hle := chgTo_le σ k
      have hdf : σ.diff k = !decide (σ.cur k = σ.old σ.top k) := by unfold Tr.diff; simp
      generalize σ.cur k = x at d1 hdf
      generalize σ.old σ.top k = y at d2 hdf
      have HLE := Lib.hid hle
      by_cases hxy : x = y
      · subst hxy
        have hd : σ.diff k = false := by rw [hdf]; simp
        rw [if_neg (by rw [hd]; decide)] at hnx
        have HNX := Lib.hid hnx
        clear hnx hdf hd hle hks
        go_wp2
        go_quiet (fail)
        go_wp2_with fail
        go_roundw
        case rel => exact ⟨k + 1, by omega, by go_num, by rw [HNX.out]; exact HOW.out, below_drew HB.out nq⟩
        case measure => simp [intOf]; omega
      · have hd : σ.diff k = true := by rw [hdf]; simp [hxy]
        rw [if_pos hd] at hnx
        have hxy' : (x == y) = false := by simpa using hxy
        have HNX := Lib.hid hnx
        have HXY := Lib.hid hxy
        clear hnx hdf hd hle hks hxy
        go_wp2
        go_quiet (fail)
        have HBN := Lib.hid (below_drew HB.out nq)
        have HON := Lib.hid (show OwnsI (wr.drewN nq) w.heap.size u3 (chgTo σ k) from HOW.out)
        have HX := Lib.hid (news_one (wr.drewN nq) (.int .i64 (k : Int)) 3 wr.heap.size rfl)
        go_wp2_with (at_builtin; refine wpList_append_own_at _ (by rfl) _ _ 38 (by rfl) w.heap.size 3 i0 (.int .i64 0) 1 8 Try.underlying38 HI0.out HZ0.out HZ1.out HZ2.out rfl (by decide) u3 (chgTo σ k).length ((chgTo σ k).map (Value.int .i64)) (by rfl) (World.ownsRow.alloc HON.out _) ⟨wr.heap.size, 0, none⟩ 1 1 [.int .i64 (k : Int)] (by rfl) rfl HX.out (by simp [Value.oneCell']) (by have := HLE.out; unfold maxLen; omega) (by have := HLE.out; omega) (by have := HB.out.size; simp; omega) ?_; intro v' w2 hown2 hgrow2 hnil2 hloc2)
        have HF := Lib.hid (show OwnsI w2 w.heap.size v' (chgTo σ (k + 1)) ∧ Below w.heap.size w w2 from by
          refine ⟨by rw [HNX.out]; simpa [OwnsI] using hown2, (HBN.out.alloc HBN.out.size _).grown hgrow2 (by have := HB.out.size; simp; omega) (fun j e => (World.ownsRow.lt HON.out j e).1)⟩)
        clear hown2 hgrow2 hnil2 hloc2
        go_roundw
        case rel => exact ⟨k + 1, by omega, by go_num, HF.out.1, HF.out.2⟩
        case measure => simp [intOf]; omega
    · obtain rfl : k = n := by omega
      have HF := Lib.hid (show Listsint σ w (.returned u3) wr from ⟨u3, rfl, by have := HOW.out; rw [HN.out] at this; exact this, HB.out⟩)
      clear hlt hp
      go_wp2
      go_ret
      exact HF.out
end Go.Proofs.Ytkajkfapleecaaa
