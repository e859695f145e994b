/-
  A list of constraints that the document's reader of tokens takes.
  Names, ranges and variables that a reader of tokens takes, in rows of its own; an element behind a row, as one operation.
  What a block's loops take in; how far a reader has come with a block. Nothing of the program.
-/
import Derived.Test.YtfkakdpppejehaaGreatZGCon
namespace Go.Proofs.YtfkakdpppejehaaGreat.Pa
open Go.RowKit
open Sc (Tok Cells str noTok)
set_option maxRecDepth 100000

theorem info50 : (Tryz.prog.info? 42).map (fun i => (i.zero, i.size, i.bytes)) = some (some (.agg #[.int .i64 0, .slice none 0 0, .slice none 0 0, .int .i64 0, .int .i64 0, .slice none 0 0]), 6, 96) := by kernel_rfl
/-- cells of a constraint with lists of its own -/
def conP (w : World) (base : Nat) (cs : List Value) (c : PCon) : Prop := ∃ u1 u2 u3 : Value, cs = [.int .i64 c.kind, u1, u2, .int .i64 c.rel, .int .i64 c.const, u3] ∧ Own3 w base c u1 u2 u3
def ConsAt (w : World) (base : Nat) (v : Value) (L : List PCon) : Prop := OwnsP (conP w base) 6 42 base w v L
section
variable {w0 w w' : World} {F : Nat → Prop} {g n : Nat} {pl : Option Addr} {bl ol cl : Nat} {pv : Option Addr} {bv ov m cv : Nat} {T : List Tok} {B base : Nat} {c : PCon} {r : Rd} {u1 u2 u3 v : Value} {L : List PCon}
theorem ConsAt.moved (h : ConsAt w base v L) (hM : Moves g none w w') (hg : ∃ cs, w.heap[g]? = some (.cells cs 58)) : ConsAt w' base v L :=
  OwnsP.same (OwnsP.imp h (fun _ _ _ ⟨u1, u2, u3, e, o⟩ => ⟨u1, u2, u3, e, o.moved hM hg⟩)) (fun k hk => hM.block k (OwnsP.lt h k hk).2 (kinds_apart (OwnsP.kind h hk) hg (by decide)) (by simp))
theorem ConsAt.below (h : ConsAt w base v L) (hB : Below w.heap.size w w') : ConsAt w' base v L :=
  OwnsP.below (OwnsP.imp h (fun _ _ _ ⟨u1, u2, u3, e, o⟩ => ⟨u1, u2, u3, e, o.below hB⟩)) hB
theorem cons_nil (w : World) (base : Nat) : ConsAt w base (.slice none 0 0) [] := ownsP_nil _ _ _ _ _
theorem cons_one (o : Own3 w base c u1 u2 u3) (hb : base ≤ w.heap.size) : ConsAt (w.alloc (.cells #[.int .i64 c.kind, u1, u2, .int .i64 c.rel, .int .i64 c.const, u3] 42)) base (.slice (some ⟨w.heap.size, 0, none⟩) 1 1) [c] := by
  refine ⟨[.int .i64 c.kind, u1, u2, .int .i64 c.rel, .int .i64 c.const, u3], ⟨rfl, .inr ⟨w.heap.size, 1, _, rfl, hb, heap_alloc_new w _, Nat.le_refl _, by unfold maxLen; omega, rfl, rfl⟩⟩, rfl, fun k a hk => ?_⟩
  have hk1 := (List.getElem?_eq_some_iff.1 hk).1
  obtain rfl : k = 0 := by simp at hk1; omega
  obtain rfl : c = a := by simpa using hk
  exact ⟨_, rfl, fun j _ => by simp, u1, u2, u3, rfl, o.below ((Below.refl _ w).alloc (Nat.le_refl _) _)⟩
theorem But.turns (h : But (fun i => i = g) w w') : Moves g none w w' := ⟨h.os, h.tape, h.output, h.size, fun k hk hg _ => h.block k hk hg⟩
theorem Own3.grown50 {w : World} (h : Own3 w base c u1 u2 u3) (hk : ∀ k, v.ownBlock = some k → ∃ cs, w.heap[k]? = some (.cells cs 42)) (hg : w.grownBy w' v.ownBlock) : Own3 w' base c u1 u2 u3 :=
  h.same fun k q => hg.block k (Array.getElem?_eq_some_iff.1 q.choose_spec).1 (fun e => kinds_apart q (hk k e.symm) (by decide) rfl)
theorem RdAt.grown50 (h : RdAt w g n pl bl ol cl pv bv ov m cv T r) (hk : ∀ k, v.ownBlock = some k → ∃ cs, w.heap[k]? = some (.cells cs 42)) (hg : w.grownBy w' v.ownBlock) : RdAt w' g n pl bl ol cl pv bv ov m cv T r := by
  have hne : ∀ (k e : Nat), e ≠ 42 → (∃ cs, w.heap[k]? = some (.cells cs e)) → w'.heap[k]? = w.heap[k]? := fun k e he q => hg.block k (Array.getElem?_eq_some_iff.1 q.choose_spec).1 (fun e' => kinds_apart q (hk k e'.symm) he rfl)
  exact h.of_blocks (hne g 58 (by decide) h.ty) (fun h0 => hne bl 63 (by decide) (h.tt h0)) (fun h0 => hne bv 9 (by decide) (h.nt h0))
end
section
variable {w : World} {ops : Array Oper} {rest : List Oper} {o : Oper} {a : Act} {Q : Exit → Act → World → Prop} {base b c H : Nat} {v : Value} {L : List PCon} {y : PCon} {u1 u2 u3 : Value}
/-- a constraint behind a list -/
theorem put_con (hgd : o.guard = none) (s x : Operand) (ho : o.op = .call { callee := .builtin .append, args := #[s, x], argTypes := #[24, 24] }) (hs : a.eval s = v) (hx : a.eval x = .slice (some ⟨b, 0, none⟩) 1 c) (hown : ConsAt w base v L)
    (hbx : Box6 w b y.kind u1 u2 y.rel y.const u3) (hy : Own3 w base y u1 u2 u3) (hsm : L.length ≤ 100000) (hbase : base ≤ w.heap.size)
    (h : ∀ p cap w', ConsAt w' base (.slice p (L.length + 1) cap) (L ++ [y]) → w.grownBy w' v.ownBlock → ((Value.slice p (L.length + 1) cap).ownBlock = v.ownBlock ∨ (Value.slice p (L.length + 1) cap).ownBlock = some w.heap.size) → wpList Tryz.prog ops Q rest (a.put o.dst (.slice p (L.length + 1) cap)) w') : wpList Tryz.prog ops Q (o :: rest) a w := by
  obtain ⟨i0, hi, hz0, hz1, hz2⟩ := info_parts info50
  have hkd : ∀ k, v.ownBlock = some k → ∃ cs, w.heap[k]? = some (.cells cs 42) := fun k hk => OwnsP.kind hown hk
  obtain ⟨os, o1, o2, o3⟩ := hown
  obtain ⟨p1, k1, e1⟩ := hy.o1.shape
  obtain ⟨p2, k2, e2⟩ := hy.o2.shape
  obtain ⟨p3, k3, e3⟩ := hy.o3.shape
  refine wpList_append_lies w hgd s x 24 ho base 42 i0 _ 6 96 Tryz.underlying24 hi hz0 hz1 hz2 rfl (by decide) v L.length os hs o1 ⟨b, 0, none⟩ 1 c [.int .i64 y.kind, u1, u2, .int .i64 y.rel, .int .i64 y.const, u3] hx (by simp) (fun j u hj => ?_) (by rw [e1, e2, e3]; simp [Value.oneCell']) (by decide) (by unfold maxLen; omega) (by omega) hbase w.heap.size rfl (fun g cap w' g1 g2 g3 _ => h _ cap w' (ownsP_snoc o2 (fun k a' hk => ?_) rfl ⟨u1, u2, u3, rfl, hy.grown50 hkd g2⟩ g1) g2 ?_)
  · rw [add_plain', Nat.zero_add]
    exact hbx.cell j (by simpa using hj)
  · obtain ⟨d, d1, d2, x1, x2, x3, d3, d4⟩ := o3 k a' hk
    exact ⟨d, d1, d2, x1, x2, x3, d3, d4.grown50 hkd g2⟩
  · rcases g3 with q | q
    · exact .inl q.symm
    · exact .inr (by rw [← q]; rfl)
end
theorem ands_eq (K j : Nat) (l : List PCon) (T : List Tok) (r : Rd) : andsR K (j + 1) l T r = if (hasF tAnd r (next T r)).1 = true then andsR K j (l ++ [(conR K T (hasF tAnd r (next T r)).2).1]) T (conR K T (hasF tAnd r (next T r)).2).2 else (l, (hasF tAnd r (next T r)).2) := by
  show (if (hasF tAnd r (next T r)).1 = true then seq (conR K) fun c => andsR K j (l ++ [c]) else ret l) T (hasF tAnd r (next T r)).2 = _
  rw [if_app]
  rfl
theorem list_eq (K : Nat) (T : List Tok) (r : Rd) : listR K T r = if (hasF tTrue r (next T r)).1 = true then ([], (hasF tTrue r (next T r)).2) else andsR K K [(conR K T (hasF tTrue r (next T r)).2).1] T (conR K T (hasF tTrue r (next T r)).2).2 := by
  show (if (hasF tTrue r (next T r)).1 = true then ret [] else seq (conR K) fun c => andsR K K [c]) T (hasF tTrue r (next T r)).2 = _
  rw [if_app]
  rfl
theorem has_on {s : Txt} {r : Rd} {o : Option Tok} (h : (hasF s r o).1 = true) : (hasF s r o).2 = step1 r := by
  unfold hasF at h ⊢
  split at h
  · rename_i e
    rw [if_pos e]
  · cases h
section
variable {w : World} {g n : Nat} {pl : Option Addr} {bl ol cl : Nat} {pv : Option Addr} {bv ov m cv : Nat} {T : List Tok} {r : Rd}
set_option maxHeartbeats 8000000 in
theorem list_any (K : Nat) (h : RdAt w g n pl bl ol cl pv bv ov m cv T r) (hv : ∀ t ∈ T, t.value ≤ 2000000000000) (hm : m ≤ 1000000) (hK : n < K) (hn : n ≤ 9000) :
    Calls Tryz.prog 15 #[.pointer (some ⟨g, 0, none⟩)] w fun e w' => ∃ v, e = .returned v ∧ ConsAt w' w.heap.size v (listR K T r).1 ∧ RdAt w' g n pl bl ol cl pv bv ov m cv T (listR K T r).2 ∧ But (fun i => i = g) w w' := by
  obtain ⟨q, hq⟩ : ∃ q, q = listR K T r := ⟨_, rfl⟩
  rw [← hq]
  rw [list_eq] at hq
  have MX := Lib.hid (has_any ⟨#[116, 114, 117, 101]⟩ (by decide) h)
  rw [show txt ⟨#[116, 114, 117, 101]⟩ = tTrue from rfl] at MX
  obtain ⟨b, hb⟩ : ∃ b, b = (hasF tTrue r (next T r)).1 := ⟨_, rfl⟩
  obtain ⟨r1, hr1⟩ : ∃ r1, r1 = (hasF tTrue r (next T r)).2 := ⟨_, rfl⟩
  rw [← hb, ← hr1] at MX hq
  have HQ := Lib.hid hq
  clear h hq hb hr1
  cases b
  · have hq2 := HQ.out
    rw [if_neg (by simp)] at hq2
    have HQ2 := Lib.hid hq2
    clear hq2
    go_enter Tryz.func15, Tryz.ntmps15
    go_wp2_with fail
    refine MX.out.mono ?_
    rintro e w1 ⟨rfl, h1, hm1⟩
    have H1 := Lib.hid h1
    have M1 := Lib.hid (But.moves (F := fun i => i = g) hm1 rfl)
    have CX := Lib.hid (con_any K h1 hv hm hK hn)
    obtain ⟨cp, hcp⟩ : ∃ cp, cp = conR K T r1 := ⟨_, rfl⟩
    rw [← hcp] at CX
    have HQ3 := Lib.hid (show q = andsR K K [cp.1] T cp.2 by rw [HQ2.out, hcp])
    obtain ⟨c1, r2⟩ := cp
    clear h1 hm1 hcp
    go_wp2_with fail
    refine CX.out.mono ?_
    rintro e w2 ⟨u1, u2, u3, rfl, ho, hr, hbt, g1, g2, g3⟩
    simp only at ho hr
    have O2 := Lib.hid ho
    have H2 := Lib.hid hr
    have M2 := Lib.hid (M1.out.trans hbt (fun i _ e => e))
    have HSZ := Lib.hid M1.out.size
    clear ho hr hbt g1 g2 g3
    obtain ⟨p1, l1, k1, e1⟩ : ∃ p l k, u1 = .slice p l k := by
      obtain ⟨p, k, e⟩ := O2.out.o1.shape
      exact ⟨p, _, k, e⟩
    subst e1
    obtain ⟨p2, l2, k2, e2⟩ : ∃ p l k, u2 = .slice p l k := by
      obtain ⟨p, k, e⟩ := O2.out.o2.shape
      exact ⟨p, _, k, e⟩
    subst e2
    obtain ⟨p3, l3, k3, e3⟩ : ∃ p l k, u3 = .slice p l k := by
      obtain ⟨p, k, e⟩ := O2.out.o3.shape
      exact ⟨p, _, k, e⟩
    subst e3
    have HB := Lib.hid (fun o => (Below.refl _ w2).alloc (Nat.le_refl _) o)
    have CA := Lib.hid (cons_one (O2.out.low HSZ.out) M2.out.size)
    have H3 := Lib.hid (H2.out.below (HB.out (.cells #[.int .i64 c1.kind, .slice p1 l1 k1, .slice p2 l2 k2, .int .i64 c1.rel, .int .i64 c1.const, .slice p3 l3 k3] 42)))
    have M3 := Lib.hid (M2.out.trans (But.below (F := fun i => i = g) (HB.out (.cells #[.int .i64 c1.kind, .slice p1 l1 k1, .slice p2 l2 k2, .int .i64 c1.rel, .int .i64 c1.const, .slice p3 l3 k3] 42))) (fun i _ e => e))
    go_wp2_with fail
    go_loopw [3] (fun vs wr => ∃ (j : Nat) (l : List PCon) (rr : Rd), q = andsR K j l T rr ∧ n < j + rr.at_ ∧ l.length ≤ rr.at_ + 1 ∧ ConsAt wr w.heap.size vs l ∧ RdAt wr g n pl bl ol cl pv bv ov m cv T rr ∧ But (fun i => i = g) w wr) (fun _ wr => n - tookOf wr g)
    case atStart => exact ⟨K, [c1], r2, HQ3.out, by omega, by simp, CA.out, H3.out, M3.out⟩
    case round =>
      obtain ⟨j, l, rr, hqr, hnj, hll, hca, hrd, hbt⟩ := hrel
      have htp := hrd.top
      obtain ⟨j', rfl⟩ : ∃ j', j = j' + 1 := ⟨j - 1, by omega⟩
      rw [ands_eq] at hqr
      have AX := Lib.hid (has_any ⟨#[97, 110, 100]⟩ (by decide) hrd)
      rw [show txt ⟨#[97, 110, 100]⟩ = tAnd from rfl] at AX
      obtain ⟨ba, hba⟩ : ∃ ba, ba = (hasF tAnd rr (next T rr)).1 := ⟨_, rfl⟩
      obtain ⟨ra, hra⟩ : ∃ ra, ra = (hasF tAnd rr (next T rr)).2 := ⟨_, rfl⟩
      have HON := Lib.hid (show ba = true → ra = step1 rr from fun e => by rw [hra]; exact has_on (by rw [← hba, e]))
      rw [← hba, ← hra] at AX hqr
      have HQR := Lib.hid hqr
      have HCA := Lib.hid hca
      have HRD := Lib.hid hrd
      have HBT := Lib.hid hbt
      have HTK := Lib.hid (tookOf_at hrd)
      clear hqr hca hrd hbt hba hra
      cases ba
      · have hq4 := HQR.out
        rw [if_neg (by simp)] at hq4
        have HQ4 := Lib.hid hq4
        clear hq4
        go_wp2_with fail
        refine AX.out.mono ?_
        rintro e w4 ⟨rfl, h4, hm4⟩
        have HC4 := Lib.hid (HCA.out.moved hm4 HRD.out.ty)
        have HB4 := Lib.hid (HBT.out.trans (But.moves (F := fun i => i = g) hm4 rfl) (fun i _ e => e))
        have H4 := Lib.hid h4
        clear h4 hm4
        go_wp2_with fail
        go_ret
        rw [HQ4.out]
        exact ⟨_, rfl, HC4.out, H4.out, HB4.out⟩
      · have hq4 := HQR.out
        rw [if_pos rfl] at hq4
        have hra := HON.out rfl
        have HQ4 := Lib.hid hq4
        have hat : ra.at_ = rr.at_ + 1 := by rw [hra]; rfl
        clear hq4 hra
        obtain ⟨pv', cv', hsl⟩ := OwnsP.shape HCA.out
        have HSL := Lib.hid hsl
        clear hsl
        go_wp2_with fail
        refine AX.out.mono ?_
        rintro e w4 ⟨rfl, h4, hm4⟩
        have HC4 := Lib.hid (HCA.out.moved hm4 HRD.out.ty)
        have HB4 := Lib.hid (HBT.out.trans (But.moves (F := fun i => i = g) hm4 rfl) (fun i _ e => e))
        have CX := Lib.hid (con_any K h4 hv hm hK hn)
        have H4 := Lib.hid h4
        obtain ⟨cp, hcp⟩ : ∃ cp, cp = conR K T ra := ⟨_, rfl⟩
        rw [← hcp] at CX
        have HQ5 := Lib.hid (show q = andsR K j' (l ++ [cp.1]) T cp.2 by rw [HQ4.out, hcp])
        have HUP := Lib.hid (show ra.at_ ≤ cp.2.at_ by rw [hcp]; exact (fine_con K).up T ra)
        obtain ⟨c2, r5⟩ := cp
        clear h4 hm4 hcp
        go_wp2_with fail
        refine CX.out.mono ?_
        rintro e w5 ⟨u1, u2, u3, rfl, ho, hr, hbt, g1, g2, g3⟩
        simp only at ho hr
        have O5 := Lib.hid (ho.low (Nat.le_trans (show w.heap.size ≤ w4.heap.size from HB4.out.size) (Nat.le_refl _)))
        have H5 := Lib.hid hr
        have HC5 := Lib.hid (HC4.out.moved hbt.turns H4.out.ty)
        have HB5 := Lib.hid (HB4.out.trans hbt (fun i _ e => e))
        clear ho hr hbt g1 g2 g3
        obtain ⟨p1, l1, k1, e1⟩ : ∃ p l k, u1 = .slice p l k := by
          obtain ⟨p, k, e⟩ := O5.out.o1.shape
          exact ⟨p, _, k, e⟩
        subst e1
        obtain ⟨p2, l2, k2, e2⟩ : ∃ p l k, u2 = .slice p l k := by
          obtain ⟨p, k, e⟩ := O5.out.o2.shape
          exact ⟨p, _, k, e⟩
        subst e2
        obtain ⟨p3, l3, k3, e3⟩ : ∃ p l k, u3 = .slice p l k := by
          obtain ⟨p, k, e⟩ := O5.out.o3.shape
          exact ⟨p, _, k, e⟩
        subst e3
        have HB := Lib.hid (fun o => (Below.refl _ w5).alloc (Nat.le_refl _) o)
        have HC6 := Lib.hid (HC5.out.below (HB.out (.cells #[.int .i64 c2.kind, .slice p1 l1 k1, .slice p2 l2 k2, .int .i64 c2.rel, .int .i64 c2.const, .slice p3 l3 k3] 42)))
        have H6 := Lib.hid (H5.out.below (HB.out (.cells #[.int .i64 c2.kind, .slice p1 l1 k1, .slice p2 l2 k2, .int .i64 c2.rel, .int .i64 c2.const, .slice p3 l3 k3] 42)))
        have O6 := Lib.hid (O5.out.below (HB.out (.cells #[.int .i64 c2.kind, .slice p1 l1 k1, .slice p2 l2 k2, .int .i64 c2.rel, .int .i64 c2.const, .slice p3 l3 k3] 42)))
        have HB6 := Lib.hid (HB5.out.trans (But.below (F := fun i => i = g) (HB.out (.cells #[.int .i64 c2.kind, .slice p1 l1 k1, .slice p2 l2 k2, .int .i64 c2.rel, .int .i64 c2.const, .slice p3 l3 k3] 42))) (fun i _ e => e))
        have HX6 := Lib.hid (Box6.new w5 c2.kind (.slice p1 l1 k1) (.slice p2 l2 k2) c2.rel c2.const (.slice p3 l3 k3))
        have hl6 : l.length ≤ 100000 := by omega
        have HS6 := Lib.hid HB6.out.size
        go_wp2_with (at_builtin; refine put_con rfl _ _ rfl rfl rfl HC6.out HX6.out O6.out hl6 HS6.out ?_; intro p cap w7 hc7 hg7 ha7; have HC7 := Lib.hid hc7; have H7 := Lib.hid (H6.out.grown50 (fun k hk => OwnsP.kind HC6.out hk) hg7); have HB7 := Lib.hid (HB6.out.trans (But.grown hg7 (F := fun i => w.heap.size ≤ i) (fun k e _ => (OwnsP.lt HC6.out k e).1)) (fun i hi e => absurd e (by omega))); clear hc7 hg7 ha7)
        go_roundw
        case rel => exact ⟨j', _, r5, HQ5.out, by have := HUP.out; omega, by have := HUP.out; simp; omega, HC7.out, H7.out, HB7.out⟩
        case measure =>
          have h1 := HUP.out
          have h2 := H7.out.top
          rw [tookOf_at H7.out, HTK.out]
          omega
  · have hq2 := HQ.out
    rw [if_pos rfl] at hq2
    have HQ2 := Lib.hid hq2
    clear hq2
    go_enter Tryz.func15, Tryz.ntmps15
    go_wp2_with fail
    refine MX.out.mono ?_
    rintro e w1 ⟨rfl, h1, hm1⟩
    have H1 := Lib.hid h1
    have M1 := Lib.hid hm1
    clear h1 hm1
    go_wp2_with fail
    go_ret
    rw [HQ2.out]
    exact ⟨_, rfl, cons_nil _ _, H1.out, But.moves M1.out rfl⟩
end
end Go.Proofs.YtfkakdpppejehaaGreat.Pa
namespace Go.Proofs.YtfkakdpppejehaaGreat.Pa
open Go.RowKit
open Sc (Tok Cells str noTok)
set_option maxRecDepth 100000

def nameP (cs : List Value) (s : Txt) : Prop := cs = [str s]
def spanP (cs : List Value) (p : Int × Int) : Prop := cs = [.int .i64 p.1, .int .i64 p.2] ∧ Fit p.1 ∧ Fit p.2
def declP (w : World) (base : Nat) (cs : List Value) (d : PDecl) : Prop := ∃ (s : ByteArray) (u : Value), cs = [.string s, u] ∧ txt s = d.name ∧ OwnsP spanP 2 33 base w u d.dom
def DeclsAt (w : World) (base : Nat) (v : Value) (L : List PDecl) : Prop := OwnsP (declP w base) 2 36 base w v L
theorem info9 : (Tryz.prog.info? 9).map (fun i => (i.zero, i.size, i.bytes)) = some (some (.string ⟨#[]⟩), 1, 16) := by kernel_rfl
theorem info41 : (Tryz.prog.info? 33).map (fun i => (i.zero, i.size, i.bytes)) = some (some (.agg #[.int .i64 0, .int .i64 0]), 2, 16) := by kernel_rfl
theorem info44 : (Tryz.prog.info? 36).map (fun i => (i.zero, i.size, i.bytes)) = some (some (.agg #[.string ⟨#[]⟩, .slice none 0 0]), 2, 40) := by kernel_rfl
theorem info47 : (Tryz.prog.info? 39).map (fun i => (i.zero, i.size, i.bytes)) = some (some (.agg #[.bool false, .slice none 0 0, .slice none 0 0]), 3, 56) := by kernel_rfl
section
variable {α : Type} {R : List Value → α → Prop} {k e f base : Nat} {w w' : World} {v u : Value} {L : List α}
theorem OwnsP.moved {g : Nat} (h : OwnsP R k e base w v L) (hM : Moves g none w w') (hg : ∃ cs, w.heap[g]? = some (.cells cs 58)) (he : e ≠ 58) : OwnsP R k e base w' v L :=
  h.same fun i hi => hM.block i (h.lt i hi).2 (kinds_apart (h.kind hi) hg he) (by simp)
theorem OwnsP.set {b j : Nat} {x : Value} (h : OwnsP R k e base w v L) (hb : ∃ cs, w.heap[b]? = some (.cells cs f)) (he : e ≠ f) : OwnsP R k e base (w.setCell ⟨b, j, none⟩ x) v L :=
  h.same fun i hi => Below.heap_setCell w ⟨b, j, none⟩ x i (kinds_apart (h.kind hi) hb he)
theorem OwnsP.grown (h : OwnsP R k e base w v L) (hu : ∀ i, u.ownBlock = some i → ∃ cs, w.heap[i]? = some (.cells cs f)) (hg : w.grownBy w' u.ownBlock) (he : e ≠ f) : OwnsP R k e base w' v L :=
  h.same fun i hi => hg.block i (h.lt i hi).2 (fun e' => kinds_apart (h.kind hi) (hu i e'.symm) he rfl)
end
section
variable {w w' : World} {base : Nat} {v : Value} {L : List PDecl} {g f b j : Nat} {u x : Value}
theorem DeclsAt.moved (h : DeclsAt w base v L) (hM : Moves g none w w') (hg : ∃ cs, w.heap[g]? = some (.cells cs 58)) : DeclsAt w' base v L :=
  OwnsP.moved (OwnsP.imp h (fun _ _ _ ⟨s, u, e, t, o⟩ => ⟨s, u, e, t, OwnsP.moved o hM hg (by decide)⟩)) hM hg (by decide)
theorem DeclsAt.below (h : DeclsAt w base v L) (hB : Below w.heap.size w w') : DeclsAt w' base v L :=
  OwnsP.below (OwnsP.imp h (fun _ _ _ ⟨s, u, e, t, o⟩ => ⟨s, u, e, t, o.below hB⟩)) hB
theorem DeclsAt.set (h : DeclsAt w base v L) (hb : ∃ cs, w.heap[b]? = some (.cells cs f)) (h1 : 36 ≠ f) (h2 : 33 ≠ f) : DeclsAt (w.setCell ⟨b, j, none⟩ x) base v L :=
  OwnsP.set (OwnsP.imp h (fun _ _ _ ⟨s, u, e, t, o⟩ => ⟨s, u, e, t, OwnsP.set o hb h2⟩)) hb h1
theorem DeclsAt.grown (h : DeclsAt w base v L) (hu : ∀ i, u.ownBlock = some i → ∃ cs, w.heap[i]? = some (.cells cs f)) (hg : w.grownBy w' u.ownBlock) (h1 : 36 ≠ f) (h2 : 33 ≠ f) : DeclsAt w' base v L :=
  OwnsP.grown (OwnsP.imp h (fun _ _ _ ⟨s, u, e, t, o⟩ => ⟨s, u, e, t, OwnsP.grown o hu hg h2⟩)) hu hg h1
theorem decls_nil (w : World) (base : Nat) : DeclsAt w base (.slice none 0 0) [] := ownsP_nil _ _ _ _ _
end
/-- names in a row of its own are names in memory -/
theorem nm_of_owns {w : World} {base : Nat} {p : Option Addr} {m c : Nat} {L : List Txt} (h : OwnsP nameP 1 9 base w (.slice p m c) L) : m = L.length ∧ ∃ b, NmAt w p b 0 m L ∧ (0 < m → (Value.slice p m c).ownBlock = some b) := by
  have hm : m = L.length := by
    obtain ⟨p', k, e⟩ := h.shape
    simp only [Value.slice.injEq] at e
    exact e.2.1
  refine ⟨hm, ?_⟩
  obtain ⟨cs, h1, h2, h3⟩ := h
  have h0 := h1
  rcases h1.2 with ⟨e, hl⟩ | ⟨b, cap, cur, e, hb, hg, hn, hc, hs, ht⟩
  · exact ⟨0, ⟨hm, fun h => by omega, fun k hk => by omega⟩, fun h => by omega⟩
  · simp only [Value.slice.injEq] at e
    obtain ⟨rfl, rfl, rfl⟩ := e
    refine ⟨b, ⟨hm, fun _ => rfl, fun k hk => ?_⟩, fun _ => rfl⟩
    obtain ⟨d, d1, d2, d3⟩ := h3 k _ (List.getElem?_eq_getElem (by omega : k < L.length))
    have h5 := h0.cellAt (k * 1 + 0) (by omega)
    rw [d2 0 (by omega), d3] at h5
    rw [show (k * 1 + 0) = 0 + k by omega] at h5
    rw [h5]
    simp [List.getD, List.getElem?_eq_getElem (by omega : k < L.length)]
section
variable {α : Type} {R : List Value → α → Prop} {w : World} {ops : Array Oper} {rest : List Oper} {o : Oper} {a : Act} {Q : Exit → Act → World → Prop} {base b c k by_ e t : Nat} {v z : Value} {L : List α} {y : α} {cs : List Value}
theorem put_row (hi : (Tryz.prog.info? e).map (fun i => (i.zero, i.size, i.bytes)) = some (some z, k, by_)) (hzc : z.cells.size = k) (hpos : 0 < k) (hby : by_ ≤ 128) (ht : Tryz.prog.underlying t = some (.slice e)) (hgd : o.guard = none) (s x : Operand) (ho : o.op = .call { callee := .builtin .append, args := #[s, x], argTypes := #[t, t] }) (hs : a.eval s = v) (hx : a.eval x = .slice (some ⟨b, 0, none⟩) 1 c)
    (hown : OwnsP R k e base w v L) (hlen : cs.length = k) (hcell : ∀ j u, cs[j]? = some u → w.cell? ⟨b, j, none⟩ = some u) (h1 : ∀ u ∈ cs, u.oneCell' = true) (hR : R cs y) (hsm : L.length ≤ 100000) (hbase : base ≤ w.heap.size)
    (h : ∀ p cap w', OwnsP R k e base w' (.slice p (L.length + 1) cap) (L ++ [y]) → w.grownBy w' v.ownBlock → ((Value.slice p (L.length + 1) cap).ownBlock = v.ownBlock ∨ (Value.slice p (L.length + 1) cap).ownBlock = some w.heap.size) → wpList Tryz.prog ops Q rest (a.put o.dst (.slice p (L.length + 1) cap)) w') : wpList Tryz.prog ops Q (o :: rest) a w := by
  obtain ⟨i0, hi, hz0, hz1, hz2⟩ := info_parts hi
  obtain ⟨os, o1, o2, o3⟩ := hown
  refine wpList_append_lies w hgd s x t ho base e i0 z k by_ ht hi hz0 hz1 hz2 hzc hpos v L.length os hs o1 ⟨b, 0, none⟩ 1 c cs hx (by rw [hlen, Nat.one_mul]) (fun j u hj => by rw [add_plain', Nat.zero_add]; exact hcell j u hj) h1 (by decide) (by unfold maxLen; omega) ?_ hbase w.heap.size rfl (fun g cap w' g1 g2 g3 _ => h _ cap w' (ownsP_snoc o2 o3 hlen hR g1) g2 ?_)
  · have : (L.length + 1) * by_ ≤ 100001 * 128 := Nat.mul_le_mul (by omega) hby
    omega
  · rcases g3 with q | q
    · exact .inl q.symm
    · exact .inr (by rw [← q]; rfl)
theorem put_row_step {K : Act → World → Prop} {E : Prop} (hi : (Tryz.prog.info? e).map (fun i => (i.zero, i.size, i.bytes)) = some (some z, k, by_)) (hzc : z.cells.size = k) (hpos : 0 < k) (hby : by_ ≤ 128) (ht : Tryz.prog.underlying t = some (.slice e)) (hgd : o.guard = none) (s x : Operand) (ho : o.op = .call { callee := .builtin .append, args := #[s, x], argTypes := #[t, t] }) (hs : a.eval s = v) (hx : a.eval x = .slice (some ⟨b, 0, none⟩) 1 c)
    (hown : OwnsP R k e base w v L) (hlen : cs.length = k) (hcell : ∀ j u, cs[j]? = some u → w.cell? ⟨b, j, none⟩ = some u) (h1 : ∀ u ∈ cs, u.oneCell' = true) (hR : R cs y) (hsm : L.length ≤ 100000) (hbase : base ≤ w.heap.size)
    (h : ∀ p cap w', OwnsP R k e base w' (.slice p (L.length + 1) cap) (L ++ [y]) → w.grownBy w' v.ownBlock → ((Value.slice p (L.length + 1) cap).ownBlock = v.ownBlock ∨ (Value.slice p (L.length + 1) cap).ownBlock = some w.heap.size) → K (a.put o.dst (.slice p (L.length + 1) cap)) w') : if Region.wanted o (yielded ops a.tmps) = true then Oper.wp Tryz.prog o a w K Q else E := by
  obtain ⟨i0, hi, hz0, hz1, hz2⟩ := info_parts hi
  obtain ⟨os, o1, o2, o3⟩ := hown
  refine step_append_lies w hgd s x t ho base e i0 z k by_ ht hi hz0 hz1 hz2 hzc hpos v L.length os hs o1 ⟨b, 0, none⟩ 1 c cs hx (by rw [hlen, Nat.one_mul]) (fun j u hj => by rw [add_plain', Nat.zero_add]; exact hcell j u hj) h1 (by decide) (by unfold maxLen; omega) ?_ hbase w.heap.size rfl (fun g cap w' g1 g2 g3 _ => h _ cap w' (ownsP_snoc o2 o3 hlen hR g1) g2 ?_)
  · have : (L.length + 1) * by_ ≤ 100001 * 128 := Nat.mul_le_mul (by omega) hby
    omega
  · rcases g3 with q | q
    · exact .inl q.symm
    · exact .inr (by rw [← q]; rfl)
end
section
variable {w w' : World} {base g n : Nat} {pl : Option Addr} {bl ol cl : Nat} {pv : Option Addr} {bv ov m cv : Nat} {T : List Tok} {r : Rd}
/-- a row of a kind that a reader does not hold grows -/
theorem RdAt.row {v : Value} {f : Nat} (h : RdAt w g n pl bl ol cl pv bv ov m cv T r) (hk : ∀ k, v.ownBlock = some k → ∃ cs, w.heap[k]? = some (.cells cs f)) (hg : w.grownBy w' v.ownBlock) (h1 : 58 ≠ f) (h2 : 63 ≠ f) (h3 : 9 ≠ f) : RdAt w' g n pl bl ol cl pv bv ov m cv T r := by
  have hne : ∀ (k e : Nat), e ≠ f → (∃ cs, w.heap[k]? = some (.cells cs e)) → w'.heap[k]? = w.heap[k]? := fun k e he q => hg.block k (Array.getElem?_eq_some_iff.1 q.choose_spec).1 (fun e' => kinds_apart q (hk k e'.symm) he rfl)
  exact h.of_blocks (hne g 58 h1 h.ty) (fun h0 => hne bl 63 h2 (h.tt h0)) (fun h0 => hne bv 9 h3 (h.nt h0))
theorem RdAt.put {b j f : Nat} {x : Value} (h : RdAt w g n pl bl ol cl pv bv ov m cv T r) (hb : ∃ cs, w.heap[b]? = some (.cells cs f)) (h1 : 58 ≠ f) (h2 : 63 ≠ f) (h3 : 9 ≠ f) : RdAt (w.setCell ⟨b, j, none⟩ x) g n pl bl ol cl pv bv ov m cv T r := by
  have hne : ∀ (k e : Nat), e ≠ f → (∃ cs, w.heap[k]? = some (.cells cs e)) → (w.setCell ⟨b, j, none⟩ x).heap[k]? = w.heap[k]? := fun k e he q => Below.heap_setCell w ⟨b, j, none⟩ x k (kinds_apart q hb he)
  exact h.of_blocks (hne g 58 h1 h.ty) (fun h0 => hne bl 63 h2 (h.tt h0)) (fun h0 => hne bv 9 h3 (h.nt h0))
theorem five_set {u : World} {g : Nat} {V v0 v1 v2 v3 v4 : Value} (c0 : u.cell? ⟨g, 0, none⟩ = some v0) (c1 : u.cell? ⟨g, 1, none⟩ = some v1) (c2 : u.cell? ⟨g, 2, none⟩ = some v2) (c3 : u.cell? ⟨g, 3, none⟩ = some v3) (c4 : u.cell? ⟨g, 4, none⟩ = some v4) (f1 : u.frozen? ⟨g, 1, none⟩ = false) (f2 : u.frozen? ⟨g, 2, none⟩ = false) (f3 : u.frozen? ⟨g, 3, none⟩ = false) (f4 : u.frozen? ⟨g, 4, none⟩ = false) :
    ((u.setCell ⟨g, 3, none⟩ V).cell? ⟨g, 0, none⟩ = some v0 ∧ (u.setCell ⟨g, 3, none⟩ V).cell? ⟨g, 1, none⟩ = some v1 ∧ (u.setCell ⟨g, 3, none⟩ V).cell? ⟨g, 2, none⟩ = some v2 ∧ (u.setCell ⟨g, 3, none⟩ V).cell? ⟨g, 3, none⟩ = some V ∧ (u.setCell ⟨g, 3, none⟩ V).cell? ⟨g, 4, none⟩ = some v4) ∧
      (u.setCell ⟨g, 3, none⟩ V).frozen? ⟨g, 1, none⟩ = false ∧ (u.setCell ⟨g, 3, none⟩ V).frozen? ⟨g, 2, none⟩ = false ∧ (u.setCell ⟨g, 3, none⟩ V).frozen? ⟨g, 3, none⟩ = false ∧ (u.setCell ⟨g, 3, none⟩ V).frozen? ⟨g, 4, none⟩ = false :=
  ⟨⟨by go_simp, by go_simp, by go_simp, by go_simp, by go_simp⟩, by go_simp, by go_simp, by go_simp, by go_simp⟩
/-- one name more -/
theorem RdAt.named {p : Option Addr} {cap : Nat} {s : Txt} (h : RdAt w g n pl bl ol cl pv bv ov m cv T r) (ho : OwnsP nameP 1 9 base w (.slice pv m cv) r.vars) (hg : w.grownBy w' (Value.slice pv m cv).ownBlock) (hn : OwnsP nameP 1 9 base w' (.slice p (r.vars.length + 1) cap) (r.vars ++ [s])) :
    ∃ b, RdAt (w'.setCell ⟨g, 3, none⟩ (.slice p (r.vars.length + 1) cap)) g n pl bl ol cl p b 0 (r.vars.length + 1) cap T { r with vars := r.vars ++ [s] } ∧ OwnsP nameP 1 9 base (w'.setCell ⟨g, 3, none⟩ (.slice p (r.vars.length + 1) cap)) (.slice p (r.vars.length + 1) cap) (r.vars ++ [s]) := by
  have hne : ∀ (k e : Nat), e ≠ 9 → (∃ cs, w.heap[k]? = some (.cells cs e)) → w'.heap[k]? = w.heap[k]? := fun k e he q => hg.block k (Array.getElem?_eq_some_iff.1 q.choose_spec).1 (fun e' => kinds_apart q (ho.kind e'.symm) he rfl)
  have eg := hne g 58 (by decide) h.ty
  have hty : ∃ cs, w'.heap[g]? = some (.cells cs 58) := by rw [eg]; exact h.ty
  have hset := OwnsP.set (j := 3) (x := .slice p (r.vars.length + 1) cap) hn hty (by decide)
  obtain ⟨_, b, hb, hb2⟩ := nm_of_owns hset
  obtain ⟨V, hV⟩ : ∃ V : Value, V = .slice p (r.vars.length + 1) cap := ⟨_, rfl⟩
  rw [← hV] at hset ⊢
  have cg : ∀ (i : Nat) (x : Value), w.cell? ⟨g, i, none⟩ = some x → w'.cell? ⟨g, i, none⟩ = some x := fun i x hc => (World.cell?_of_block (w := w) (a := ⟨g, i, none⟩) eg).trans hc
  have fg : ∀ i : Nat, w.frozen? ⟨g, i, none⟩ = false → w'.frozen? ⟨g, i, none⟩ = false := fun i hc => (World.frozen?_of_block (w := w) (a := ⟨g, i, none⟩) eg).trans hc
  have hty2 : ∃ cs, (w'.setCell ⟨g, 3, none⟩ V).heap[g]? = some (.cells cs 58) := by
    obtain ⟨cs, e⟩ := hty
    refine ⟨cs.setIfInBounds 3 V, ?_⟩
    simp only [World.setCell, Array.getElem?_modify, e]
    rfl
  have el : 0 < n → (w'.setCell ⟨g, 3, none⟩ V).heap[bl]? = w.heap[bl]? := fun h0 => (Below.heap_setCell w' ⟨g, 3, none⟩ V bl (h.tg h0)).trans (hne bl 63 (by decide) (h.tt h0))
  obtain ⟨⟨c0, c1, c2, c3, c4⟩, f1, f2, f3, f4⟩ := five_set (V := V) (cg _ _ h.c0) (cg _ _ h.c1) (cg _ _ h.c2) (cg _ _ h.c3) (cg _ _ h.c4) (fg _ h.f1) (fg _ h.f2) (fg _ h.f3) (fg _ h.f4)
  rw [← hV] at hb hb2
  refine ⟨b, ⟨c0, c1, c2, by rw [← hV]; exact c3, c4, f1, f2, f3, f4, h.long, h.few, h.top, h.tl, fun k hk => ?_, h.tg, hb, fun h0 => ?_, hty2, fun h0 => ?_, fun h0 => ?_⟩, hset⟩
  · obtain ⟨x1, x2, x3, x4⟩ := h.tk k hk
    have h0 : 0 < n := by rw [h.long]; omega
    have cl' : ∀ (i : Nat) (x : Value), w.cell? ⟨bl, i, none⟩ = some x → (w'.setCell ⟨g, 3, none⟩ V).cell? ⟨bl, i, none⟩ = some x := fun i x hc => (World.cell?_of_block (w := w) (a := ⟨bl, i, none⟩) (el h0)).trans hc
    exact ⟨cl' _ _ x1, cl' _ _ x2, cl' _ _ x3, cl' _ _ x4⟩
  · exact kinds_apart (hset.kind (hb2 h0)) hty2 (by decide)
  · exact hset.kind (hb2 h0)
  · obtain ⟨cs, e⟩ := h.tt h0
    exact ⟨cs, (el h0).trans e⟩
end
end Go.Proofs.YtfkakdpppejehaaGreat.Pa
namespace Go.Proofs.YtfkakdpppejehaaGreat.Pa
open Go.RowKit
open Sc (Tok Cells str noTok)
set_option maxRecDepth 100000

def rangeOne : Rx (Int × Int) := seq number fun lo => seq (look (hasF tDots)) fun b => seq (highR b lo) fun hi => ret (lo, hi)
def moreD (T : List Tok) (r : Rd) : Bool := decide (kindO (next T r) = 2) || decide (textO (next T r) = tMinus)
theorem ranges_eq (j : Nat) (l : List (Int × Int)) (T : List Tok) (r : Rd) : rangesR (j + 1) l T r = if moreD T (rangeOne T r).2 = true then rangesR j (l ++ [(rangeOne T r).1]) T (rangeOne T r).2 else (l ++ [(rangeOne T r).1], (rangeOne T r).2) := by
  show (if moreD T (rangeOne T r).2 = true then rangesR j (l ++ [(rangeOne T r).1]) else ret (l ++ [(rangeOne T r).1])) T (rangeOne T r).2 = _
  rw [if_app]
  rfl
theorem range_form (T : List Tok) (r : Rd) : rangeOne T r = (((number T r).1, (highR (hasF tDots (number T r).2 (next T (number T r).2)).1 (number T r).1 T (hasF tDots (number T r).2 (next T (number T r).2)).2).1), (highR (hasF tDots (number T r).2 (next T (number T r).2)).1 (number T r).1 T (hasF tDots (number T r).2 (next T (number T r).2)).2).2) := rfl
theorem range_went (T : List Tok) (r : Rd) : Went r (rangeOne T r).2 := by
  have h1 := number_went T r
  have h2 : (number T r).2.at_ ≤ (hasF tDots (number T r).2 (next T (number T r).2)).2.at_ := (fine_look (ok_has (s := tDots) (by decide))).up T _
  have h3 := (fine_high (hasF tDots (number T r).2 (next T (number T r).2)).1 (number T r).1).up T (hasF tDots (number T r).2 (next T (number T r).2)).2
  rw [range_form]
  refine ⟨by have := h1.up; show _ ≤ _; simp only; omega, ?_⟩
  rcases h1.on with e | e
  · refine .inl ?_
    have e2 : (hasF tDots (number T r).2 (next T (number T r).2)) = (false, (number T r).2) := by
      rw [next_wrong e]
      rfl
    show (highR (hasF tDots (number T r).2 (next T (number T r).2)).1 (number T r).1 T (hasF tDots (number T r).2 (next T (number T r).2)).2).2.wrong = true
    rw [e2]
    exact e
  · exact .inr (by simp only; omega)
theorem range_few {T : List Tok} {r : Rd} (hv : ∀ t ∈ T, t.value ≤ 2000000000000) : Fit (rangeOne T r).1.1 ∧ Fit (rangeOne T r).1.2 := by
  rw [range_form]
  have h1 := number_few (r := r) hv
  refine ⟨by unfold Fit; simp only; omega, ?_⟩
  simp only [highR]
  split
  · have h2 := number_few (r := (hasF tDots (number T r).2 (next T (number T r).2)).2) hv
    unfold Fit; omega
  · show Fit (number T r).1
    unfold Fit; omega
theorem more_right {T : List Tok} {r : Rd} (h : moreD T r = true) : r.wrong = false := by
  refine right_of fun hw => ?_
  unfold moreD at h
  rw [next_wrong hw] at h
  simp [kindO, textO, tMinus] at h
def declOne (K : Nat) : Rx PDecl := seq (look nameF) fun s => seq (look (mustF tIn)) fun _ => seq (rangesR K []) fun dom => seq (addVar s) fun _ => ret ⟨s, dom⟩
theorem decls_eq (K j : Nat) (l : List PDecl) (T : List Tok) (r : Rd) : declsR K (j + 1) l T r = if (hasF tComma (declOne K T r).2 (next T (declOne K T r).2)).1 = true then declsR K j (l ++ [(declOne K T r).1]) T (hasF tComma (declOne K T r).2 (next T (declOne K T r).2)).2 else (l ++ [(declOne K T r).1], (hasF tComma (declOne K T r).2 (next T (declOne K T r).2)).2) := by
  show (if (hasF tComma (declOne K T r).2 (next T (declOne K T r).2)).1 = true then declsR K j (l ++ [(declOne K T r).1]) else ret (l ++ [(declOne K T r).1])) T (hasF tComma (declOne K T r).2 (next T (declOne K T r).2)).2 = _
  rw [if_app]
  rfl
/-- what a variable's name and 'in' leave -/
def declHead (T : List Tok) (r : Rd) : Rd := (mustF tIn (nameF r (next T r)).2 (next T (nameF r (next T r)).2)).2
theorem decl_form (K : Nat) (T : List Tok) (r : Rd) : declOne K T r = (⟨(nameF r (next T r)).1, (rangesR K [] T (declHead T r)).1⟩, { (rangesR K [] T (declHead T r)).2 with vars := (rangesR K [] T (declHead T r)).2.vars ++ [(nameF r (next T r)).1] }) := rfl
theorem block_form (K : Nat) (T : List Tok) (r : Rd) : blockR K T r = (seq (headR (hasF tForall r (next T r)).1) fun _ => seq (declsR K K []) fun vs => seq (look (hasF tWhere)) fun b => seq (whereR K b) fun cs => seq (look (mustF tSemi)) fun _ => ret ⟨(hasF tForall r (next T r)).1, vs, cs⟩) T (hasF tForall r (next T r)).2 := rfl

/-- a block's variable: three cells -/
def Box3 (w : World) (b : Nat) (x y z : Value) : Prop := w.heap[b]? = some (.cells #[x, y, z] 39)
/-- a variable's: two -/
def Box2 (w : World) (b : Nat) (x y : Value) : Prop := w.heap[b]? = some (.cells #[x, y] 36)
section
variable {w w' : World} {b g : Nat} {x y z v : Value}
theorem Box3.kind (h : Box3 w b x y z) : ∃ cs, w.heap[b]? = some (.cells cs 39) := ⟨_, h⟩
theorem Box2.kind (h : Box2 w b x y) : ∃ cs, w.heap[b]? = some (.cells cs 36) := ⟨_, h⟩
theorem Box3.lt (h : Box3 w b x y z) : b < w.heap.size := (Array.getElem?_eq_some_iff.1 h).1
theorem Box2.lt (h : Box2 w b x y) : b < w.heap.size := (Array.getElem?_eq_some_iff.1 h).1
theorem Box3.cell (h : Box3 w b x y z) (j : Nat) {u : Value} (hx : #[x, y, z][j]? = some u) : w.cell? ⟨b, j, none⟩ = some u := by
  unfold Box3 at h
  simp only [World.cell?, h]
  exact hx
theorem Box2.cell (h : Box2 w b x y) (j : Nat) {u : Value} (hx : #[x, y][j]? = some u) : w.cell? ⟨b, j, none⟩ = some u := by
  unfold Box2 at h
  simp only [World.cell?, h]
  exact hx
theorem Box3.frozen (h : Box3 w b x y z) (j : Nat) : w.frozen? ⟨b, j, none⟩ = false := frozen_of_row w b j _ 39 h
theorem Box2.frozen (h : Box2 w b x y) (j : Nat) : w.frozen? ⟨b, j, none⟩ = false := frozen_of_row w b j _ 36 h
theorem Box3.below (h : Box3 w b x y z) (hB : Below w.heap.size w w') : Box3 w' b x y z := (hB.block b h.lt).trans h
theorem Box2.below (h : Box2 w b x y) (hB : Below w.heap.size w w') : Box2 w' b x y := (hB.block b h.lt).trans h
theorem Box3.moved (h : Box3 w b x y z) (hM : Moves g none w w') (hg : ∃ cs, w.heap[g]? = some (.cells cs 58)) : Box3 w' b x y z := (hM.block b h.lt (kinds_apart h.kind hg (by decide)) (by simp)).trans h
theorem Box2.moved (h : Box2 w b x y) (hM : Moves g none w w') (hg : ∃ cs, w.heap[g]? = some (.cells cs 58)) : Box2 w' b x y := (hM.block b h.lt (kinds_apart h.kind hg (by decide)) (by simp)).trans h
theorem Box3.grown {f : Nat} (h : Box3 w b x y z) (hu : ∀ i, v.ownBlock = some i → ∃ cs, w.heap[i]? = some (.cells cs f)) (hg : w.grownBy w' v.ownBlock) (he : 39 ≠ f) : Box3 w' b x y z := (hg.block b h.lt (fun e => kinds_apart h.kind (hu b e.symm) he rfl)).trans h
theorem Box2.grown {f : Nat} (h : Box2 w b x y) (hu : ∀ i, v.ownBlock = some i → ∃ cs, w.heap[i]? = some (.cells cs f)) (hg : w.grownBy w' v.ownBlock) (he : 36 ≠ f) : Box2 w' b x y := (hg.block b h.lt (fun e => kinds_apart h.kind (hu b e.symm) he rfl)).trans h
theorem Box3.set (h : Box3 w b x y z) (u : Value) : Box3 (w.setCell ⟨b, 0, none⟩ u) b u y z ∧ Box3 (w.setCell ⟨b, 1, none⟩ u) b x u z ∧ Box3 (w.setCell ⟨b, 2, none⟩ u) b x y u := by
  unfold Box3 at *
  simp only [World.setCell, Array.getElem?_modify, h]
  exact ⟨rfl, rfl, rfl⟩
theorem Box2.set (h : Box2 w b x y) (u : Value) : Box2 (w.setCell ⟨b, 1, none⟩ u) b x u := by
  unfold Box2 at *
  simp only [World.setCell, Array.getElem?_modify, h]
  rfl
end
end Go.Proofs.YtfkakdpppejehaaGreat.Pa
