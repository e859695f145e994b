/-
  A list of constraints that the program's parser takes.
  A range that the program's parser takes.
  How far the program's parser has come with a variable. Nothing of the program's text.
-/
import Derived.Test.YtkgieaoahijheaaGreatDoorZYBA
namespace Go.Proofs.YtkgieaoahijheaaGreatDoor.Pp
open Go.RowKit
open Sc (Tok Cells str noTok)
open Pa
set_option maxRecDepth 100000

section
variable {w0 w w' : World} {g n bl ol cl nb base : Nat} {pv : Option Addr} {m cv : Nat} {T : List Tok} {len : Nat} {r : Rd} {v : Value} {L : List PCon}
theorem cons_but (h : ConsAt w base v L) (hM : But (fun i => i = g) w w') (hg : ∃ cs, w.heap[g]? = some (.cells cs 66)) : ConsAt w' base v L :=
  OwnsP.same (OwnsP.imp h (fun _ _ _ ⟨u1, u2, u3, e, o⟩ => ⟨u1, u2, u3, e, own3_but o hM hg⟩)) (fun k hk => stays_but hM hg (by decide) (OwnsP.kind h hk))
theorem ands_eqQ (K j : Nat) (l : List PCon) (T : List Tok) (r : Rd) : andsQ K (j + 1) l T r = if (hasF tAnd r (next T r)).1 = true then andsQ K j (l ++ [(conQ K T (hasF tAnd r (next T r)).2).1]) T (conQ K T (hasF tAnd r (next T r)).2).2 else (l, (hasF tAnd r (next T r)).2) := by
  show (if (hasF tAnd r (next T r)).1 = true then seq (conQ K) fun c => andsQ K j (l ++ [c]) else ret l) T (hasF tAnd r (next T r)).2 = _
  rw [if_app]
  rfl
theorem list_eqQ (K : Nat) (T : List Tok) (r : Rd) : listQ K T r = if (hasF tTrue r (next T r)).1 = true then ([], (hasF tTrue r (next T r)).2) else andsQ K K [(conQ K T (hasF tTrue r (next T r)).2).1] T (conQ K T (hasF tTrue r (next T r)).2).2 := by
  show (if (hasF tTrue r (next T r)).1 = true then ret [] else seq (conQ K) fun c => andsQ K K [c]) T (hasF tTrue r (next T r)).2 = _
  rw [if_app]
  rfl
/-- a list is handed back -/
def ListE (w : World) (L : List PCon) (w' : World) (e : Ending) : Prop := ∃ (p : Option Addr) (c : Nat), e = .returned (.slice p L.length c) ∧ ConsAt w' w.heap.size (.slice p L.length c) L
set_option maxHeartbeats 8000000 in
theorem listP_any (K : Nat) (h : PAt w g n bl ol cl nb pv m cv T len r) (hv : ∀ t ∈ T, t.value ≤ 2000000000000) (hm : m ≤ 1000000) (hK : n < K) (hn : n ≤ 9000) :
    Calls Tryz.prog 61 #[.pointer (some ⟨g, 0, none⟩)] w (Ends w (fun i => i = g) g n bl ol cl nb pv m cv T len (listQ K T r) (ListE w (listQ K T r).1)) := by
  obtain ⟨X, hX⟩ : ∃ X, X = listQ K T r := ⟨_, rfl⟩
  rw [← hX]
  rw [list_eqQ] at hX
  have MX := Lib.hid (took_any ⟨#[116, 114, 117, 101]⟩ (by decide) h)
  rw [show txt ⟨#[116, 114, 117, 101]⟩ = tTrue from rfl] at MX
  obtain ⟨b, hb⟩ : ∃ b, b = (hasF tTrue r (next T r)).1 := ⟨_, rfl⟩
  obtain ⟨r1, hr1⟩ : ∃ r1, r1 = (hasF tTrue r (next T r)).2 := ⟨_, rfl⟩
  rw [← hb, ← hr1] at MX hX
  have HX := Lib.hid hX
  clear h hX hb hr1
  cases b
  · have hx2 := HX.out
    rw [if_neg (by simp)] at hx2
    have HX2 := Lib.hid hx2
    clear hx2
    go_enter Tryz.func61, Tryz.ntmps61
    go_wp2_with fail
    refine MX.out.mono ?_
    rintro e w1 ⟨rfl, h1, hm1⟩
    have M1 := Lib.hid (mbut hm1)
    have CX := Lib.hid (conP_any K h1 hv hm hK hn)
    obtain ⟨cp, hcp⟩ : ∃ cp, cp = conQ K T r1 := ⟨_, rfl⟩
    rw [← hcp] at CX
    have HX3 := Lib.hid (show X = andsQ K K [cp.1] T cp.2 by rw [HX2.out, hcp])
    have hcw := (tame_con K).up T r1
    rw [← hcp] at hcw
    obtain ⟨c1, r2⟩ := cp
    clear h1 hm1 hcp
    go_wp2_with fail
    refine CX.out.mono ?_
    rintro e w2 ⟨hbt, ⟨hw, hr, u1, u2, u3, rfl, ho⟩ | ⟨hw, rfl⟩⟩
    rotate_left
    · have HG := Lib.hid (ends_no (T := T) (len := len) (n := n) (bl := bl) (ol := ol) (cl := cl) (base := nb) (pv := pv) (m := m) (cv := cv) (g := g) (x := X) (V := ListE w X.1) (M1.out.trans hbt (fun i _ e => e)) ((tame_ands K K [c1]).after HX3.out hw).1)
      rw [((tame_ands K K [c1]).after HX3.out hw).2] at HG
      unfold gone at HG ⊢
      clear hw hbt
      go_wp2_with fail
      exact ⟨rfl, HG.out⟩
    simp only at ho hr
    have O2 := Lib.hid ho
    have H2 := Lib.hid hr
    have M2 := Lib.hid (M1.out.trans hbt (fun i _ e => e))
    have HSZ := Lib.hid M1.out.size
    clear ho hr hbt hw
    obtain ⟨p1, l1, k1, e1⟩ : ∃ p l k, u1 = .slice p l k := by
      obtain ⟨p, k, e⟩ := O2.out.o1.shape
      exact ⟨p, _, k, e⟩
    subst e1
    obtain ⟨p2, l2, k2, e2⟩ : ∃ p l k, u2 = .slice p l k := by
      obtain ⟨p, k, e⟩ := O2.out.o2.shape
      exact ⟨p, _, k, e⟩
    subst e2
    obtain ⟨p3, l3, k3, e3⟩ : ∃ p l k, u3 = .slice p l k := by
      obtain ⟨p, k, e⟩ := O2.out.o3.shape
      exact ⟨p, _, k, e⟩
    subst e3
    have HB := Lib.hid (fun o => (Below.refl _ w2).alloc (Nat.le_refl _) o)
    have CA := Lib.hid (cons_one (O2.out.low HSZ.out) M2.out.size)
    have H3 := Lib.hid (H2.out.below (HB.out (.cells #[.int .i64 c1.kind, .slice p1 l1 k1, .slice p2 l2 k2, .int .i64 c1.rel, .int .i64 c1.const, .slice p3 l3 k3] 38)))
    have M3 := Lib.hid (M2.out.trans (But.below (F := fun i => i = g) (HB.out (.cells #[.int .i64 c1.kind, .slice p1 l1 k1, .slice p2 l2 k2, .int .i64 c1.rel, .int .i64 c1.const, .slice p3 l3 k3] 38))) (fun i _ e => e))
    go_wp2_with fail
    go_loopw [3] (fun vs wr => ∃ (j : Nat) (l : List PCon) (rr : Rd), X = andsQ K j l T rr ∧ n < j + rr.at_ ∧ l.length ≤ rr.at_ + 1 ∧ ConsAt wr w.heap.size vs l ∧ PAt wr g n bl ol cl nb pv m cv T len rr ∧ But (fun i => i = g) w wr) (fun _ wr => n - tookOf wr g)
    case atStart => exact ⟨K, [c1], r2, HX3.out, by omega, by simp, CA.out, H3.out, M3.out⟩
    case round =>
      obtain ⟨j, l, rr, hqr, hnj, hll, hca, hrd, hbt⟩ := hrel
      have htp := hrd.top
      obtain ⟨j', rfl⟩ : ∃ j', j = j' + 1 := ⟨j - 1, by omega⟩
      rw [ands_eqQ] at hqr
      have AX := Lib.hid (took_any ⟨#[97, 110, 100]⟩ (by decide) hrd)
      rw [show txt ⟨#[97, 110, 100]⟩ = tAnd from rfl] at AX
      obtain ⟨ba, hba⟩ : ∃ ba, ba = (hasF tAnd rr (next T rr)).1 := ⟨_, rfl⟩
      obtain ⟨ra, hra⟩ : ∃ ra, ra = (hasF tAnd rr (next T rr)).2 := ⟨_, rfl⟩
      have HON := Lib.hid (show ba = true → ra = step1 rr from fun e => by rw [hra]; exact has_on (by rw [← hba, e]))
      rw [← hba, ← hra] at AX hqr
      have HQR := Lib.hid hqr
      have HCA := Lib.hid hca
      have HRD := Lib.hid hrd
      have HBT := Lib.hid hbt
      have HTK := Lib.hid (took_at hrd)
      obtain ⟨pv', cv', hsl⟩ := OwnsP.shape hca
      have HSL := Lib.hid hsl
      clear hqr hca hrd hbt hba hra hsl
      cases ba
      · have hq4 := HQR.out
        rw [if_neg (by simp)] at hq4
        have HQ4 := Lib.hid hq4
        clear hq4
        go_wp2_with fail
        refine AX.out.mono ?_
        rintro e w4 ⟨rfl, h4, hm4⟩
        have HC4 := Lib.hid (cons_but HCA.out (mbut hm4) HRD.out.ty)
        have HB4 := Lib.hid (HBT.out.trans (mbut hm4) (fun i _ e => e))
        have H4 := Lib.hid h4
        clear h4 hm4
        go_wp2_with fail
        go_ret
        exact ⟨HB4.out, .inl ⟨by rw [HQ4.out]; exact H4.out.ok, by rw [HQ4.out]; exact H4.out, pv', cv', by rw [HQ4.out]; exact congrArg _ HSL.out, by rw [HQ4.out, ← HSL.out]; exact HC4.out⟩⟩
      · have hq4 := HQR.out
        rw [if_pos rfl] at hq4
        have hra := HON.out rfl
        have HQ4 := Lib.hid hq4
        have hat : ra.at_ = rr.at_ + 1 := by rw [hra]; rfl
        clear hq4 hra
        go_wp2_with fail
        refine AX.out.mono ?_
        rintro e w4 ⟨rfl, h4, hm4⟩
        have HC4 := Lib.hid (cons_but HCA.out (mbut hm4) HRD.out.ty)
        have HB4 := Lib.hid (HBT.out.trans (mbut hm4) (fun i _ e => e))
        have CX := Lib.hid (conP_any K h4 hv hm hK hn)
        have H4 := Lib.hid h4
        obtain ⟨cp, hcp⟩ : ∃ cp, cp = conQ K T ra := ⟨_, rfl⟩
        rw [← hcp] at CX
        have HQ5 := Lib.hid (show X = andsQ K j' (l ++ [cp.1]) T cp.2 by rw [HQ4.out, hcp])
        have HUP := Lib.hid (show ra.at_ ≤ cp.2.at_ by rw [hcp]; exact (tame_con K).up T ra)
        obtain ⟨c2, r5⟩ := cp
        clear h4 hm4 hcp
        go_wp2_with fail
        refine CX.out.mono ?_
        rintro e w5 ⟨hbt, ⟨hw, hr, u1, u2, u3, rfl, ho⟩ | ⟨hw, rfl⟩⟩
        rotate_left
        · have HG := Lib.hid (ends_no (T := T) (len := len) (n := n) (bl := bl) (ol := ol) (cl := cl) (base := nb) (pv := pv) (m := m) (cv := cv) (g := g) (x := X) (V := ListE w X.1) (HB4.out.trans hbt (fun i _ e => e)) ((tame_ands K j' (l ++ [c2])).after HQ5.out hw).1)
          rw [((tame_ands K j' (l ++ [c2])).after HQ5.out hw).2] at HG
          unfold gone at HG ⊢
          clear hw hbt
          go_wp2_with fail
          exact ⟨rfl, HG.out⟩
        simp only at ho hr
        have O5 := Lib.hid (ho.low (show w.heap.size ≤ w4.heap.size from HB4.out.size))
        have H5 := Lib.hid hr
        have HC5 := Lib.hid (cons_but HC4.out hbt H4.out.ty)
        have HB5 := Lib.hid (HB4.out.trans hbt (fun i _ e => e))
        clear ho hr hbt hw
        obtain ⟨p1, l1, k1, e1⟩ : ∃ p l k, u1 = .slice p l k := by
          obtain ⟨p, k, e⟩ := O5.out.o1.shape
          exact ⟨p, _, k, e⟩
        subst e1
        obtain ⟨p2, l2, k2, e2⟩ : ∃ p l k, u2 = .slice p l k := by
          obtain ⟨p, k, e⟩ := O5.out.o2.shape
          exact ⟨p, _, k, e⟩
        subst e2
        obtain ⟨p3, l3, k3, e3⟩ : ∃ p l k, u3 = .slice p l k := by
          obtain ⟨p, k, e⟩ := O5.out.o3.shape
          exact ⟨p, _, k, e⟩
        subst e3
        have HB := Lib.hid (fun o => (Below.refl _ w5).alloc (Nat.le_refl _) o)
        have HC6 := Lib.hid (HC5.out.below (HB.out (.cells #[.int .i64 c2.kind, .slice p1 l1 k1, .slice p2 l2 k2, .int .i64 c2.rel, .int .i64 c2.const, .slice p3 l3 k3] 38)))
        have H6 := Lib.hid (H5.out.below (HB.out (.cells #[.int .i64 c2.kind, .slice p1 l1 k1, .slice p2 l2 k2, .int .i64 c2.rel, .int .i64 c2.const, .slice p3 l3 k3] 38)))
        have O6 := Lib.hid (O5.out.below (HB.out (.cells #[.int .i64 c2.kind, .slice p1 l1 k1, .slice p2 l2 k2, .int .i64 c2.rel, .int .i64 c2.const, .slice p3 l3 k3] 38)))
        have HB6 := Lib.hid (HB5.out.trans (But.below (F := fun i => i = g) (HB.out (.cells #[.int .i64 c2.kind, .slice p1 l1 k1, .slice p2 l2 k2, .int .i64 c2.rel, .int .i64 c2.const, .slice p3 l3 k3] 38))) (fun i _ e => e))
        have HX6 := Lib.hid (Box6.new w5 c2.kind (.slice p1 l1 k1) (.slice p2 l2 k2) c2.rel c2.const (.slice p3 l3 k3))
        have hl6 : l.length ≤ 100000 := by omega
        have HS6 := Lib.hid HB6.out.size
        go_wp2_with (at_builtin; refine put_con rfl _ _ rfl rfl rfl HC6.out HX6.out O6.out hl6 HS6.out ?_; intro p cap w7 hc7 hg7 ha7; have HC7 := Lib.hid hc7; have H7 := Lib.hid (H6.out.row (fun k hk => OwnsP.kind HC6.out hk) hg7 (by decide) (by decide) (by decide)); have HB7 := Lib.hid (HB6.out.trans (But.grown hg7 (F := fun i => w.heap.size ≤ i) (fun k e _ => (OwnsP.lt HC6.out k e).1)) (fun i hi e => absurd e (by omega))); clear hc7 hg7 ha7)
        go_roundw
        case rel => exact ⟨j', _, r5, HQ5.out, by have := HUP.out; omega, by have := HUP.out; simp; omega, HC7.out, H7.out, HB7.out⟩
        case measure =>
          have h1 := HUP.out
          have h2 := H7.out.top
          rw [took_at H7.out, HTK.out]
          omega
  · have hx2 := HX.out
    rw [if_pos rfl] at hx2
    have HX2 := Lib.hid hx2
    clear hx2
    go_enter Tryz.func61, Tryz.ntmps61
    go_wp2_with fail
    refine MX.out.mono ?_
    rintro e w1 ⟨rfl, h1, hm1⟩
    have H1 := Lib.hid h1
    have M1 := Lib.hid (mbut hm1)
    clear h1 hm1
    go_wp2_with fail
    go_ret
    exact ⟨M1.out, .inl ⟨by rw [HX2.out]; exact H1.out.ok, by rw [HX2.out]; exact H1.out, none, 0, by rw [HX2.out]; rfl, by rw [HX2.out]; exact cons_nil _ _⟩⟩
end
end Go.Proofs.YtkgieaoahijheaaGreatDoor.Pp
namespace Go.Proofs.YtkgieaoahijheaaGreatDoor.Pp
open Go.RowKit
open Sc (Tok Cells str noTok)
open Pa
set_option maxRecDepth 100000

section
variable {w0 w w' : World} {g n bl ol cl nb base : Nat} {pv : Option Addr} {m cv : Nat} {T : List Tok} {len : Nat} {r : Rd} {v : Value}
theorem results_span {fn : Func} {p : Tmp} (h : fn.results = #[.cell p 71]) (tmps : Array Value) (w : World) (b : Nat) (v0 v1 : Value) (hp : tmps.getD p undef = .pointer (some ⟨b, 0, none⟩)) (c0 : w.cell? ⟨b, 0, none⟩ = some v0) (c1 : w.cell? ⟨b, 1, none⟩ = some v1) :
    (results fn tmps).run Tryz.prog w = .ok (.agg #[v0, v1]) w := by
  have hp' : tmps[p]?.getD undef = .pointer (some ⟨b, 0, none⟩) := by simpa using hp
  simp only [results, h]
  simp [hp', asAddr]
  go_simp
theorem results_decl {fn : Func} {p : Tmp} (h : fn.results = #[.cell p 45]) (tmps : Array Value) (w : World) (b : Nat) (v0 v1 : Value) (hp : tmps.getD p undef = .pointer (some ⟨b, 0, none⟩)) (c0 : w.cell? ⟨b, 0, none⟩ = some v0) (c1 : w.cell? ⟨b, 1, none⟩ = some v1) :
    (results fn tmps).run Tryz.prog w = .ok (.agg #[v0, v1]) w := by
  have hp' : tmps[p]?.getD undef = .pointer (some ⟨b, 0, none⟩) := by simpa using hp
  simp only [results, h]
  simp [hp', asAddr]
  go_simp
theorem span_kind {b j t : Nat} {x : Value} (h : ∃ cs, w.heap[b]? = some (.cells cs t)) : ∃ cs, (w.setCell ⟨b, j, none⟩ x).heap[b]? = some (.cells cs t) := by
  obtain ⟨cs, e⟩ := h
  refine ⟨cs.setIfInBounds j x, ?_⟩
  simp only [World.setCell, Array.getElem?_modify, e]
  rfl
set_option maxHeartbeats 4000000 in
theorem span_any (h : PAt w g n bl ol cl nb pv m cv T len r) (hv : ∀ t ∈ T, t.value ≤ 2000000000000) :
    Calls Tryz.prog 96 #[.pointer (some ⟨g, 0, none⟩)] w (Ends w (fun i => i = g) g n bl ol cl nb pv m cv T len (rangeOne T r) fun _ e => e = .returned (.agg #[.int .i64 (rangeOne T r).1.1, .int .i64 (rangeOne T r).1.2])) := by
  obtain ⟨X, hX⟩ : ∃ X, X = rangeOne T r := ⟨_, rfl⟩
  rw [← hX]
  rw [range_form] at hX
  have NX := Lib.hid (fun o => number_any (h.below ((Below.refl _ w).alloc (Nat.le_refl _) o)) hv)
  have HB0 := Lib.hid (fun o => (Below.refl _ w).alloc (Nat.le_refl _) o)
  obtain ⟨xn, hxn⟩ : ∃ xn, xn = number T r := ⟨_, rfl⟩
  rw [← hxn] at hX NX
  obtain ⟨z, r1⟩ := xn
  simp only at hX
  have HX := Lib.hid hX
  have HGL := Lib.hid h.ty
  have HLT := Lib.hid h.glt
  clear h hX hxn
  go_enter Tryz.func96, Tryz.ntmps96
  go_wp2_with fail
  refine (NX.out _).mono ?_
  rintro e w1 ⟨hB, ⟨hw, hP, rfl⟩ | ⟨hw, rfl⟩⟩
  rotate_left
  · have HG := Lib.hid (ends_no (T := T) (len := len) (n := n) (bl := bl) (ol := ol) (cl := cl) (base := nb) (pv := pv) (m := m) (cv := cv) (g := g) (x := X) (V := fun _ e => e = .returned (.agg #[.int .i64 X.1.1, .int .i64 X.1.2])) ((But.below (HB0.out _)).trans (G := fun i => i = g) hB (fun i _ e => e)) (by rw [HX.out]; exact (tame_high _ _).wrong _ _ ((tame_has (s := tDots) (by decide)).wrong T r1 hw)))
    rw [show X.2.at_ = r1.at_ by rw [HX.out]; exact ((tame_high _ _).stay _ _ ((tame_has (s := tDots) (by decide)).wrong T r1 hw)).trans ((tame_has (s := tDots) (by decide)).stay T r1 hw)] at HG
    unfold gone at HG ⊢
    clear hw hB
    go_wp2_with fail
    exact ⟨rfl, HG.out⟩
  have H1 := Lib.hid hP
  have B1 := Lib.hid ((But.below (HB0.out (.cells #[.int .i64 0, .int .i64 0] 71))).trans (G := fun i => i = g) hB (fun i _ e => e))
  have hx0 : w1.heap[w.heap.size]? = some (.cells #[.int .i64 0, .int .i64 0] 71) := (hB.block _ (by simp) (by have := HLT.out; omega)).trans (heap_alloc_new w _)
  have HX0 := Lib.hid hx0
  have DX := Lib.hid (took_any ⟨#[46, 46]⟩ (by decide) hP)
  rw [show txt ⟨#[46, 46]⟩ = tDots from rfl] at DX
  obtain ⟨xd, hxd⟩ : ∃ xd, xd = hasF tDots r1 (next T r1) := ⟨_, rfl⟩
  have hX2 := HX.out
  rw [← hxd] at hX2 DX
  obtain ⟨b, r2⟩ := xd
  simp only at hX2 DX
  have HX2 := Lib.hid hX2
  clear hB hw hP hx0 hxd hX2
  cases b
  · have HX3 := Lib.hid (show X = ((z, z), r2) from HX2.out)
    go_wp2_with fail
    refine DX.out.mono ?_
    rintro e w2 ⟨rfl, hP, hM⟩
    have hx2 : w2.heap[w.heap.size]? = some (.cells #[.int .i64 0, .int .i64 0] 71) := (stays_but (mbut hM) H1.out.ty (by decide) ⟨_, HX0.out⟩).trans HX0.out
    have c0 := cell_of_row w2 w.heap.size 0 _ 71 (0, 0) hx2
    have f0 := frozen_of_row w2 w.heap.size 0 _ 71 hx2
    have c1 := cell_of_row w2 w.heap.size 1 _ 71 (0, 0) hx2
    have f1 := frozen_of_row w2 w.heap.size 1 _ 71 hx2
    have B2 := B1.out.trans (mbut hM) (fun i _ e => e)
    have HE := Lib.hid (show Ends w (fun i => i = g) g n bl ol cl nb pv m cv T len X (fun _ e => e = .returned (.agg #[.int .i64 X.1.1, .int .i64 X.1.2])) (.returned (.agg #[.int .i64 z, .int .i64 z])) ((w2.setCell ⟨w.heap.size, 0, none⟩ (.int .i64 z)).setCell ⟨w.heap.size, 1, none⟩ (.int .i64 z)) from by
      rw [HX3.out]
      exact ⟨(B2.trans (G := fun i => i = w.heap.size) (But.set _ _ fun _ => rfl) (fun i hi e => by omega)).trans (G := fun i => i = w.heap.size) (But.set _ _ fun _ => rfl) (fun i hi e => by omega), .inl ⟨hP.ok, (hP.put ⟨_, hx2⟩ (by decide) (by decide) (by decide)).put (span_kind ⟨_, hx2⟩) (by decide) (by decide) (by decide), rfl⟩⟩)
    clear hP hM hx2 B2
    go_wp2_with fail
    (try simp only [Exit.inBlock, Exit.then])
    refine bodyPost_ret (results_span rfl _ _ w.heap.size (.int .i64 z) (.int .i64 z) rfl ?_ ?_) rfl ?_
    · go_simp
    · go_simp
    · exact HE.out
  · obtain ⟨xh, hxh⟩ : ∃ xh, xh = number T r2 := ⟨_, rfl⟩
    have HX3 := Lib.hid (show X = ((z, xh.1), xh.2) by rw [hxh]; exact HX2.out)
    have HXH := Lib.hid hxh
    obtain ⟨y, r3⟩ := xh
    simp only at HX3
    clear hxh
    go_wp2_with fail
    refine DX.out.mono ?_
    rintro e w2 ⟨rfl, hP, hM⟩
    have NY := Lib.hid (number_any hP hv)
    rw [← HXH.out] at NY
    have hx2 : w2.heap[w.heap.size]? = some (.cells #[.int .i64 0, .int .i64 0] 71) := (stays_but (mbut hM) H1.out.ty (by decide) ⟨_, HX0.out⟩).trans HX0.out
    have HXB := Lib.hid hx2
    have H2 := Lib.hid hP
    have B2 := Lib.hid (B1.out.trans (mbut hM) (fun i _ e => e))
    clear hP hM hx2
    go_wp2_with fail
    refine NY.out.mono ?_
    rintro e w3 ⟨hB, ⟨hw, hP, rfl⟩ | ⟨hw, rfl⟩⟩
    · have hx2 : w3.heap[w.heap.size]? = some (.cells #[.int .i64 0, .int .i64 0] 71) := (stays_but hB H2.out.ty (by decide) ⟨_, HXB.out⟩).trans HXB.out
      have c0 := cell_of_row w3 w.heap.size 0 _ 71 (0, 0) hx2
      have f0 := frozen_of_row w3 w.heap.size 0 _ 71 hx2
      have c1 := cell_of_row w3 w.heap.size 1 _ 71 (0, 0) hx2
      have f1 := frozen_of_row w3 w.heap.size 1 _ 71 hx2
      have B3 := B2.out.trans hB (fun i _ e => e)
      have HE := Lib.hid (show Ends w (fun i => i = g) g n bl ol cl nb pv m cv T len X (fun _ e => e = .returned (.agg #[.int .i64 X.1.1, .int .i64 X.1.2])) (.returned (.agg #[.int .i64 z, .int .i64 y])) ((w3.setCell ⟨w.heap.size, 0, none⟩ (.int .i64 z)).setCell ⟨w.heap.size, 1, none⟩ (.int .i64 y)) from by
        rw [HX3.out]
        exact ⟨(B3.trans (G := fun i => i = w.heap.size) (But.set _ _ fun _ => rfl) (fun i hi e => by omega)).trans (G := fun i => i = w.heap.size) (But.set _ _ fun _ => rfl) (fun i hi e => by omega), .inl ⟨hw, (hP.put ⟨_, hx2⟩ (by decide) (by decide) (by decide)).put (span_kind ⟨_, hx2⟩) (by decide) (by decide) (by decide), rfl⟩⟩)
      clear hw hP hB hx2 B3
      go_wp2_with fail
      (try simp only [Exit.inBlock, Exit.then])
      refine bodyPost_ret (results_span rfl _ _ w.heap.size (.int .i64 z) (.int .i64 y) rfl ?_ ?_) rfl ?_
      · go_simp
      · go_simp
      · exact HE.out
    · have HG := Lib.hid (ends_no (T := T) (len := len) (n := n) (bl := bl) (ol := ol) (cl := cl) (base := nb) (pv := pv) (m := m) (cv := cv) (g := g) (x := X) (V := fun _ e => e = .returned (.agg #[.int .i64 X.1.1, .int .i64 X.1.2])) (B2.out.trans hB (fun i _ e => e)) (by rw [HX3.out]; exact hw))
      rw [show X.2.at_ = r3.at_ by rw [HX3.out]] at HG
      unfold gone at HG ⊢
      clear hw hB
      go_wp2_with fail
      exact ⟨rfl, HG.out⟩
end
end Go.Proofs.YtkgieaoahijheaaGreatDoor.Pp
namespace Go.Proofs.YtkgieaoahijheaaGreatDoor.Pp
open Go.RowKit
open Sc (Tok Cells str noTok)
open Pa
set_option maxRecDepth 100000

/-- a parser's own block, and that of its names -/
def NF (g : Nat) (v : Value) (k : Nat) : Prop := k = g ∨ v.ownBlock = some k
/-- what is said of a call that may take names in -/
def NEnds {α : Type} (w : World) (g n bl ol cl nb : Nat) (v0 : Value) (T : List Tok) (len : Nat) (x : α × Rd) (V : World → Ending → Prop) (e : Ending) (w' : World) : Prop :=
  But (NF g v0) w w' ∧ ((x.2.wrong = false ∧ (∃ (pv : Option Addr) (m cv : Nat), PAt w' g n bl ol cl nb pv m cv T len x.2 ∧ (∀ k, (Value.slice pv m cv).ownBlock = some k → NF g v0 k ∨ w.heap.size ≤ k) ∧ m ≤ x.2.at_) ∧ V w' e) ∨ (x.2.wrong = true ∧ e = gone (tokP T len x.2.at_).at_))
section
variable {w0 w w' : World} {g n bl ol cl nb base B : Nat} {v0 : Value} {pv : Option Addr} {m cv : Nat} {T : List Tok} {len : Nat} {r r' : Rd} {v v1 : Value} {s : ByteArray} {L : List (Int × Int)}
theorem nends_no {α : Type} {x : α × Rd} {V : World → Ending → Prop} {rx : Rd} (hB : But (NF g v0) w w') (h : x.2.wrong = true ∧ x.2.at_ = rx.at_) : NEnds w g n bl ol cl nb v0 T len x V (gone (tokP T len rx.at_).at_) w' := ⟨hB, .inr ⟨h.1, by rw [h.2]⟩⟩
theorem but_nf (h : But (NF g v0) w0 w) (hM : But (fun i => i = g) w w') : But (NF g v0) w0 w' := h.trans hM (fun _ _ e => .inl e)
theorem nf_but (hM : But (fun i => i = g) w w') : But (NF g v0) w w' := (But.refl _ w).trans hM (fun _ _ e => .inl e)
structure DAt (w0 w : World) (g n bl ol cl nb : Nat) (v0 : Value) (T : List Tok) (len B : Nat) (s : ByteArray) (v1 : Value) (L : List (Int × Int)) (r : Rd) (pv : Option Addr) (m cv : Nat) : Prop where
  rd : PAt w g n bl ol cl nb pv m cv T len r
  box : Box2 w B (.string s) v1
  res : Box2 w w0.heap.size (.string ⟨#[]⟩) (.slice none 0 0)
  dom : OwnsP spanP 2 71 (w0.heap.size + 1) w v1 L
  but : But (NF g v0) w0 w
  fn : ∀ k, (Value.slice pv m cv).ownBlock = some k → NF g v0 k ∨ w0.heap.size ≤ k
  new : w0.heap.size + 1 ≤ B
theorem DAt.moved (h : DAt w0 w g n bl ol cl nb v0 T len B s v1 L r pv m cv) (hR : PAt w' g n bl ol cl nb pv m cv T len r') (hM : But (fun i => i = g) w w') : DAt w0 w' g n bl ol cl nb v0 T len B s v1 L r' pv m cv :=
  ⟨hR, (stays_but hM h.rd.ty (by decide) h.box.kind).trans h.box, (stays_but hM h.rd.ty (by decide) h.res.kind).trans h.res, owns_but h.dom hM h.rd.ty (by decide), but_nf h.but hM, h.fn, h.new⟩
theorem DAt.below (h : DAt w0 w g n bl ol cl nb v0 T len B s v1 L r pv m cv) (hB : Below w.heap.size w w') : DAt w0 w' g n bl ol cl nb v0 T len B s v1 L r pv m cv :=
  ⟨h.rd.below hB, h.box.below hB, h.res.below hB, h.dom.below hB, h.but.trans (G := fun _ => False) (But.below hB) (fun _ _ e => e.elim), h.fn, h.new⟩
theorem named_ty (hg : w.grownBy w' v.ownBlock) (hk : ∀ k, v.ownBlock = some k → ∃ cs, w.heap[k]? = some (.cells cs 9)) {b e : Nat} (hb : ∃ cs, w.heap[b]? = some (.cells cs e)) (he : e ≠ 9) : w'.heap[b]? = w.heap[b]? :=
  hg.block b (Array.getElem?_eq_some_iff.1 hb.choose_spec).1 (fun e' => kinds_apart hb (hk b e'.symm) he rfl)
/-- one name more -/
theorem DAt.name {p : Option Addr} {cap : Nat} {q : Txt} (h : DAt w0 w g n bl ol cl nb v0 T len B s v1 L r pv m cv) (hn : OwnsP nameP 1 9 nb w' (.slice p (r.vars.length + 1) cap) (r.vars ++ [q])) (hg : w.grownBy w' (Value.slice pv m cv).ownBlock) (hat : (Value.slice p (r.vars.length + 1) cap).ownBlock = (Value.slice pv m cv).ownBlock ∨ (Value.slice p (r.vars.length + 1) cap).ownBlock = some w.heap.size) :
    DAt w0 (w'.setCell ⟨g, 2, none⟩ (.slice p (r.vars.length + 1) cap)) g n bl ol cl nb v0 T len B s v1 L { r with vars := r.vars ++ [q] } p (r.vars.length + 1) cap := by
  have hk : ∀ k, (Value.slice pv m cv).ownBlock = some k → ∃ cs, w.heap[k]? = some (.cells cs 9) := fun k e => h.rd.nm.kind e
  have hty : ∃ cs, w'.heap[g]? = some (.cells cs 66) := by rw [named_ty hg hk h.rd.ty (by decide)]; exact h.rd.ty
  have e1 := named_ty hg hk h.box.kind (by decide)
  have e2 := named_ty hg hk h.res.kind (by decide)
  have hb1 : Box2 w' B (.string s) v1 := e1.trans h.box
  have hb2 : Box2 w' w0.heap.size (.string ⟨#[]⟩) (.slice none 0 0) := e2.trans h.res
  refine ⟨h.rd.named hg hn, (Below.heap_setCell _ _ _ _ (kinds_apart hb1.kind hty (by decide))).trans hb1, (Below.heap_setCell _ _ _ _ (kinds_apart hb2.kind hty (by decide))).trans hb2, OwnsP.set (OwnsP.grown h.dom hk hg (by decide)) hty (by decide),
    (h.but.trans (G := fun i => (Value.slice pv m cv).ownBlock = some i) (But.grown hg fun k e _ => e) (fun i hi e => (h.fn i e).resolve_right (by omega))).trans (G := fun i => i = g) (But.set ⟨g, 2, none⟩ _ fun _ => rfl) (fun i _ e => .inl e), fun k e => ?_, h.new⟩
  rcases hat with q | q
  · exact h.fn k (q ▸ e)
  · rw [q] at e
    cases e
    have := h.but.size
    exact .inr (by omega)
theorem DAt.setDom {v2 : Value} {M : List (Int × Int)} (h : DAt w0 w g n bl ol cl nb v0 T len B s v1 L r pv m cv) (ho : OwnsP spanP 2 71 (w0.heap.size + 1) w v2 M) : DAt w0 (w.setCell ⟨B, 1, none⟩ v2) g n bl ol cl nb v0 T len B s v2 M r pv m cv :=
  ⟨h.rd.put h.box.kind (by decide) (by decide) (by decide), h.box.set v2, (Below.heap_setCell w ⟨B, 1, none⟩ v2 _ (show w0.heap.size ≠ B by have := h.new; omega)).trans h.res, OwnsP.set ho h.box.kind (by decide), h.but.trans (G := fun i => i = B) (But.set ⟨B, 1, none⟩ v2 fun _ => rfl) (fun i hi (e : i = B) => by have := h.new; omega), h.fn, h.new⟩
/-- the first range -/
theorem span_one {lo hi : Int} (h1 : Fit lo) (h2 : Fit hi) (hb : base ≤ w.heap.size) : OwnsP spanP 2 71 base (w.alloc (.cells #[.int .i64 lo, .int .i64 hi] 71)) (.slice (some ⟨w.heap.size, 0, none⟩) 1 1) [(lo, hi)] := by
  refine ⟨[.int .i64 lo, .int .i64 hi], ⟨rfl, .inr ⟨w.heap.size, 1, _, rfl, hb, heap_alloc_new w _, Nat.le_refl _, by unfold maxLen; omega, rfl, rfl⟩⟩, rfl, fun k a hk => ?_⟩
  have hk1 := (List.getElem?_eq_some_iff.1 hk).1
  obtain rfl : k = 0 := by simp at hk1; omega
  obtain rfl : (lo, hi) = a := by simpa using hk
  exact ⟨_, rfl, fun j _ => by simp, rfl, h1, h2⟩
/-- ranges in a row of their own grow -/
theorem DAt.grown {v2 : Value} {M : List (Int × Int)} (h : DAt w0 w g n bl ol cl nb v0 T len B s v1 L r pv m cv) (ho : OwnsP spanP 2 71 (w0.heap.size + 1) w' v2 M) (hg : w.grownBy w' v1.ownBlock) : DAt w0 (w'.setCell ⟨B, 1, none⟩ v2) g n bl ol cl nb v0 T len B s v2 M r pv m cv := by
  have hk : ∀ k, v1.ownBlock = some k → ∃ cs, w.heap[k]? = some (.cells cs 71) := fun k e => h.dom.kind e
  have hb : Box2 w' B (.string s) v1 := h.box.grown hk hg (by decide)
  have hs := h.but.size
  exact ⟨(h.rd.row hk hg (by decide) (by decide) (by decide)).put hb.kind (by decide) (by decide) (by decide), hb.set v2, (Below.heap_setCell w' ⟨B, 1, none⟩ v2 _ (show w0.heap.size ≠ B by have := h.new; omega)).trans (h.res.grown hk hg (by decide)), OwnsP.set ho hb.kind (by decide),
    (h.but.trans (G := fun i => v1.ownBlock = some i) (But.grown hg fun k e _ => e) (fun i hi e => absurd (h.dom.lt i e).1 (by omega))).trans (G := fun i => i = B) (But.set ⟨B, 1, none⟩ v2 fun _ => rfl) (fun i hi (e : i = B) => by have := h.new; omega), h.fn, h.new⟩
/-- a variable is handed back -/
def DeclE (w : World) (d : PDecl) (w' : World) (e : Ending) : Prop := ∃ (s : ByteArray) (p : Option Addr) (c : Nat), e = .returned (.agg #[.string s, .slice p d.dom.length c]) ∧ txt s = d.name ∧ OwnsP spanP 2 71 w.heap.size w' (.slice p d.dom.length c) d.dom
def restD (K : Nat) (s : Txt) : Rx PDecl := seq (addVar s) fun _ => seq (Pa.look (mustF tIn)) fun _ => seq rangeOne fun d => seq (spansQ K [d]) fun dom => ret ⟨s, dom⟩
theorem decl_formQ (K : Nat) (T : List Tok) (r : Rd) : declQ K T r = restD K (nameF r (next T r)).1 T (nameF r (next T r)).2 := rfl
theorem tame_restD (K : Nat) (s : Txt) : Tame (restD K s) := tame_seq (tame_add _) fun _ => tame_seq (tame_must (by decide)) fun _ => tame_seq tame_one fun _ => tame_seq (tame_spans _ _) fun _ => tame_ret _
def spansD (j : Nat) (s : Txt) (L : List (Int × Int)) : Rx PDecl := seq (spansQ j L) fun dom => ret ⟨s, dom⟩
theorem tame_spansD (j : Nat) (s : Txt) (L : List (Int × Int)) : Tame (spansD j s L) := tame_seq (tame_spans _ _) fun _ => tame_ret _
theorem spansD_eq (j : Nat) (s : Txt) (l : List (Int × Int)) (T : List Tok) (r : Rd) : spansD (j + 1) s l T r = if (decide (kindO (next T r) = 2) || decide (textO (next T r) = tMinus)) = true then spansD j s (l ++ [(rangeOne T r).1]) T (rangeOne T r).2 else (⟨s, l⟩, r) := by
  show ((⟨s, ((if (decide (kindO (next T r) = 2) || decide (textO (next T r) = tMinus)) = true then seq rangeOne fun d => spansQ j (l ++ [d]) else ret l) T r).1⟩ : PDecl), ((if (decide (kindO (next T r) = 2) || decide (textO (next T r) = tMinus)) = true then seq rangeOne fun d => spansQ j (l ++ [d]) else ret l) T r).2) = _
  rw [if_app]
  split <;> rfl
end
end Go.Proofs.YtkgieaoahijheaaGreatDoor.Pp
