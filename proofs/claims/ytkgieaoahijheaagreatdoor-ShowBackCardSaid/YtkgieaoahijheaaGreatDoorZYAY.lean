/-
  How far the program's parser has come with a constraint: its own cells, the constraint's, and what else has turned. Nothing of the program's text.
  A term that the program's parser takes.
  A sum that the program's parser takes.
-/
import Derived.Test.YtkgieaoahijheaaGreatDoorZYAX
import Derived.Deep.RegionLaw
import Derived.Deep.CutBlock
import Derived.Deep.DeepCutAuto
namespace Go.Proofs.YtkgieaoahijheaaGreatDoor.Pp
open Go.RowKit
open Sc (Tok Cells str noTok)
open Pa
set_option maxRecDepth 100000

section
variable {w0 w w' : World} {F : Nat → Prop} {g n bl ol cl nb : Nat} {pv : Option Addr} {m cv : Nat} {T : List Tok} {len : Nat} {B base : Nat} {c : PCon} {r r' : Rd} {u1 u2 u3 v v' : Value} {k rr tt : Int}
/-- only g turns: what is of another type stays -/
theorem stays_but {e : Nat} (hM : But (fun i => i = g) w w') (hg : ∃ cs, w.heap[g]? = some (.cells cs 66)) (he : e ≠ 66) {k : Nat} (hk : ∃ cs, w.heap[k]? = some (.cells cs e)) : w'.heap[k]? = w.heap[k]? :=
  hM.block k (Array.getElem?_eq_some_iff.1 hk.choose_spec).1 (kinds_apart hk hg he)
theorem own3_but (h : Own3 w base c u1 u2 u3) (hM : But (fun i => i = g) w w') (hg : ∃ cs, w.heap[g]? = some (.cells cs 66)) : Own3 w' base c u1 u2 u3 :=
  h.same fun _ hk => stays_but hM hg (by decide) hk
theorem box6_but (h : Box6 w B k u1 u2 rr tt u3) (hM : But (fun i => i = g) w w') (hg : ∃ cs, w.heap[g]? = some (.cells cs 66)) : Box6 w' B k u1 u2 rr tt u3 :=
  h.same (stays_but hM hg (by decide) h.kind)
structure KAt (w0 w : World) (F : Nat → Prop) (g n bl ol cl nb : Nat) (pv : Option Addr) (m cv : Nat) (T : List Tok) (len : Nat) (B base : Nat) (c : PCon) (r : Rd) (u1 u2 u3 : Value) : Prop where
  rd : PAt w g n bl ol cl nb pv m cv T len r
  own : Own3 w base c u1 u2 u3
  box : Box6 w B c.kind u1 u2 c.rel c.const u3
  but : But F w0 w
  fg : F g
  fb : F B ∨ w0.heap.size ≤ B
  f1 : ∀ k, u1.ownBlock = some k → F k ∨ w0.heap.size ≤ k
  f2 : ∀ k, u2.ownBlock = some k → F k ∨ w0.heap.size ≤ k
  f3 : ∀ k, u3.ownBlock = some k → F k ∨ w0.heap.size ≤ k
  low : base ≤ w.heap.size
theorem KAt.moved (h : KAt w0 w F g n bl ol cl nb pv m cv T len B base c r u1 u2 u3) (hR : PAt w' g n bl ol cl nb pv m cv T len r') (hM : But (fun i => i = g) w w') : KAt w0 w' F g n bl ol cl nb pv m cv T len B base c r' u1 u2 u3 :=
  ⟨hR, own3_but h.own hM h.rd.ty, box6_but h.box hM h.rd.ty, h.but.trans hM (fun _ _ e => e ▸ h.fg), h.fg, h.fb, h.f1, h.f2, h.f3, Nat.le_trans h.low hM.size⟩
theorem KAt.below (h : KAt w0 w F g n bl ol cl nb pv m cv T len B base c r u1 u2 u3) (hB : Below w.heap.size w w') : KAt w0 w' F g n bl ol cl nb pv m cv T len B base c r u1 u2 u3 :=
  ⟨h.rd.below hB, h.own.below hB, h.box.below hB, h.but.trans (G := fun _ => False) (But.below hB) (fun _ _ e => e.elim), h.fg, h.fb, h.f1, h.f2, h.f3, Nat.le_trans h.low hB.size⟩
theorem KAt.store {j : Nat} {x : Value} (h : KAt w0 w F g n bl ol cl nb pv m cv T len B base c r u1 u2 u3) : PAt (w.setCell ⟨B, j, none⟩ x) g n bl ol cl nb pv m cv T len r ∧ Own3 (w.setCell ⟨B, j, none⟩ x) base c u1 u2 u3 ∧ But F w0 (w.setCell ⟨B, j, none⟩ x) ∧ base ≤ (w.setCell ⟨B, j, none⟩ x).heap.size :=
  ⟨h.rd.put h.box.kind (by decide) (by decide) (by decide), h.own.set h.box.kind, h.but.trans (G := fun i => i = B) (But.set ⟨B, j, none⟩ x fun _ => rfl) (fun i hi (e : i = B) => e ▸ h.fb.resolve_right (by omega)), by have := h.low; simp [World.setCell]; exact this⟩
/-- a row grows -/
theorem KAt.grown {L : List Int} {z : Int} (h : KAt w0 w F g n bl ol cl nb pv m cv T len B base c r u1 u2 u3) (hv : OwnsP numP 1 3 base w v L) (hf : ∀ k, v.ownBlock = some k → F k ∨ w0.heap.size ≤ k) (P : PutN w w' base w.heap.size v v' L z) :
    PAt w' g n bl ol cl nb pv m cv T len r ∧ Box6 w' B c.kind u1 u2 c.rel c.const u3 ∧ But F w0 w' ∧ base ≤ w'.heap.size ∧ (∀ k, v'.ownBlock = some k → F k ∨ w0.heap.size ≤ k) :=
  ⟨h.rd.row (fun _ hk => hv.kind hk) P.grown (by decide) (by decide) (by decide), h.box.grown hv P.grown, h.but.trans (G := fun i => v.ownBlock = some i) (But.grown P.grown fun k e _ => e) (fun i hi e => (hf i e).resolve_right (by omega)), Nat.le_trans h.low P.grown.size, fun k e => by
    rcases P.at_ with q | q
    · exact hf k (q ▸ e)
    · rw [q] at e
      cases e
      exact .inr h.but.size⟩
theorem KAt.keep (h : KAt w0 w F g n bl ol cl nb pv m cv T len B base c r u1 u2 u3) : ∀ i, i < w0.heap.size → i = B → F i := fun i hi e => e ▸ h.fb.resolve_right (by omega)
theorem KAt.setCoefs {z : Int} (h : KAt w0 w F g n bl ol cl nb pv m cv T len B base c r u1 u2 u3) (P : PutN w w' base w.heap.size u2 v' c.coefs z) : KAt w0 (w'.setCell ⟨B, 2, none⟩ v') F g n bl ol cl nb pv m cv T len B base { c with coefs := c.coefs ++ [z] } r u1 v' u3 := by
  obtain ⟨a1, a2, a3, a4, a5⟩ := h.grown h.own.o2 h.f2 P
  have ho := h.own.coefs P.own P.grown P.at_
  exact ⟨a1.put a2.kind (by decide) (by decide) (by decide), ho.set a2.kind, a2.set2 v', a3.trans (G := fun i => i = B) (But.set ⟨B, 2, none⟩ v' fun _ => rfl) h.keep, h.fg, h.fb, h.f1, a5, h.f3, by simp [World.setCell]; exact a4⟩
theorem KAt.setVars {z : Int} (h : KAt w0 w F g n bl ol cl nb pv m cv T len B base c r u1 u2 u3) (P : PutN w w' base w.heap.size u1 v' c.vars z) : KAt w0 (w'.setCell ⟨B, 1, none⟩ v') F g n bl ol cl nb pv m cv T len B base { c with vars := c.vars ++ [z] } r v' u2 u3 := by
  obtain ⟨a1, a2, a3, a4, a5⟩ := h.grown h.own.o1 h.f1 P
  have ho := h.own.vars P.own P.grown P.at_
  exact ⟨a1.put a2.kind (by decide) (by decide) (by decide), ho.set a2.kind, a2.set1 v', a3.trans (G := fun i => i = B) (But.set ⟨B, 1, none⟩ v' fun _ => rfl) h.keep, h.fg, h.fb, a5, h.f2, h.f3, by simp [World.setCell]; exact a4⟩
theorem KAt.setKind (h : KAt w0 w F g n bl ol cl nb pv m cv T len B base c r u1 u2 u3) : KAt w0 (w.setCell ⟨B, 0, none⟩ (.int .i64 k)) F g n bl ol cl nb pv m cv T len B base { c with kind := k } r u1 u2 u3 :=
  ⟨h.store.1, h.store.2.1.kinds, h.box.set0 k, h.store.2.2.1, h.fg, h.fb, h.f1, h.f2, h.f3, h.store.2.2.2⟩
theorem KAt.setRel (h : KAt w0 w F g n bl ol cl nb pv m cv T len B base c r u1 u2 u3) : KAt w0 (w.setCell ⟨B, 3, none⟩ (.int .i64 k)) F g n bl ol cl nb pv m cv T len B base { c with rel := k } r u1 u2 u3 :=
  ⟨h.store.1, h.store.2.1.kinds, h.box.set3 k, h.store.2.2.1, h.fg, h.fb, h.f1, h.f2, h.f3, h.store.2.2.2⟩
theorem KAt.setConst (h : KAt w0 w F g n bl ol cl nb pv m cv T len B base c r u1 u2 u3) : KAt w0 (w.setCell ⟨B, 4, none⟩ (.int .i64 k)) F g n bl ol cl nb pv m cv T len B base { c with const := k } r u1 u2 u3 :=
  ⟨h.store.1, h.store.2.1.kinds, h.box.set4 k, h.store.2.2.1, h.fg, h.fb, h.f1, h.f2, h.f3, h.store.2.2.2⟩
theorem ends_right {α : Type} {x : α × Rd} {V : World → Ending → Prop} {fn : Nat} {args : Array Value} (hw : x.2.wrong = false) (h : Calls Tryz.prog fn args w (Ends w F g n bl ol cl nb pv m cv T len x V)) : Calls Tryz.prog fn args w fun e w' => But F w w' ∧ PAt w' g n bl ol cl nb pv m cv T len x.2 ∧ V w' e :=
  h.mono fun _ _ hE => ⟨hE.1, by
    rcases hE.2 with ⟨_, hp, e⟩ | ⟨hn, _⟩
    · exact ⟨hp, e⟩
    · rw [hw] at hn
      cases hn⟩
theorem ends_gone {α : Type} {x : α × Rd} {V : World → Ending → Prop} {fn : Nat} {args : Array Value} (hw : x.2.wrong = true) (h : Calls Tryz.prog fn args w (Ends w F g n bl ol cl nb pv m cv T len x V)) : Calls Tryz.prog fn args w fun e w' => But F w w' ∧ e = gone (tokP T len x.2.at_).at_ :=
  h.mono fun _ _ hE => ⟨hE.1, by
    rcases hE.2 with ⟨hn, _⟩ | ⟨_, e⟩
    · rw [hw] at hn
      cases hn
    · exact e⟩
/-- what is said of a call that adds to a constraint -/
def KEnds (w : World) (F : Nat → Prop) (g n bl ol cl nb : Nat) (pv : Option Addr) (m cv : Nat) (T : List Tok) (len : Nat) (B base : Nat) (u3 : Value) (x : PCon × Rd) (e : Ending) (w' : World) : Prop :=
  But F w w' ∧ ((x.2.wrong = false ∧ e = .returned (.tuple #[]) ∧ ∃ u1 u2 : Value, KAt w w' F g n bl ol cl nb pv m cv T len B base x.1 x.2 u1 u2 u3) ∨ (x.2.wrong = true ∧ e = gone (tokP T len x.2.at_).at_))
end
end Go.Proofs.YtkgieaoahijheaaGreatDoor.Pp
namespace Go.Proofs.YtkgieaoahijheaaGreatDoor.Pp
open Go.RowKit
open Sc (Tok Cells str noTok)
open Pa
set_option maxRecDepth 100000

section
variable {w w' : World} {F : Nat → Prop} {g n bl ol cl nb : Nat} {pv : Option Addr} {m cv : Nat} {T : List Tok} {len : Nat} {B base : Nat} {c : PCon} {r : Rd} {u1 u2 u3 : Value}
theorem term_form (s : Int) (c : PCon) (T : List Tok) (r : Rd) : termQ s c T r = ({ c with coefs := c.coefs ++ [s * (factor (kindO (next T r)) T r).1], vars := c.vars ++ [(varF (factor (kindO (next T r)) T r).2 (next T (factor (kindO (next T r)) T r).2)).1] }, (varF (factor (kindO (next T r)) T r).2 (next T (factor (kindO (next T r)) T r).2)).2) := rfl
theorem varF_few {r : Rd} {o : Option Tok} (h : r.vars.length ≤ 1000000) : Fit (varF r o).1 := by
  unfold varF Fit
  split
  · split
    · rename_i i h'
      have := findF_lt h'
      simp only
      omega
    · simp
  · simp
set_option maxHeartbeats 4000000 in
theorem term_any (s : Int) (hs : s = 1 ∨ s = -1) (h : KAt w w F g n bl ol cl nb pv m cv T len B base c r u1 u2 u3) (hv : ∀ t ∈ T, t.value ≤ 2000000000000) (hm : m ≤ 1000000) (hc1 : c.vars.length ≤ 90000) (hc2 : c.coefs.length ≤ 90000) :
    Calls Tryz.prog 108 #[.pointer (some ⟨g, 0, none⟩), .pointer (some ⟨B, 0, none⟩), .int .i64 s] w (KEnds w F g n bl ol cl nb pv m cv T len B base u3 (termQ s c T r)) := by
  have HA := Lib.hid h
  have IN := Lib.hid (isnum_any h.rd)
  obtain ⟨bk, hbk⟩ : ∃ bk, bk = decide (kindO (next T r) = 2) := ⟨_, rfl⟩
  rw [← hbk] at IN
  obtain ⟨X, hX⟩ : ∃ X, X = termQ s c T r := ⟨_, rfl⟩
  rw [← hX]
  rw [term_form, factor_eq] at hX
  cases bk
  · rw [if_neg (of_decide_eq_false hbk.symm)] at hX
    obtain ⟨z, hz⟩ : ∃ z : Int, z = s * 1 := ⟨_, rfl⟩
    obtain ⟨r1, hr1⟩ : ∃ r1 : Rd, r1 = r := ⟨_, rfl⟩
    have HX := Lib.hid (show X = ({ c with coefs := c.coefs ++ [z], vars := c.vars ++ [(varF r1 (next T r1)).1] }, (varF r1 (next T r1)).2) by rw [hX, hz, hr1])
    have HZF := Lib.hid (show Fit z by unfold Fit; rcases hs with e | e <;> rw [hz, e] <;> decide)
    obtain rfl : s = z := by omega
    clear h hbk hX hs hz
    go_enter Tryz.func108, Tryz.ntmps108
    go_wp2_with fail
    refine IN.out.mono ?_
    rintro e wd ⟨rfl, q, hq⟩
    have HD := Lib.hid (show KAt w wd F g n bl ol cl nb pv m cv T len B base c r1 u1 u2 u3 by rw [hr1]; exact HA.out.moved (w' := wd) (by rw [hq]; exact HA.out.rd.drewN q) (by rw [hq]; exact but_drewN (But.refl _ _) q))
    clear hq hr1
    have HBA := Lib.hid (fun o => (Below.refl _ wd).alloc (Nat.le_refl _) o)
    have HAB := Lib.hid (HD.out.below (HBA.out (.cells #[.int .i64 s] 3)))
    have b2 := HD.out.box.cell 2 rfl
    have HCN := Lib.hid (show (wd.alloc (.cells #[.int .i64 s] 3)).cell? ⟨wd.heap.size, 0, none⟩ = some (.int .i64 s) by go_simp)
    have hl2' : c.coefs.length ≤ 100000 := by omega
    have HSZ := Lib.hid (show base ≤ (wd.alloc (.cells #[.int .i64 s] 3)).heap.size from HAB.out.low)
    go_upto_region 4 with (at_builtin; refine put_list rfl _ _ rfl rfl rfl HAB.out.own.o2 HCN.out HZF.out hl2' HSZ.out rfl ?_; intro p cap w5 hP; have HP := Lib.hid hP; have b5 := (HAB.out.grown HAB.out.own.o2 HAB.out.f2 hP).2.1.cell 2 rfl; have f5 := (HAB.out.grown HAB.out.own.o2 HAB.out.f2 hP).2.1.frozen 2; clear hP)
    obtain ⟨w6, hw6⟩ : ∃ w6, w6 = w5.setCell ⟨B, 2, none⟩ (.slice p (c.coefs.length + 1) cap) := ⟨_, rfl⟩
    have HA6 := Lib.hid (show KAt w w6 F g n bl ol cl nb pv m cv T len B base { c with coefs := c.coefs ++ [s] } r1 u1 (.slice p (c.coefs.length + 1) cap) u3 by rw [hw6]; exact HAB.out.setCoefs HP.out)
    rw [← hw6]
    have VX := Lib.hid (fun q => var_any (HA6.out.rd.drewN q) hm)
    have b1 := HA6.out.box.cell 1 rfl
    clear hw6 b5 f5 b2
    obtain ⟨x, hx⟩ : ∃ x, x = varF r1 (next T r1) := ⟨_, rfl⟩
    rw [← hx] at HX VX
    have hzf := varF_few (r := r1) (o := next T r1) (by rw [← (nm_of_owns HA6.out.rd.nm).1]; exact hm)
    rw [← hx] at hzf
    have HVF := Lib.hid hzf
    have hl6 : c.vars.length ≤ 100000 := by omega
    clear hx hzf
    obtain ⟨y, rv⟩ := x
    cases hwv : rv.wrong with
    | true =>
      have VN := Lib.hid (fun q => ends_gone hwv (VX.out q))
      have HG := Lib.hid (fun (q : Nat) (w' : World) (hB : But (fun i => i = g) (w6.drewN q) w') => (show KEnds w F g n bl ol cl nb pv m cv T len B base u3 X (gone (tokP T len rv.at_).at_) w' from ⟨(but_drewN HA6.out.but q).trans hB (fun i _ e => e ▸ HA6.out.fg), .inr ⟨by rw [HX.out]; exact hwv, by rw [HX.out]⟩⟩))
      unfold gone at VN HG
      clear hwv
      go_region_dies
      all_goals (refine (VN.out _).mono ?_; rintro e w7 ⟨hB7, rfl⟩; (try go_simp); exact ⟨rfl, HG.out _ _ hB7⟩)
    | false =>
      have VO := Lib.hid (fun q => ends_right hwv (VX.out q))
      have HWV := Lib.hid hwv
      clear hwv
      go_region_law (first
        | (refine put_step rfl _ _ rfl rfl rfl HAV.out.own.o1 HCV.out HVF.out hl6 HSV.out rfl ?_; intro p7 cap7 w7 hP7; have HP7 := Lib.hid hP7; have b7 := (HAV.out.grown HAV.out.own.o1 HAV.out.f1 hP7).2.1.cell 1 rfl; have f7 := (HAV.out.grown HAV.out.own.o1 HAV.out.f1 hP7).2.1.frozen 1; clear hP7)
        | (go_simp; go_at_call 107; refine (VO.out _).mono ?_; rintro e w7 ⟨hB7, h7, rfl⟩; have HA7 := Lib.hid ((HA6.out.moved (HA6.out.rd.drewN 1) (but_drewN (But.refl _ w6) 1)).moved h7 hB7); have b1 := HA7.out.box.cell 1 rfl; have HAV := Lib.hid (HA7.out.below ((Below.refl _ w7).alloc (Nat.le_refl _) (.cells #[.int .i64 y] 3))); have HSV := Lib.hid HAV.out.low; have HCV := Lib.hid (show (w7.alloc (.cells #[.int .i64 y] 3)).cell? ⟨w7.heap.size, 0, none⟩ = some (.int .i64 y) by go_simp); have bb := HA7.out.box.lt; clear h7 hB7))
      all_goals go_wp2_with fail
      all_goals go_end0
      all_goals exact ⟨(HAV.out.setVars HP7.out).but, .inl ⟨by rw [HX.out]; exact HWV.out, rfl, _, _, by rw [HX.out]; exact HAV.out.setVars HP7.out⟩⟩
  · have hk2 : kindO (next T r) = 2 := of_decide_eq_true hbk.symm
    rw [if_pos hk2] at hX
    obtain ⟨o, ho⟩ : ∃ o, o = next T r := ⟨_, rfl⟩
    rw [← ho] at hX hk2
    have HO := Lib.hid ho
    have hin : r.at_ < n := by rw [h.rd.long]; exact next_some (T := T) (r := r) (by rw [← ho]; exact kind_some (decide_eq_true hk2))
    have hvf : valueF r o = ((valueO o : Int), step1 r) := by unfold valueF; rw [if_pos hk2]
    rw [hvf] at hX
    simp only at hX
    have hvo : valueO o ≤ 2000000000000 := by rw [ho]; exact valueO_few hv
    obtain ⟨vo, hvo2⟩ : ∃ vo, vo = valueO o := ⟨_, rfl⟩
    rw [← hvo2] at hX hvo
    have HVO := Lib.hid hvo2
    obtain ⟨z, hz⟩ : ∃ z : Int, z = s * (vo : Int) := ⟨_, rfl⟩
    have hz2 : -2000000000000 ≤ z ∧ z ≤ 2000000000000 := by rw [hz]; rcases hs with e | e <;> rw [e] <;> constructor <;> omega
    have hw : IntKind.i64.wrap (s * (vo : Int)) = z := by rw [← hz]; exact IntWalk.i64_in _ (by omega)
    have HZF := Lib.hid (show Fit z by unfold Fit; omega)
    rw [← hz] at hX
    obtain ⟨r1, hr1⟩ : ∃ r1 : Rd, r1 = (mustF tStar (step1 r) (next T (step1 r))).2 := ⟨_, rfl⟩
    rw [← hr1] at hX
    have HX := Lib.hid hX
    have HWR := Lib.hid h.rd.ok
    have HIN := Lib.hid hin
    have HR1 := Lib.hid hr1
    clear h hbk hX hs hz hz2 hk2 ho hin hvf hvo hvo2 hr1
    go_enter Tryz.func108, Tryz.ntmps108
    go_wp2_with fail
    refine IN.out.mono ?_
    rintro e w1 ⟨rfl, q, hq⟩
    have HA1 := Lib.hid (show KAt w w1 F g n bl ol cl nb pv m cv T len B base c r u1 u2 u3 from HA.out.moved (w' := w1) (by rw [hq]; exact HA.out.rd.drewN q) (by rw [hq]; exact but_drewN (But.refl _ _) q))
    clear hq
    have TK := Lib.hid (takes_any true HA1.out.rd (fun _ => HIN.out))
    rw [← HO.out] at TK
    go_wp2_with fail
    refine TK.out.mono ?_
    rintro e w2 ⟨hB2, ⟨hw2, hP2, kd, v, a, q0, rfl, hkd, hv2, ha, _⟩ | ⟨hw2, _⟩⟩
    rotate_left
    · exact absurd hw2 (by show ¬ (step1 r).wrong = true; have := HWR.out; simp [step1, this])
    obtain rfl : v = vo := by rw [hv2, HVO.out]
    clear hkd ha hv2 hw2
    have HA2 := Lib.hid (show KAt w w2 F g n bl ol cl nb pv m cv T len B base c (step1 r) u1 u2 u3 from HA1.out.moved hP2 hB2)
    have hf := fun W => fld2 (kd : Int) (v : Int) (a : Int) q0 W
    have WX := Lib.hid (want_any ⟨#[42]⟩ (by decide) HA2.out.rd)
    rw [show txt ⟨#[42]⟩ = tStar from rfl] at WX
    clear hB2 hP2
    go_wp2_with fail
    refine WX.out.mono ?_
    rintro e wd ⟨hB3, ⟨hw3, hP3, rfl⟩ | ⟨hw3, rfl⟩⟩
    rotate_left
    · rw [← HR1.out] at hw3 ⊢
      have HG := Lib.hid (show KEnds w F g n bl ol cl nb pv m cv T len B base u3 X (gone (tokP T len r1.at_).at_) wd from ⟨HA2.out.but.trans hB3 (fun i _ e => e ▸ HA2.out.fg), .inr ⟨by rw [HX.out]; exact tame_var.wrong T r1 hw3, by rw [HX.out, show ((varF r1 (next T r1)).2).at_ = r1.at_ from tame_var.stay T r1 hw3]⟩⟩)
      unfold gone at HG ⊢
      clear hw3 hB3
      go_wp2_with fail
      exact ⟨rfl, HG.out⟩
    have HD := Lib.hid (show KAt w wd F g n bl ol cl nb pv m cv T len B base c r1 u1 u2 u3 by rw [HR1.out]; exact HA2.out.moved hP3 hB3)
    clear hw3 hP3 hB3
    have HBA := Lib.hid (fun o => (Below.refl _ wd).alloc (Nat.le_refl _) o)
    have HAB := Lib.hid (HD.out.below (HBA.out (.cells #[.int .i64 z] 3)))
    have b2 := HD.out.box.cell 2 rfl
    have HCN := Lib.hid (show (wd.alloc (.cells #[.int .i64 z] 3)).cell? ⟨wd.heap.size, 0, none⟩ = some (.int .i64 z) by go_simp)
    have hl2' : c.coefs.length ≤ 100000 := by omega
    have HSZ := Lib.hid (show base ≤ (wd.alloc (.cells #[.int .i64 z] 3)).heap.size from HAB.out.low)
    go_upto_region 4 with (at_builtin; refine put_list rfl _ _ rfl rfl rfl HAB.out.own.o2 HCN.out HZF.out hl2' HSZ.out rfl ?_; intro p cap w5 hP; have HP := Lib.hid hP; have b5 := (HAB.out.grown HAB.out.own.o2 HAB.out.f2 hP).2.1.cell 2 rfl; have f5 := (HAB.out.grown HAB.out.own.o2 HAB.out.f2 hP).2.1.frozen 2; clear hP)
    obtain ⟨w6, hw6⟩ : ∃ w6, w6 = w5.setCell ⟨B, 2, none⟩ (.slice p (c.coefs.length + 1) cap) := ⟨_, rfl⟩
    have HA6 := Lib.hid (show KAt w w6 F g n bl ol cl nb pv m cv T len B base { c with coefs := c.coefs ++ [z] } r1 u1 (.slice p (c.coefs.length + 1) cap) u3 by rw [hw6]; exact HAB.out.setCoefs HP.out)
    rw [← hw6]
    have VX := Lib.hid (fun q => var_any (HA6.out.rd.drewN q) hm)
    have b1 := HA6.out.box.cell 1 rfl
    clear hw6 b5 f5 b2
    obtain ⟨x, hx⟩ : ∃ x, x = varF r1 (next T r1) := ⟨_, rfl⟩
    rw [← hx] at HX VX
    have hzf := varF_few (r := r1) (o := next T r1) (by rw [← (nm_of_owns HA6.out.rd.nm).1]; exact hm)
    rw [← hx] at hzf
    have HVF := Lib.hid hzf
    have hl6 : c.vars.length ≤ 100000 := by omega
    clear hx hzf
    obtain ⟨y, rv⟩ := x
    cases hwv : rv.wrong with
    | true =>
      have VN := Lib.hid (fun q => ends_gone hwv (VX.out q))
      have HG := Lib.hid (fun (q : Nat) (w' : World) (hB : But (fun i => i = g) (w6.drewN q) w') => (show KEnds w F g n bl ol cl nb pv m cv T len B base u3 X (gone (tokP T len rv.at_).at_) w' from ⟨(but_drewN HA6.out.but q).trans hB (fun i _ e => e ▸ HA6.out.fg), .inr ⟨by rw [HX.out]; exact hwv, by rw [HX.out]⟩⟩))
      unfold gone at VN HG
      clear hwv
      go_region_dies
      all_goals (refine (VN.out _).mono ?_; rintro e w7 ⟨hB7, rfl⟩; (try go_simp); exact ⟨rfl, HG.out _ _ hB7⟩)
    | false =>
      have VO := Lib.hid (fun q => ends_right hwv (VX.out q))
      have HWV := Lib.hid hwv
      clear hwv
      go_region_law (first
        | (refine put_step rfl _ _ rfl rfl rfl HAV.out.own.o1 HCV.out HVF.out hl6 HSV.out rfl ?_; intro p7 cap7 w7 hP7; have HP7 := Lib.hid hP7; have b7 := (HAV.out.grown HAV.out.own.o1 HAV.out.f1 hP7).2.1.cell 1 rfl; have f7 := (HAV.out.grown HAV.out.own.o1 HAV.out.f1 hP7).2.1.frozen 1; clear hP7)
        | (go_simp; go_at_call 107; refine (VO.out _).mono ?_; rintro e w7 ⟨hB7, h7, rfl⟩; have HA7 := Lib.hid ((HA6.out.moved (HA6.out.rd.drewN 1) (but_drewN (But.refl _ w6) 1)).moved h7 hB7); have b1 := HA7.out.box.cell 1 rfl; have HAV := Lib.hid (HA7.out.below ((Below.refl _ w7).alloc (Nat.le_refl _) (.cells #[.int .i64 y] 3))); have HSV := Lib.hid HAV.out.low; have HCV := Lib.hid (show (w7.alloc (.cells #[.int .i64 y] 3)).cell? ⟨w7.heap.size, 0, none⟩ = some (.int .i64 y) by go_simp); have bb := HA7.out.box.lt; clear h7 hB7))
      all_goals go_wp2_with fail
      all_goals go_end0
      all_goals exact ⟨(HAV.out.setVars HP7.out).but, .inl ⟨by rw [HX.out]; exact HWV.out, rfl, _, _, by rw [HX.out]; exact HAV.out.setVars HP7.out⟩⟩
end
end Go.Proofs.YtkgieaoahijheaaGreatDoor.Pp
namespace Go.Proofs.YtkgieaoahijheaaGreatDoor.Pp
open Go.RowKit
open Sc (Tok Cells str noTok)
open Pa
set_option maxRecDepth 100000

section
variable {w0 w w' : World} {F : Nat → Prop} {g n bl ol cl nb : Nat} {pv : Option Addr} {m cv : Nat} {T : List Tok} {len : Nat} {B base : Nat} {c : PCon} {r : Rd} {u1 u2 u3 : Value}
theorem KAt.here (h : KAt w0 w F g n bl ol cl nb pv m cv T len B base c r u1 u2 u3) : KAt w w (fun k => F k ∨ w0.heap.size ≤ k) g n bl ol cl nb pv m cv T len B base c r u1 u2 u3 :=
  ⟨h.rd, h.own, h.box, But.refl _ _, .inl h.fg, .inl h.fb, fun k e => .inl (h.f1 k e), fun k e => .inl (h.f2 k e), fun k e => .inl (h.f3 k e), h.low⟩
theorem but_back {F : Nat → Prop} (hb : But F w0 w) (h : But (fun k => F k ∨ w0.heap.size ≤ k) w w') : But F w0 w' := hb.trans h (fun i hi e => e.resolve_right (by omega))
theorem KAt.back {c' : PCon} {r' : Rd} {y1 y2 : Value} (h0 : KAt w0 w F g n bl ol cl nb pv m cv T len B base c r u1 u2 u3) (h : KAt w w' (fun k => F k ∨ w0.heap.size ≤ k) g n bl ol cl nb pv m cv T len B base c' r' y1 y2 u3) : KAt w0 w' F g n bl ol cl nb pv m cv T len B base c' r' y1 y2 u3 := by
  have hs := h0.but.size
  have f : ∀ k, (F k ∨ w0.heap.size ≤ k) ∨ w.heap.size ≤ k → F k ∨ w0.heap.size ≤ k := fun k e => by
    rcases e with e | e
    · exact e
    · exact .inr (by omega)
  exact ⟨h.rd, h.own, h.box, but_back h0.but h.but, h0.fg, h0.fb, fun k e => f k (h.f1 k e), fun k e => f k (h.f2 k e), h0.f3, h.low⟩
theorem took_at (h : PAt w g n bl ol cl nb pv m cv T len r) : tookOf w g = r.at_ := by
  unfold tookOf
  rw [h.c1]
  simp
theorem rest_eq (j : Nat) (c : PCon) (T : List Tok) (r : Rd) : restQ (j + 1) c T r = if (hasF tPlus r (next T r)).1 = true then restQ j (termQ 1 c T (hasF tPlus r (next T r)).2).1 T (termQ 1 c T (hasF tPlus r (next T r)).2).2
    else if (hasF tMinus (hasF tPlus r (next T r)).2 (next T (hasF tPlus r (next T r)).2)).1 = true then restQ j (termQ (-1) c T (hasF tMinus (hasF tPlus r (next T r)).2 (next T (hasF tPlus r (next T r)).2)).2).1 T (termQ (-1) c T (hasF tMinus (hasF tPlus r (next T r)).2 (next T (hasF tPlus r (next T r)).2)).2).2
    else seq (Pa.look relF) (relate c) T (hasF tMinus (hasF tPlus r (next T r)).2 (next T (hasF tPlus r (next T r)).2)).2 := by
  show (if (hasF tPlus r (next T r)).1 = true then seq (termQ 1 c) (restQ j) else seq (Pa.look (hasF tMinus)) fun d => if d = true then seq (termQ (-1) c) (restQ j) else seq (Pa.look relF) (relate c)) T (hasF tPlus r (next T r)).2 = _
  rw [if_app]
  split
  · rfl
  · show (if (hasF tMinus (hasF tPlus r (next T r)).2 (next T (hasF tPlus r (next T r)).2)).1 = true then seq (termQ (-1) c) (restQ j) else seq (Pa.look relF) (relate c)) T (hasF tMinus (hasF tPlus r (next T r)).2 (next T (hasF tPlus r (next T r)).2)).2 = _
    rw [if_app]
    split <;> rfl
theorem has_off {s : Txt} {r : Rd} {o : Option Tok} (h : (hasF s r o).1 = false) : (hasF s r o).2 = r := by
  unfold hasF at h ⊢
  split at h
  · cases h
  · rename_i e
    rw [if_neg e]
theorem term_went (s : Int) (c : PCon) (T : List Tok) (r : Rd) : Went r (termQ s c T r).2 := by
  rw [term_form]
  have h1 := (tame_factor (kindO (next T r))).up T r
  have h2 := varF_went (factor (kindO (next T r)) T r).2 (next T (factor (kindO (next T r)) T r).2)
  exact ⟨Nat.le_trans h1 h2.up, h2.on.imp id fun e => by simp only at e ⊢; omega⟩
theorem term_size (s : Int) (c : PCon) (T : List Tok) (r : Rd) : (termQ s c T r).1.vars.length = c.vars.length + 1 ∧ (termQ s c T r).1.coefs.length = c.coefs.length + 1 := by
  rw [term_form]
  simp
/-- a round begins -/
def SumTo (n : Nat) (T : List Tok) (X : PCon × Rd) (c : PCon) (r : Rd) : Prop := ∃ j, X = restQ j c T r ∧ n < j + r.at_ ∧ c.vars.length ≤ 10000 + r.at_ ∧ c.coefs.length ≤ 10000 + r.at_
theorem sumto_term {X : PCon × Rd} {j : Nat} {s : Int} {rp : Rd} (hX : X = restQ j (termQ s c T rp).1 T (termQ s c T rp).2) (hj : n < j + 1 + r.at_) (hrp : rp.at_ = r.at_ + 1) (h1 : c.vars.length ≤ 10000 + r.at_) (h2 : c.coefs.length ≤ 10000 + r.at_) : SumTo n T X (termQ s c T rp).1 (termQ s c T rp).2 ∧ r.at_ < (termQ s c T rp).2.at_ := by
  have hu := (term_went s c T rp).up
  have hsz := term_size s c T rp
  exact ⟨⟨j, hX, by omega, by omega, by omega⟩, by omega⟩
theorem kends_no {X : PCon × Rd} {rx : Rd} (hB : But F w w') (h : X.2.wrong = true ∧ X.2.at_ = rx.at_) : KEnds w F g n bl ol cl nb pv m cv T len B base u3 X (gone (tokP T len rx.at_).at_) w' := ⟨hB, .inr ⟨h.1, by rw [h.2]⟩⟩
set_option maxHeartbeats 8000000 in
theorem sum_any (K : Nat) (h : KAt w w F g n bl ol cl nb pv m cv T len B base c r u1 u2 u3) (hv : ∀ t ∈ T, t.value ≤ 2000000000000) (hm : m ≤ 1000000) (hK : n < K) (hn : n ≤ 10000) (hc1 : c.vars.length ≤ 10000) (hc2 : c.coefs.length ≤ 10000) :
    Calls Tryz.prog 99 #[.pointer (some ⟨g, 0, none⟩), .pointer (some ⟨B, 0, none⟩)] w (KEnds w F g n bl ol cl nb pv m cv T len B base u3 (sumQ K c T r)) := by
  obtain ⟨X, hX⟩ : ∃ X, X = sumQ K c T r := ⟨_, rfl⟩
  rw [← hX]
  have SG := Lib.hid (sign_any h.rd)
  obtain ⟨x, hx⟩ : ∃ x, x = hasF tMinus r (next T r) := ⟨_, rfl⟩
  have hX2 : X = restQ K (termQ (if x.1 = true then -1 else 1) c T x.2).1 T (termQ (if x.1 = true then -1 else 1) c T x.2).2 := by rw [hX, hx]; rfl
  have hup : r.at_ ≤ x.2.at_ := by rw [hx]; exact (tame_has (s := tMinus) (by decide)).up T r
  rw [← hx] at SG
  obtain ⟨b, rs⟩ := x
  simp only at SG hX2 hup
  obtain ⟨s, hs⟩ : ∃ s : Int, s = if b = true then -1 else 1 := ⟨_, rfl⟩
  rw [← hs] at SG hX2
  have hs1 : s = 1 ∨ s = -1 := by rw [hs]; cases b <;> simp
  have hsz := term_size s c T rs
  have hup2 := (term_went s c T rs).up
  have hon2 := (term_went s c T rs).on
  have HA := Lib.hid h
  obtain ⟨d, hd⟩ : ∃ d, d = termQ s c T rs := ⟨_, rfl⟩
  rw [← hd] at hX2 hsz hup2 hon2
  have HX := Lib.hid hX2
  have HD := Lib.hid hd
  have HU := Lib.hid hup2
  have HON := Lib.hid hon2
  have HSZ := Lib.hid hsz
  clear h hX hx hX2 hs hd hup2 hon2 hsz hup
  obtain ⟨d, r1⟩ := d
  go_enter Tryz.func99, Tryz.ntmps99
  go_wp2_with fail
  refine SG.out.mono ?_
  rintro e w1 ⟨rfl, hP, hM⟩
  have HA1 := Lib.hid (show KAt w w1 F g n bl ol cl nb pv m cv T len B base c rs u1 u2 u3 from HA.out.moved hP (mbut hM))
  have TX := Lib.hid (term_any s hs1 HA1.out.here hv hm (by omega) (by omega))
  rw [← HD.out] at TX
  clear hP hM
  go_wp2_with fail
  refine TX.out.mono ?_
  rintro e w2 ⟨hB, ⟨hw, rfl, y1, y2, hk⟩ | ⟨hw, rfl⟩⟩
  rotate_left
  · have HG := Lib.hid (kends_no (g := g) (n := n) (bl := bl) (ol := ol) (cl := cl) (nb := nb) (pv := pv) (m := m) (cv := cv) (len := len) (B := B) (base := base) (u3 := u3) (T := T) (but_back HA1.out.but hB) ((tame_rest K d).after HX.out hw))
    unfold gone at HG ⊢
    clear hw hB
    go_wp2_with fail
    exact ⟨rfl, HG.out⟩
  have HA2 := Lib.hid (show KAt w w2 F g n bl ol cl nb pv m cv T len B base d r1 y1 y2 u3 from HA1.out.back hk)
  clear hw hk hB
  go_wp2_with fail
  go_loopw [] (fun wr => ∃ (cc : PCon) (rr : Rd) (x1 x2 : Value), SumTo n T X cc rr ∧ KAt w wr F g n bl ol cl nb pv m cv T len B base cc rr x1 x2 u3) (fun wr => n - tookOf wr g)
  case atStart => exact ⟨d, r1, y1, y2, ⟨K, HX.out, by omega, by have := HSZ.out.1; have := HON.out.resolve_left (by rw [HA2.out.rd.ok]; simp); omega, by have := HSZ.out.2; have := HON.out.resolve_left (by rw [HA2.out.rd.ok]; simp); omega⟩, HA2.out⟩
  case round =>
    obtain ⟨cc, rr, x1, x2, ⟨j, hXr, hnj, hl1, hl2⟩, hka⟩ := hrel
    have htp := hka.rd.top
    obtain ⟨j', rfl⟩ : ∃ j', j = j' + 1 := ⟨j - 1, by omega⟩
    rw [rest_eq] at hXr
    have HXR := Lib.hid hXr
    have HKA := Lib.hid hka
    have HTK := Lib.hid (took_at hka.rd)
    have PX := Lib.hid (took_any ⟨#[43]⟩ (by decide) hka.rd)
    rw [show txt ⟨#[43]⟩ = tPlus from rfl] at PX
    obtain ⟨xp, hxp⟩ : ∃ xp, xp = hasF tPlus rr (next T rr) := ⟨_, rfl⟩
    rw [← hxp] at HXR PX
    have hon : xp.1 = true → xp.2 = step1 rr := fun e => by rw [hxp] at e ⊢; exact has_on e
    have hoff : xp.1 = false → xp.2 = rr := fun e => by rw [hxp] at e ⊢; exact has_off e
    obtain ⟨bp, rp⟩ := xp
    simp only at HXR PX hon hoff
    clear hka hXr hxp
    cases bp
    · obtain rfl := hoff rfl
      have hXr := HXR.out
      rw [if_neg (by simp)] at hXr
      have HXR2 := Lib.hid hXr
      clear hXr hon hoff
      go_wp2_with fail
      refine PX.out.mono ?_
      rintro e w3 ⟨rfl, hP, hM⟩
      have HA3 := Lib.hid (show KAt w w3 F g n bl ol cl nb pv m cv T len B base cc rp x1 x2 u3 from HKA.out.moved hP (mbut hM))
      have MX := Lib.hid (took_any ⟨#[45]⟩ (by decide) hP)
      rw [show txt ⟨#[45]⟩ = tMinus from rfl] at MX
      obtain ⟨xm, hxm⟩ : ∃ xm, xm = hasF tMinus rp (next T rp) := ⟨_, rfl⟩
      rw [← hxm] at HXR2 MX
      have hon2 : xm.1 = true → xm.2 = step1 rp := fun e => by rw [hxm] at e ⊢; exact has_on e
      have hoff2 : xm.1 = false → xm.2 = rp := fun e => by rw [hxm] at e ⊢; exact has_off e
      obtain ⟨bm, rm⟩ := xm
      simp only at HXR2 MX hon2 hoff2
      clear hP hM hxm
      cases bm
      · obtain rfl := hoff2 rfl
        have hXr := HXR2.out
        rw [if_neg (by simp)] at hXr
        have HXM := Lib.hid hXr
        clear hXr hon2 hoff2
        go_wp2_with fail
        refine MX.out.mono ?_
        rintro e wm ⟨rfl, hP, hM⟩
        have HAM := Lib.hid (show KAt w wm F g n bl ol cl nb pv m cv T len B base cc rm x1 x2 u3 from HA3.out.moved hP (mbut hM))
        have RX := Lib.hid (rel_any hP)
        clear hP hM
        go_wp2_with fail
        obtain ⟨xr, hxr⟩ : ∃ xr, xr = relF rm (next T rm) := ⟨_, rfl⟩
        rw [← hxr] at RX
        have hXq := HXM.out
        rw [show seq (Pa.look relF) (relate cc) T rm = relate cc xr.1 T xr.2 by rw [hxr]; rfl] at hXq
        have HXQ := Lib.hid hXq
        clear hxr hXq
        obtain ⟨ri, r5⟩ := xr
        simp only at HXQ
        refine RX.out.mono ?_
        rintro e w5 ⟨hB5, ⟨hw5, hP5, i, rfl, hi⟩ | ⟨hw5, rfl⟩⟩
        rotate_left
        · have HG := Lib.hid (kends_no (g := g) (n := n) (bl := bl) (ol := ol) (cl := cl) (nb := nb) (pv := pv) (m := m) (cv := cv) (len := len) (B := B) (base := base) (u3 := u3) (T := T) (HAM.out.but.trans hB5 (fun i _ e => e ▸ HAM.out.fg)) ((tame_relate cc ri).after HXQ.out hw5))
          unfold gone at HG ⊢
          clear hw5 hB5
          go_wp2_with fail
          exact ⟨rfl, HG.out⟩
        simp only at hi
        subst hi
        have HA5 := Lib.hid (show KAt w w5 F g n bl ol cl nb pv m cv T len B base cc r5 x1 x2 u3 from HAM.out.moved hP5 hB5)
        have b3 := HA5.out.box.cell 3 rfl
        have f3 := HA5.out.box.frozen 3
        have HA6 := Lib.hid (HA5.out.setRel (k := (i : Int)))
        have NX := Lib.hid (number_any HA6.out.rd hv)
        have hXn := HXQ.out
        rw [show relate cc (some i) T r5 = ({ cc with rel := (i : Int), const := (number T r5).1 }, (number T r5).2) from rfl] at hXn
        obtain ⟨xn, hxn⟩ : ∃ xn, xn = number T r5 := ⟨_, rfl⟩
        rw [← hxn] at NX hXn
        have HXN := Lib.hid hXn
        clear hw5 hP5 hB5 hxn hXn
        obtain ⟨z, r7⟩ := xn
        simp only at NX HXN
        go_wp2_with fail
        refine NX.out.mono ?_
        rintro e w7 ⟨hB7, ⟨hw7, hP7, rfl⟩ | ⟨hw7, rfl⟩⟩
        · have HA7 := Lib.hid (HA6.out.moved hP7 hB7)
          have b4 := HA7.out.box.cell 4 rfl
          have f4 := HA7.out.box.frozen 4
          have HA8 := Lib.hid (HA7.out.setConst (k := z))
          have HW := Lib.hid hw7
          clear hB7 hw7 hP7
          go_wp2_with fail
          refine bodyPost_ret (results_none rfl _ _ _) rfl ?_
          exact ⟨HA8.out.but, .inl ⟨by rw [HXN.out]; exact HW.out, rfl, x1, x2, by rw [HXN.out]; exact HA8.out⟩⟩
        · have HG := Lib.hid (kends_no (g := g) (n := n) (bl := bl) (ol := ol) (cl := cl) (nb := nb) (pv := pv) (m := m) (cv := cv) (len := len) (B := B) (base := base) (u3 := u3) (T := T) (X := X) (rx := r7) (HA6.out.but.trans hB7 (fun i _ e => e ▸ HA6.out.fg)) (by rw [HXN.out]; exact ⟨hw7, rfl⟩))
          unfold gone at HG ⊢
          clear hw7 hB7
          go_wp2_with fail
          exact ⟨rfl, HG.out⟩
      · have hr1 := hon2 rfl
        have hat : rm.at_ = rp.at_ + 1 := by rw [hr1]; rfl
        have hXr := HXR2.out
        rw [if_pos rfl] at hXr
        obtain ⟨hto, hlt⟩ := sumto_term (n := n) (r := rp) (j := j') (s := -1) (c := cc) (rp := rm) hXr (by omega) hat hl1 hl2
        have HTO := Lib.hid hto
        have HLT := Lib.hid hlt
        have HXT := Lib.hid hXr
        obtain ⟨dd, hdd⟩ : ∃ dd, dd = termQ (-1) cc T rm := ⟨_, rfl⟩
        rw [← hdd] at HTO HLT HXT
        have HDD := Lib.hid hdd
        clear hXr hon2 hoff2 hto hlt hr1 hdd
        obtain ⟨c4, r4⟩ := dd
        simp only at HTO HLT HXT
        go_wp2_with fail
        refine MX.out.mono ?_
        rintro e wm ⟨rfl, hP, hM⟩
        have HAM := Lib.hid (show KAt w wm F g n bl ol cl nb pv m cv T len B base cc rm x1 x2 u3 from HA3.out.moved hP (mbut hM))
        have TX := Lib.hid (term_any (-1) (.inr rfl) HAM.out.here hv hm (by omega) (by omega))
        rw [← HDD.out] at TX
        clear hP hM
        go_wp2_with fail
        refine TX.out.mono ?_
        rintro e w4 ⟨hB, ⟨hw, rfl, z1, z2, hk⟩ | ⟨hw, rfl⟩⟩
        · have HA4 := Lib.hid (show KAt w w4 F g n bl ol cl nb pv m cv T len B base c4 r4 z1 z2 u3 from HAM.out.back hk)
          clear hw hk hB
          go_wp2_with fail
          go_roundw
          case rel => exact ⟨c4, r4, z1, z2, HTO.out, HA4.out⟩
          case measure =>
            have h1 := HLT.out
            have h2 := HA4.out.rd.top
            rw [took_at HA4.out.rd, HTK.out]
            omega
        · have HG := Lib.hid (kends_no (g := g) (n := n) (bl := bl) (ol := ol) (cl := cl) (nb := nb) (pv := pv) (m := m) (cv := cv) (len := len) (B := B) (base := base) (u3 := u3) (T := T) (but_back HAM.out.but hB) ((tame_rest j' c4).after HXT.out hw))
          unfold gone at HG ⊢
          clear hw hB
          go_wp2_with fail
          exact ⟨rfl, HG.out⟩
    · have hr1 := hon rfl
      have hat : rp.at_ = rr.at_ + 1 := by rw [hr1]; rfl
      have hXr := HXR.out
      rw [if_pos rfl] at hXr
      obtain ⟨hto, hlt⟩ := sumto_term (n := n) (r := rr) (j := j') (s := 1) (c := cc) (rp := rp) hXr (by omega) hat hl1 hl2
      have HTO := Lib.hid hto
      have HLT := Lib.hid hlt
      have HXT := Lib.hid hXr
      obtain ⟨dd, hdd⟩ : ∃ dd, dd = termQ 1 cc T rp := ⟨_, rfl⟩
      rw [← hdd] at HTO HLT HXT
      have HDD := Lib.hid hdd
      clear hXr hon hoff hto hlt hr1 hdd
      obtain ⟨c4, r4⟩ := dd
      simp only at HTO HLT HXT
      go_wp2_with fail
      refine PX.out.mono ?_
      rintro e w3 ⟨rfl, hP, hM⟩
      have HA3 := Lib.hid (show KAt w w3 F g n bl ol cl nb pv m cv T len B base cc rp x1 x2 u3 from HKA.out.moved hP (mbut hM))
      have TX := Lib.hid (term_any 1 (.inl rfl) HA3.out.here hv hm (by omega) (by omega))
      rw [← HDD.out] at TX
      clear hP hM
      go_wp2_with fail
      refine TX.out.mono ?_
      rintro e w4 ⟨hB, ⟨hw, rfl, z1, z2, hk⟩ | ⟨hw, rfl⟩⟩
      · have HA4 := Lib.hid (show KAt w w4 F g n bl ol cl nb pv m cv T len B base c4 r4 z1 z2 u3 from HA3.out.back hk)
        clear hw hk hB
        go_wp2_with fail
        go_roundw
        case rel => exact ⟨c4, r4, z1, z2, HTO.out, HA4.out⟩
        case measure =>
          have h1 := HLT.out
          have h2 := HA4.out.rd.top
          rw [took_at HA4.out.rd, HTK.out]
          omega
      · have HG := Lib.hid (kends_no (g := g) (n := n) (bl := bl) (ol := ol) (cl := cl) (nb := nb) (pv := pv) (m := m) (cv := cv) (len := len) (B := B) (base := base) (u3 := u3) (T := T) (but_back HA3.out.but hB) ((tame_rest j' c4).after HXT.out hw))
        unfold gone at HG ⊢
        clear hw hB
        go_wp2_with fail
        exact ⟨rfl, HG.out⟩
end
end Go.Proofs.YtkgieaoahijheaaGreatDoor.Pp
