/-
  A sum that a reader of tokens takes (the document's answers for texts of models).
-/
import Derived.Test.YtfkakdpppejehaaGreatZYAI
import Derived.Deep.RegionLaw
import Derived.Deep.CutBlock
import Derived.Deep.DeepCutAuto
namespace Go.Proofs.YtfkakdpppejehaaGreat.Pa
open Go.RowKit
open Sc (Tok Cells str noTok)
set_option maxRecDepth 100000

/-- how many tokens a reader has taken, out of its own cell -/
def tookOf (w : World) (g : Nat) : Nat := match w.cell? ⟨g, 1, none⟩ with
  | some (.int _ z) => z.toNat
  | _ => 0
theorem tookOf_at {w : World} {g n : Nat} {pl : Option Addr} {bl ol cl : Nat} {pv : Option Addr} {bv ov m cv : Nat} {T : List Tok} {r : Rd} (h : RdAt w g n pl bl ol cl pv bv ov m cv T r) : tookOf w g = r.at_ := by
  unfold tookOf
  rw [h.c1]
  simp
/-- what a round of terms takes in -/
def roundS (T : List Tok) (r : Rd) : Int × Rd := factor (kindO (next T r)) T r
def roundV (T : List Tok) (r : Rd) : Int × Rd := variableF (roundS T r).2 (next T (roundS T r).2)
def roundC (T : List Tok) (s : Int) (c : PCon) (r : Rd) : PCon := { c with coefs := c.coefs ++ [s * (roundS T r).1], vars := c.vars ++ [(roundV T r).1] }
def signO (o : Option Tok) : Int := if textO o = tMinus then -1 else 1
def plusR (T : List Tok) (r : Rd) : Bool × Rd := hasF tPlus (roundV T r).2 (next T (roundV T r).2)
def moreR (T : List Tok) (r : Rd) : Bool × Rd := orMinus (plusR T r).1 T (plusR T r).2
theorem terms_eq (j : Nat) (s : Int) (c : PCon) (T : List Tok) (r : Rd) : terms (j + 1) s c T r = if (moreR T r).1 = true then terms j (signO (next T (roundV T r).2)) (roundC T s c r) T (moreR T r).2 else (roundC T s c r, (moreR T r).2) := by
  show (if (moreR T r).1 = true then terms j (signO (next T (roundV T r).2)) (roundC T s c r) else ret (roundC T s c r)) T (moreR T r).2 = _
  rw [if_app]
  rfl
theorem factor_eq (k : Nat) (T : List Tok) (r : Rd) : factor k T r = if k = 2 then ((valueF r (next T r)).1, (mustF tStar (valueF r (next T r)).2 (next T (valueF r (next T r)).2)).2) else (1, r) := by
  unfold factor
  rw [if_app]
  rfl
theorem value_few {T : List Tok} {r : Rd} (hv : ∀ t ∈ T, t.value ≤ 2000000000000) : 0 ≤ (valueF r (next T r)).1 ∧ (valueF r (next T r)).1 ≤ 2000000000000 := by
  unfold valueF
  split
  · cases ho : next T r with
    | none => simp [valueO]
    | some t =>
      have := hv t (next_mem ho)
      simp only [valueO]
      omega
  · simp
theorem roundS_few {T : List Tok} {r : Rd} (hv : ∀ t ∈ T, t.value ≤ 2000000000000) : 0 ≤ (roundS T r).1 ∧ (roundS T r).1 ≤ 2000000000000 := by
  unfold roundS
  rw [factor_eq]
  split
  · exact value_few hv
  · exact ⟨by omega, by omega⟩
theorem findF_lt {s : Txt} : ∀ {l : List Txt} {i : Nat}, findF s l = some i → i < l.length
  | [], _, h => by cases h
  | x :: l, i, h => by
    rw [findF] at h
    split at h
    · cases h; simp
    · obtain ⟨j, hj, e⟩ := Option.map_eq_some_iff.1 h
      have := findF_lt hj
      simp
      omega
theorem variable_few {r : Rd} {o : Option Tok} : 0 ≤ (variableF r o).1 ∧ (variableF r o).1 ≤ (r.vars.length : Int) := by
  unfold variableF
  split
  · split
    · rename_i i h
      have := findF_lt h
      exact ⟨by omega, by simp only; omega⟩
    · exact ⟨by simp, by simp⟩
  · exact ⟨by simp, by simp⟩
theorem more_took {T : List Tok} {r : Rd} (h : (moreR T r).1 = true) : r.at_ < (moreR T r).2.at_ := by
  have u1 : r.at_ ≤ (roundS T r).2.at_ := (fine_factor _).up T r
  have u2 : (roundS T r).2.at_ ≤ (roundV T r).2.at_ := (fine_look ok_variable).up T _
  have u3 : (roundV T r).2.at_ ≤ (plusR T r).2.at_ := (fine_look (ok_has (s := tPlus) (by decide))).up T _
  unfold moreR orMinus at h ⊢
  rw [if_app] at h ⊢
  by_cases hp : (plusR T r).1 = true
  · rw [if_pos hp]
    have : (roundV T r).2.at_ + 1 ≤ (plusR T r).2.at_ := by
      unfold plusR hasF at hp ⊢
      split at hp
      · rename_i e
        rw [if_pos e]
        simp [step1]
      · cases hp
    show r.at_ < (plusR T r).2.at_
    omega
  · rw [if_neg hp] at h ⊢
    have : (plusR T r).2.at_ + 1 ≤ (hasF tMinus (plusR T r).2 (next T (plusR T r).2)).2.at_ := by
      show (plusR T r).2.at_ + 1 ≤ _
      have h2 : (hasF tMinus (plusR T r).2 (next T (plusR T r).2)).1 = true := h
      unfold hasF at h2 ⊢
      split at h2
      · rename_i e
        rw [if_pos e]
        simp [step1]
      · cases h2
    show r.at_ < (hasF tMinus (plusR T r).2 (next T (plusR T r).2)).2.at_
    omega
section
variable {w0 w : World} {F : Nat → Prop} {g n : Nat} {pl : Option Addr} {bl ol cl : Nat} {pv : Option Addr} {bv ov m cv : Nat} {T : List Tok} {B base : Nat} {c : PCon} {r : Rd} {u1 u2 u3 : Value}

def moOf : Value → Nat
  | .bool true => 1
  | _ => 0
/-- what is said of a sum -/
def SumPost (w : World) (F : Nat → Prop) (g n : Nat) (pl : Option Addr) (bl ol cl : Nat) (pv : Option Addr) (bv ov m cv : Nat) (T : List Tok) (base : Nat) (q : PCon × Rd) (e : Ending) (w' : World) : Prop :=
  ∃ u1 u2 u3 : Value, e = .returned (.agg #[.int .i64 q.1.kind, u1, u2, .int .i64 q.1.rel, .int .i64 q.1.const, u3]) ∧ Own3 w' base q.1 u1 u2 u3 ∧ RdAt w' g n pl bl ol cl pv bv ov m cv T q.2 ∧ But F w w' ∧
    (∀ k, u1.ownBlock = some k → F k ∨ w.heap.size ≤ k) ∧ (∀ k, u2.ownBlock = some k → F k ∨ w.heap.size ≤ k) ∧ (∀ k, u3.ownBlock = some k → F k ∨ w.heap.size ≤ k)

theorem round_rel {K j' : Nat} {s0 s sg : Int} {cc c7 : PCon} {rr rv r1 r4 : Rd} {b4 : Bool} {W wx : World} {x7 y2 : Value} {cq : PCon} (hte : terms K s0 cq T r1 = if (moreR T rr).1 = true then terms j' (signO (next T (roundV T rr).2)) (roundC T s cc rr) T (moreR T rr).2 else (roundC T s cc rr, (moreR T rr).2)) (hmo : moreR T rr = (b4, r4))
    (hc7 : c7 = roundC T s cc rr) (hsg : sg = signO (next T rv)) (hrv : rv = (roundV T rr).2) (hs2 : sg = 1 ∨ sg = -1) (hnj : n < j' + 1 + rr.at_) (hl : cc.vars.length ≤ 10000 + rr.at_ ∧ cc.coefs.length ≤ 10000 + rr.at_) (hln : c7.coefs.length = cc.coefs.length + 1 ∧ c7.vars.length = cc.vars.length + 1) (hmk : (moreR T rr).1 = true → rr.at_ < (moreR T rr).2.at_)
    (ha : At W wx F g n pl bl ol cl pv bv ov m cv T W.heap.size base c7 r4 x7 y2 u3) (hr : Box6 wx (W.heap.size + 1) 0 (.slice none 0 0) (.slice none 0 0) 0 0 (.slice none 0 0)) :
    ∃ (j : Nat) (s : Int) (cc : PCon) (rr : Rd) (x1 x2 : Value) (mo : Bool), Value.bool b4 = .bool mo ∧ Value.int .i64 sg = .int .i64 s ∧ (s = 1 ∨ s = -1) ∧ (if mo = true then terms K s0 cq T r1 = terms j s cc T rr ∧ n < j + rr.at_ ∧ cc.coefs.length ≤ 10000 + rr.at_ ∧ cc.vars.length ≤ 10000 + rr.at_ else terms K s0 cq T r1 = (cc, rr)) ∧ At W wx F g n pl bl ol cl pv bv ov m cv T W.heap.size base cc rr x1 x2 u3 ∧ Box6 wx (W.heap.size + 1) 0 (.slice none 0 0) (.slice none 0 0) 0 0 (.slice none 0 0) := by
  refine ⟨j', sg, c7, r4, x7, y2, b4, rfl, rfl, hs2, ?_, ha, hr⟩
  rw [hmo] at hte hmk
  cases b4
  · rw [if_neg (by simp)] at hte ⊢
    rw [hte, hc7]
  · rw [if_pos rfl] at hte
    have h1 := hmk rfl
    simp only at h1
    rw [if_pos rfl]
    exact ⟨by rw [hte, hc7, hsg, hrv], by omega, by omega, by omega⟩
theorem round_less {rr r4 : Rd} {b4 : Bool} {ws wx : World} (hmo : moreR T rr = (b4, r4)) (hmk : (moreR T rr).1 = true → rr.at_ < (moreR T rr).2.at_) (h : RdAt wx g n pl bl ol cl pv bv ov m cv T r4) (hto : tookOf ws g = rr.at_) (htop : rr.at_ ≤ n) : moOf (.bool b4) + (n - tookOf wx g) < moOf (.bool true) + (n - tookOf ws g) := by
  have h4 := h.top
  rw [tookOf_at h, hto]
  rw [hmo] at hmk
  have hup : rr.at_ ≤ r4.at_ ∨ b4 = true := .inl (by
    have u1 : rr.at_ ≤ (roundS T rr).2.at_ := (fine_factor _).up T rr
    have u2 : (roundS T rr).2.at_ ≤ (roundV T rr).2.at_ := (fine_look ok_variable).up T _
    have u3 : (roundV T rr).2.at_ ≤ (plusR T rr).2.at_ := (fine_look (ok_has (s := tPlus) (by decide))).up T _
    have u4 : (plusR T rr).2.at_ ≤ (moreR T rr).2.at_ := (fine_or _).up T _
    rw [hmo] at u4
    simp only at u4
    omega)
  cases b4
  · simp only [moOf]
    have := hup.resolve_right (by simp)
    omega
  · have h1 := hmk rfl
    simp only [moOf] at h1 ⊢
    omega

theorem results_con {fn : Func} {p : Tmp} (h : fn.results = #[.cell p 42]) (tmps : Array Value) (w : World) (b : Nat) (v0 v1 v2 v3 v4 v5 : Value) (hp : tmps.getD p undef = .pointer (some ⟨b, 0, none⟩)) (c0 : w.cell? ⟨b, 0, none⟩ = some v0) (c1 : w.cell? ⟨b, 1, none⟩ = some v1) (c2 : w.cell? ⟨b, 2, none⟩ = some v2) (c3 : w.cell? ⟨b, 3, none⟩ = some v3) (c4 : w.cell? ⟨b, 4, none⟩ = some v4) (c5 : w.cell? ⟨b, 5, none⟩ = some v5) :
    (results fn tmps).run Tryz.prog w = .ok (.agg #[v0, v1, v2, v3, v4, v5]) w := by
  have hp' : tmps[p]?.getD undef = .pointer (some ⟨b, 0, none⟩) := by simpa using hp
  simp only [results, h]
  simp [hp', asAddr]
  go_simp
theorem At.other {b j : Nat} {x : Value} (h : At w0 w F g n pl bl ol cl pv bv ov m cv T B base c r u1 u2 u3) (hb : ∃ cs, w.heap[b]? = some (.cells cs 42)) (hne : B ≠ b) (hn : w0.heap.size ≤ b) : At w0 (w.setCell ⟨b, j, none⟩ x) F g n pl bl ol cl pv bv ov m cv T B base c r u1 u2 u3 ∧ ∃ cs, (w.setCell ⟨b, j, none⟩ x).heap[b]? = some (.cells cs 42) :=
  ⟨⟨h.rd.stored hb, h.own.set hb, h.box.same (Below.heap_setCell w ⟨b, j, none⟩ x B hne), h.but.trans (G := fun i => i = b) (But.set ⟨b, j, none⟩ x fun _ => rfl) (fun i hi (e : i = b) => by omega), h.fg, h.f1, h.f2, h.f3, h.new, by have := h.low; simp [World.setCell]; exact this⟩, by
    obtain ⟨cs, e⟩ := hb
    refine ⟨cs.setIfInBounds j x, ?_⟩
    simp only [World.setCell, Array.getElem?_modify, e]
    rfl⟩
theorem At.six {b : Nat} {x0 x1 x2 x3 x4 x5 : Value} (h : At w0 w F g n pl bl ol cl pv bv ov m cv T B base c r u1 u2 u3) (hb : ∃ cs, w.heap[b]? = some (.cells cs 42)) (hne : B ≠ b) (hn : w0.heap.size ≤ b) : At w0 ((((((w.setCell ⟨b, 0, none⟩ x0).setCell ⟨b, 1, none⟩ x1).setCell ⟨b, 2, none⟩ x2).setCell ⟨b, 3, none⟩ x3).setCell ⟨b, 4, none⟩ x4).setCell ⟨b, 5, none⟩ x5) F g n pl bl ol cl pv bv ov m cv T B base c r u1 u2 u3 := by
  obtain ⟨h0, b0⟩ := h.other (j := 0) (x := x0) hb hne hn
  obtain ⟨h1, b1⟩ := h0.other (j := 1) (x := x1) b0 hne hn
  obtain ⟨h2, b2⟩ := h1.other (j := 2) (x := x2) b1 hne hn
  obtain ⟨h3, b3⟩ := h2.other (j := 3) (x := x3) b2 hne hn
  obtain ⟨h4, b4⟩ := h3.other (j := 4) (x := x4) b3 hne hn
  exact (h4.other (j := 5) (x := x5) b4 hne hn).1
theorem sum_post {wz : World} {q : PCon × Rd} (h : At w wz F g n pl bl ol cl pv bv ov m cv T B base c r u1 u2 u3) (hq : q = (c, r)) : SumPost w F g n pl bl ol cl pv bv ov m cv T base q (.returned (.agg #[.int .i64 c.kind, u1, u2, .int .i64 c.rel, .int .i64 c.const, u3])) wz := by
  rw [hq]
  exact ⟨u1, u2, u3, rfl, h.own, h.rd, h.but, h.f1, h.f2, h.f3⟩

structure RelsAt (w wr : World) : Prop where
  below : Below w.heap.size w wr
  cell : ∀ k, k < 6 → ∃ q : ByteArray, wr.cell? ⟨w.heap.size, k, none⟩ = some (.string q) ∧ txt q = relsL.getD k []
theorem rels_at (w : World) : RelsAt w (w.alloc (.cells #[.string ⟨#[61]⟩, .string ⟨#[33, 61]⟩, .string ⟨#[60]⟩, .string ⟨#[60, 61]⟩, .string ⟨#[62]⟩, .string ⟨#[62, 61]⟩] 9)) :=
  ⟨(Below.refl _ w).alloc (Nat.le_refl _) _, fun k hk => by
    rw [World.cell?_alloc_mark]
    match k, hk with
    | 0, _ => exact ⟨_, rfl, rfl⟩
    | 1, _ => exact ⟨_, rfl, rfl⟩
    | 2, _ => exact ⟨_, rfl, rfl⟩
    | 3, _ => exact ⟨_, rfl, rfl⟩
    | 4, _ => exact ⟨_, rfl, rfl⟩
    | 5, _ => exact ⟨_, rfl, rfl⟩⟩

set_option maxHeartbeats 8000000 in
theorem sum_any (K : Nat) (h : RdAt w g n pl bl ol cl pv bv ov m cv T r) (ho : Own3 w base c u1 u2 u3) (hbase : base ≤ w.heap.size) (fg : F g) (f1 : ∀ k, u1.ownBlock = some k → F k ∨ w.heap.size ≤ k) (f2 : ∀ k, u2.ownBlock = some k → F k ∨ w.heap.size ≤ k) (f3 : ∀ k, u3.ownBlock = some k → F k ∨ w.heap.size ≤ k)
    (hv : ∀ t ∈ T, t.value ≤ 2000000000000) (hm : m ≤ 1000000) (hK : n < K) (hn : n ≤ 10000) (hc1 : c.vars.length ≤ 10000) (hc2 : c.coefs.length ≤ 10000) :
    Calls Tryz.prog 60 #[.pointer (some ⟨g, 0, none⟩), .agg #[.int .i64 c.kind, u1, u2, .int .i64 c.rel, .int .i64 c.const, u3]] w (SumPost w F g n pl bl ol cl pv bv ov m cv T base (sumR K c T r)) := by
  obtain ⟨q, hq⟩ : ∃ q, q = sumR K c T r := ⟨_, rfl⟩
  rw [← hq]
  obtain ⟨k0, hk0⟩ : ∃ k0, k0 = c.kind := ⟨_, rfl⟩
  obtain ⟨r0, hr0⟩ : ∃ r0, r0 = c.rel := ⟨_, rfl⟩
  obtain ⟨t0, ht0⟩ : ∃ t0, t0 = c.const := ⟨_, rfl⟩
  rw [← hk0, ← hr0, ← ht0]
  obtain ⟨W0, hW0⟩ : ∃ W0, W0 = (w.alloc (.cells #[.int .i64 k0, u1, u2, .int .i64 r0, .int .i64 t0, u3] 42)).alloc (.cells #[.int .i64 0, .slice none 0 0, .slice none 0 0, .int .i64 0, .int .i64 0, .slice none 0 0] 42) := ⟨_, rfl⟩
  have hB1 : Below w.heap.size w (w.alloc (.cells #[.int .i64 k0, u1, u2, .int .i64 r0, .int .i64 t0, u3] 42)) := (Below.refl _ w).alloc (Nat.le_refl _) _
  have hB2 : Below (w.alloc (.cells #[.int .i64 k0, u1, u2, .int .i64 r0, .int .i64 t0, u3] 42)).heap.size (w.alloc (.cells #[.int .i64 k0, u1, u2, .int .i64 r0, .int .i64 t0, u3] 42)) W0 := by rw [hW0]; exact (Below.refl _ _).alloc (Nat.le_refl _) _
  have hbx := (Box6.new w k0 u1 u2 r0 t0 u3).below hB2
  have hrs : Box6 W0 (w.heap.size + 1) 0 (.slice none 0 0) (.slice none 0 0) 0 0 (.slice none 0 0) := by
    have := Box6.new (w.alloc (.cells #[.int .i64 k0, u1, u2, .int .i64 r0, .int .i64 t0, u3] 42)) 0 (.slice none 0 0) (.slice none 0 0) 0 0 (.slice none 0 0)
    rw [← hW0] at this
    simpa using this
  have hB0 : Below w.heap.size w W0 := hB1.trans (hB2.mono hB1.size)
  have HA := Lib.hid (show At w W0 F g n pl bl ol cl pv bv ov m cv T w.heap.size base c r u1 u2 u3 from ⟨h.below hB0, ho.below hB0, by rw [← hk0, ← hr0, ← ht0]; exact hbx, But.below hB0, fg, f1, f2, f3, Nat.le_refl _, Nat.le_trans hbase hB0.size⟩)
  have HRS := Lib.hid hrs
  have HW := Lib.hid hW0
  have HQ := Lib.hid hq
  have HTY := Lib.hid HA.out.rd.ty
  have HT := Lib.hid (has_any ⟨#[45]⟩ (by decide) HA.out.rd)
  rw [show txt ⟨#[45]⟩ = tMinus from rfl] at HT
  obtain ⟨b, hb⟩ : ∃ b, b = (hasF tMinus r (next T r)).1 := ⟨_, rfl⟩
  obtain ⟨r1, hr1⟩ : ∃ r1, r1 = (hasF tMinus r (next T r)).2 := ⟨_, rfl⟩
  rw [← hb, ← hr1] at HT
  have HBR := Lib.hid (And.intro hb hr1)
  clear h ho hq hW0 hB1 hB2 hbx hrs hB0 hb hr1 hk0 hr0 ht0 f1 f2 f3 fg hbase
  go_enter Tryz.func60, Tryz.ntmps60
  go_upto_region 1 with fail
  rw [← HW.out]
  go_wp2_with fail
  refine HT.out.mono ?_
  rintro e w1 ⟨rfl, h1, hm1⟩
  have HA := Lib.hid (HA.out.moved h1 hm1)
  have HRS := Lib.hid (HRS.out.moved hm1 HTY.out)
  obtain ⟨s0, hs0⟩ : ∃ s0 : Int, s0 = if b = true then -1 else 1 := ⟨_, rfl⟩
  have HS0 := Lib.hid hs0
  clear h1 hm1
  go_upto_if 11 with (fail)
  go_cut [5] (fun v wx => v = .int .i64 s0 ∧ wx = w1)
  case first =>
    cases b
    · rw [if_neg (by simp)] at hs0
      subst hs0
      go_wp2_with fail
      go_meet
      case rel => exact ⟨rfl, rfl⟩
    · rw [if_pos rfl] at hs0
      subst hs0
      go_wp2_with fail
      go_meet
      case rel => exact ⟨rfl, rfl⟩
  case rest =>
    obtain ⟨rfl, hwc⟩ := hcut
    rw [hwc]
    have hs1 : s0 = 1 ∨ s0 = -1 := by
      rw [hs0]
      cases b
      · exact .inl rfl
      · exact .inr rfl
    have HS1 := Lib.hid hs1
    have hc1' := Lib.hid (And.intro hc1 hc2)
    clear hwc hs0 hs1 hc1 hc2
    go_wp2_with fail
    go_loopw [5, 6] (fun vs vm wr => ∃ (j : Nat) (s : Int) (cc : PCon) (rr : Rd) (x1 x2 : Value) (mo : Bool), vm = .bool mo ∧ vs = .int .i64 s ∧ (s = 1 ∨ s = -1) ∧ (if mo = true then terms K s0 c T r1 = terms j s cc T rr ∧ n < j + rr.at_ ∧ cc.coefs.length ≤ 10000 + rr.at_ ∧ cc.vars.length ≤ 10000 + rr.at_ else terms K s0 c T r1 = (cc, rr)) ∧ At w wr F g n pl bl ol cl pv bv ov m cv T w.heap.size base cc rr x1 x2 u3 ∧ Box6 wr (w.heap.size + 1) 0 (.slice none 0 0) (.slice none 0 0) 0 0 (.slice none 0 0)) (fun _ vm wr => moOf vm + (n - tookOf wr g))
    case atStart => exact ⟨K, s0, c, r1, u1, u2, true, rfl, rfl, HS1.out, by rw [if_pos rfl]; exact ⟨rfl, by omega, by have := hc1'.out.2; omega, by have := hc1'.out.1; omega⟩, HA.out, HRS.out⟩
    case round =>
      obtain ⟨j, s, cc, rr, x1, x2, mo, rfl, rfl, hs, hrel, hat, hres⟩ := hrel
      have HAT := Lib.hid hat
      have HRE := Lib.hid hres
      cases mo
      · rw [if_neg (by simp)] at hrel
        have HTE := Lib.hid hrel
        clear hrel hat hres hs
        have hq2 : q = relate cc (relF rr (next T rr)).1 T (relF rr (next T rr)).2 := by
          rw [HQ.out]
          show (seq (terms K (if (hasF tMinus r (next T r)).1 = true then -1 else 1) c) fun d => seq (look relF) fun i => relate d i) T (hasF tMinus r (next T r)).2 = _
          rw [← HBR.out.1, ← HBR.out.2, ← HS0.out]
          show (seq (look relF) fun i => relate (terms K s0 c T r1).1 i) T (terms K s0 c T r1).2 = _
          rw [HTE.out]
          rfl
        have HQ2 := Lib.hid hq2
        clear hq2
        go_upto_region 17 with fail
        obtain ⟨wa, hwa⟩ : ∃ wa, wa = wr.alloc (.cells #[.string ⟨#[61]⟩, .string ⟨#[33, 61]⟩, .string ⟨#[60]⟩, .string ⟨#[60, 61]⟩, .string ⟨#[62]⟩, .string ⟨#[62, 61]⟩] 9) := ⟨_, rfl⟩
        have hBa : Below wr.heap.size wr wa := by rw [hwa]; exact (Below.refl _ wr).alloc (Nat.le_refl _) _
        have HRL := Lib.hid (show RelsAt wr wa by rw [hwa]; exact rels_at wr)
        have HAT := Lib.hid (HAT.out.below hBa)
        have HRE := Lib.hid (HRE.out.below hBa)
        obtain ⟨rb, hrb⟩ : ∃ rb, rb = wr.heap.size := ⟨_, rfl⟩
        rw [← hwa, ← hrb]
        have HRB := Lib.hid hrb
        obtain ⟨qs, hqs, hqt⟩ := str_open (textO (next T rr))
        have TX := Lib.hid (fun (u : World) (hu : RdAt u g n pl bl ol cl pv bv ov m cv T rr) (k : Nat) => text_any (hu.drewN k))
        rw [hqs] at TX
        have HQT := Lib.hid hqt
        have hfew := HAT.out.rd.few
        have htop := HAT.out.rd.top
        clear hwa hBa hqs hqt hrb
        obtain ⟨wb, hwb⟩ : ∃ wb, wb = wa := ⟨_, rfl⟩
        go_wp2_with fail
        go_loopw [9] (fun vi wr => (∃ k : Nat, k ≤ 6 ∧ vi = .int .i64 k ∧ ∀ j, j < k → relsL.getD j [] ≠ textO (next T rr)) ∧ ∃ i, wr = wa.drewN i) (fun vi _ => 6 - (intOf vi).toNat)
        case atStart => exact ⟨⟨0, by omega, rfl, fun j hj => by omega⟩, 0, rfl⟩
        case round =>
          obtain ⟨⟨k, hk, rfl, hne⟩, i, hwr⟩ := hrel
          have HWR := Lib.hid hwr
          have HNE := Lib.hid hne
          have HA1 := Lib.hid (show At w wr F g n pl bl ol cl pv bv ov m cv T w.heap.size base cc rr x1 x2 u3 by rw [hwr]; exact HAT.out.moved (HAT.out.rd.drewN i) ((Moves.refl g none wa).drewN i))
          have TT := Lib.hid (TX.out _ HA1.out.rd)
          have HR1 := Lib.hid (show Box6 wr (w.heap.size + 1) 0 (.slice none 0 0) (.slice none 0 0) 0 0 (.slice none 0 0) by rw [hwr]; exact HRE.out)
          have HCE := Lib.hid (show ∀ k, k < 6 → ∃ q : ByteArray, wr.cell? ⟨rb, k, none⟩ = some (.string q) ∧ txt q = relsL.getD k [] from fun k hk => by rw [hwr, HRB.out]; exact HRL.out.cell k hk)
          clear hwr
          by_cases hlt : k < 6
          · obtain ⟨q', c0, hq'⟩ := HCE.out k hlt
            have he := eql_txt qs q'
            rw [hq', HQT.out] at he
            have hk6 : (k : Int) < 6 := by omega
            clear hne
            by_cases hx : textO (next T rr) = relsL.getD k []
            · rw [decide_eq_true hx] at he
              have hf : relF rr (next T rr) = (some k, step1 rr) := by
                unfold relF
                rw [find_at HNE.out hlt hx.symm]
              have hin : rr.at_ < n := HA1.out.rd.in_ (by
                intro e
                have h2 := hf
                rw [e] at h2
                unfold relF at h2
                rw [show textO none = [] from rfl, find_nil] at h2
                cases h2)
              have hq3 := HQ2.out
              rw [hf] at hq3
              have HQ3 := Lib.hid hq3
              have hw : IntKind.i64.wrap ((rr.at_ : Int) + 1) = (rr.at_ : Int) + 1 := IntWalk.i64_in _ (by omega)
              clear hx hf hq3
              go_upto_region 20 with fail
              go_quiet ((go_at_call 12; exact Calls.quiet_of (TT.out _)))
              have HA2 := Lib.hid (HA1.out.moved (HA1.out.rd.drewN nq) ((Moves.refl g none _).drewN nq))
              have HR2 := Lib.hid (show Box6 (wr.drewN nq) (w.heap.size + 1) 0 (.slice none 0 0) (.slice none 0 0) 0 0 (.slice none 0 0) from HR1.out)
              have c1 := HA2.out.rd.c1
              have f1 := HA2.out.rd.f1
              go_upto_region 22 with fail
              have HA3 := Lib.hid (HA2.out.moved (HA2.out.rd.step hin) ((Moves.refl g none _).set 1 _))
              have HR3 := Lib.hid (HR2.out.moved ((Moves.refl g none _).set 1 (.int .i64 ((rr.at_ : Int) + 1))) HA2.out.rd.ty)
              obtain ⟨w3, hw3⟩ : ∃ w3, w3 = (wr.drewN nq).setCell ⟨g, 1, none⟩ (.int .i64 ((rr.at_ : Int) + 1)) := ⟨_, rfl⟩
              rw [← hw3] at HA3 HR3 ⊢
              have b3 := HA3.out.box.cell 3 rfl
              have f3 := HA3.out.box.frozen 3
              clear hw3 c1 f1
              go_upto_region 23 with fail
              have HA4 := Lib.hid (HA3.out.setRel (k := (k : Int)))
              have HR4 := Lib.hid (HR3.out.same (w' := w3.setCell ⟨w.heap.size, 3, none⟩ (.int .i64 (k : Int))) (Below.heap_setCell _ _ _ _ (by simp)))
              obtain ⟨w4, hw4⟩ : ∃ w4, w4 = w3.setCell ⟨w.heap.size, 3, none⟩ (.int .i64 (k : Int)) := ⟨_, rfl⟩
              rw [← hw4] at HA4 HR4 ⊢
              have NX := Lib.hid (number_any HA4.out.rd hv)
              clear hw4 b3 f3
              go_wp2_with fail
              refine NX.out.mono ?_
              rintro e w5 ⟨rfl, h5, hm5⟩
              have HA5 := Lib.hid (HA4.out.moved h5 hm5)
              have HR5 := Lib.hid (HR4.out.moved hm5 HA4.out.rd.ty)
              have b4 := HA5.out.box.cell 4 rfl
              have f4 := HA5.out.box.frozen 4
              obtain ⟨z, hz⟩ : ∃ z, z = (number T (step1 rr)).1 := ⟨_, rfl⟩
              rw [← hz]
              have HZ := Lib.hid hz
              clear h5 hm5 hz
              go_upto_region 24 with fail
              have HA6 := Lib.hid (HA5.out.setConst (k := z))
              have HR6 := Lib.hid (HR5.out.same (w' := w5.setCell ⟨w.heap.size, 4, none⟩ (.int .i64 z)) (Below.heap_setCell _ _ _ _ (by simp)))
              obtain ⟨w6, hw6⟩ : ∃ w6, w6 = w5.setCell ⟨w.heap.size, 4, none⟩ (.int .i64 z) := ⟨_, rfl⟩
              rw [← hw6] at HA6 HR6 ⊢
              have HQ4 := Lib.hid (show q = ({ cc with rel := (k : Int), const := z }, (number T (step1 rr)).2) by
                rw [HQ3.out, HZ.out]
                rfl)
              clear hw6 b4 f4
              obtain ⟨p1, l1, k1, e1⟩ : ∃ p l k, x1 = .slice p l k := by
                obtain ⟨p, k, e⟩ := HA6.out.own.o1.shape
                exact ⟨p, _, k, e⟩
              subst e1
              obtain ⟨p2, l2, k2, e2⟩ : ∃ p l k, x2 = .slice p l k := by
                obtain ⟨p, k, e⟩ := HA6.out.own.o2.shape
                exact ⟨p, _, k, e⟩
              subst e2
              obtain ⟨p3, l3, k3, e3⟩ : ∃ p l k, u3 = .slice p l k := by
                obtain ⟨p, k, e⟩ := HA6.out.own.o3.shape
                exact ⟨p, _, k, e⟩
              subst e3
              have b0 := HA6.out.box.cell 0 rfl
              have b1 := HA6.out.box.cell 1 rfl
              have b2 := HA6.out.box.cell 2 rfl
              have b3 := HA6.out.box.cell 3 rfl
              have b4 := HA6.out.box.cell 4 rfl
              have b5 := HA6.out.box.cell 5 rfl
              have r0 := HR6.out.cell 0 rfl
              have g0 := HR6.out.frozen 0
              have r1 := HR6.out.cell 1 rfl
              have g1 := HR6.out.frozen 1
              have r2 := HR6.out.cell 2 rfl
              have g2 := HR6.out.frozen 2
              have r3 := HR6.out.cell 3 rfl
              have g3 := HR6.out.frozen 3
              have r4 := HR6.out.cell 4 rfl
              have g4 := HR6.out.frozen 4
              have r5 := HR6.out.cell 5 rfl
              have g5 := HR6.out.frozen 5
              go_wp2_with fail
              (try simp only [Exit.inBlock, Exit.then])
              refine bodyPost_ret (results_con rfl _ _ (w.heap.size + 1) (.int .i64 cc.kind) (.slice p1 l1 k1) (.slice p2 l2 k2) (.int .i64 (k : Int)) (.int .i64 z) (.slice p3 l3 k3) rfl ?c0a ?c1a ?c2a ?c3a ?c4a ?c5a) rfl ?resta
              case c0a => go_simp
              case c1a => go_simp
              case c2a => go_simp
              case c3a => go_simp
              case c4a => go_simp
              case c5a => go_simp
              exact sum_post (HA6.out.six HR6.out.kind (by omega) (by omega)) HQ4.out
            · rw [decide_eq_false hx] at he
              have HX := Lib.hid hx
              clear hx
              go_upto_region 20 with fail
              go_quiet ((go_at_call 12; exact Calls.quiet_of (TT.out _)))
              go_wp2_with fail
              go_roundw
              case rel => exact ⟨⟨k + 1, by omega, by go_num, fun j hj => by
                by_cases hjk : j < k
                · exact HNE.out j hjk
                · obtain rfl : j = k := by omega
                  exact fun e => HX.out e.symm⟩, by rw [HWR.out]; exact drewN_on ⟨i, rfl⟩⟩
              case measure => simp [intOf]; omega
          · obtain rfl : k = 6 := by omega
            have hf : relF rr (next T rr) = (none, fail1 rr) := by
              unfold relF
              rw [find_no (l := relsL) (fun j hj => HNE.out j hj)]
            have hq3 := HQ2.out
            rw [hf] at hq3
            have HQ3 := Lib.hid (show q = (cc, fail1 rr) from hq3)
            have c2 := HA1.out.rd.c2
            have f2 := HA1.out.rd.f2
            clear hne hf hq3
            go_upto_region 26 with fail
            have HA3 := Lib.hid (HA1.out.moved HA1.out.rd.fail ((Moves.refl g none _).set 2 _))
            have HR3 := Lib.hid (HR1.out.moved ((Moves.refl g none _).set 2 (.bool true)) HA1.out.rd.ty)
            obtain ⟨w3, hw3⟩ : ∃ w3, w3 = wr.setCell ⟨g, 2, none⟩ (.bool true) := ⟨_, rfl⟩
            rw [← hw3] at HA3 HR3 ⊢
            clear hw3 c2 f2
            obtain ⟨p1, l1, k1, e1⟩ : ∃ p l k, x1 = .slice p l k := by
              obtain ⟨p, k, e⟩ := HA3.out.own.o1.shape
              exact ⟨p, _, k, e⟩
            subst e1
            obtain ⟨p2, l2, k2, e2⟩ : ∃ p l k, x2 = .slice p l k := by
              obtain ⟨p, k, e⟩ := HA3.out.own.o2.shape
              exact ⟨p, _, k, e⟩
            subst e2
            obtain ⟨p3, l3, k3, e3⟩ : ∃ p l k, u3 = .slice p l k := by
              obtain ⟨p, k, e⟩ := HA3.out.own.o3.shape
              exact ⟨p, _, k, e⟩
            subst e3
            have b0 := HA3.out.box.cell 0 rfl
            have b1 := HA3.out.box.cell 1 rfl
            have b2 := HA3.out.box.cell 2 rfl
            have b3 := HA3.out.box.cell 3 rfl
            have b4 := HA3.out.box.cell 4 rfl
            have b5 := HA3.out.box.cell 5 rfl
            have r0 := HR3.out.cell 0 rfl
            have g0 := HR3.out.frozen 0
            have r1 := HR3.out.cell 1 rfl
            have g1 := HR3.out.frozen 1
            have r2 := HR3.out.cell 2 rfl
            have g2 := HR3.out.frozen 2
            have r3 := HR3.out.cell 3 rfl
            have g3 := HR3.out.frozen 3
            have r4 := HR3.out.cell 4 rfl
            have g4 := HR3.out.frozen 4
            have r5 := HR3.out.cell 5 rfl
            have g5 := HR3.out.frozen 5
            go_wp2_with fail
            (try simp only [Exit.inBlock, Exit.then])
            refine bodyPost_ret (results_con rfl _ _ (w.heap.size + 1) (.int .i64 cc.kind) (.slice p1 l1 k1) (.slice p2 l2 k2) (.int .i64 cc.rel) (.int .i64 cc.const) (.slice p3 l3 k3) rfl ?c0b ?c1b ?c2b ?c3b ?c4b ?c5b) rfl ?restb
            case c0b => go_simp
            case c1b => go_simp
            case c2b => go_simp
            case c3b => go_simp
            case c4b => go_simp
            case c5b => go_simp
            exact sum_post (HA3.out.six HR3.out.kind (by omega) (by omega)) HQ3.out
      · rw [if_pos rfl] at hrel
        obtain ⟨hte, hnj, hl2, hl1⟩ := hrel
        have htop := hat.rd.top
        obtain ⟨j', rfl⟩ : ∃ j', j = j' + 1 := ⟨j - 1, by omega⟩
        rw [terms_eq] at hte
        have HTE := Lib.hid hte
        have KX := Lib.hid (kind_any hat.rd)
        obtain ⟨kk, hkk⟩ : ∃ kk, kk = kindO (next T rr) := ⟨_, rfl⟩
        rw [← hkk] at KX
        have HKK := Lib.hid hkk
        obtain ⟨ws, hws⟩ : ∃ ws, ws = wr := ⟨_, rfl⟩
        rw [← hws] at HAT HRE KX ⊢
        have HM0 := Lib.hid (show (roundS T rr) = if kk = 2 then ((valueF rr (next T rr)).1, (mustF tStar (valueF rr (next T rr)).2 (next T (valueF rr (next T rr)).2)).2) else (1, rr) by rw [roundS, factor_eq, hkk])
        clear hat hres hte hkk hws
        go_wp2_with fail
        refine KX.out.mono ?_
        rintro e w2 ⟨rfl, q2, hq2⟩
        have HA2 := Lib.hid (show At w w2 F g n pl bl ol cl pv bv ov m cv T w.heap.size base cc rr x1 x2 u3 by rw [hq2]; exact HAT.out.moved (HAT.out.rd.drewN q2) ((Moves.refl g none ws).drewN q2))
        have HR2 := Lib.hid (show Box6 w2 (w.heap.size + 1) 0 (.slice none 0 0) (.slice none 0 0) 0 0 (.slice none 0 0) by rw [hq2]; exact HRE.out)
        clear hq2
        go_upto_if 15 with (fail)
        go_cut [7, 15] from 12 to 43 (fun vn _ wx => vn = .int .i64 (roundS T rr).1 ∧ At w wx F g n pl bl ol cl pv bv ov m cv T w.heap.size base cc (roundS T rr).2 x1 x2 u3 ∧ Box6 wx (w.heap.size + 1) 0 (.slice none 0 0) (.slice none 0 0) 0 0 (.slice none 0 0))
        case first =>
          by_cases k2 : kk = 2
          · have e2 : ((kk : Int) == 2) = true := beq_iff_eq.2 (by omega)
            have hm0 := HM0.out
            rw [if_pos k2] at hm0
            have HM1 := Lib.hid hm0
            have VX := Lib.hid (value_any HA2.out.rd)
            clear k2 hm0
            go_wp2_with fail
            refine VX.out.mono ?_
            rintro e w3 ⟨rfl, h3, hm3⟩
            have HA3 := Lib.hid (HA2.out.moved h3 hm3)
            have HR3 := Lib.hid (HR2.out.moved hm3 HA2.out.rd.ty)
            have MX := Lib.hid (must_any ⟨#[42]⟩ (by decide) h3)
            rw [show txt ⟨#[42]⟩ = tStar from rfl] at MX
            clear h3 hm3
            go_wp2_with fail
            refine MX.out.mono ?_
            rintro e w4 ⟨rfl, h4, hm4⟩
            have HA4 := Lib.hid (HA3.out.moved h4 hm4)
            have HR4 := Lib.hid (HR3.out.moved hm4 HA3.out.rd.ty)
            clear h4 hm4
            go_wp2_with fail
            go_meet
            case rel => exact ⟨by rw [HM1.out], by rw [HM1.out]; exact HA4.out, HR4.out⟩
          · have e2 : ((kk : Int) == 2) = false := beq_eq_false_iff_ne.2 (by omega)
            have hm0 := HM0.out
            rw [if_neg k2] at hm0
            have HM1 := Lib.hid hm0
            clear k2 hm0
            go_wp2_with fail
            go_meet
            case rel => exact ⟨by rw [HM1.out], by rw [HM1.out]; exact HA2.out, HR2.out⟩
        case rest =>
          obtain ⟨rfl, hac, hrc⟩ := hcut
          obtain ⟨wd, hwd⟩ : ∃ wd, wd = wc := ⟨_, rfl⟩
          rw [← hwd] at hac hrc ⊢
          obtain ⟨v, hve⟩ : ∃ v, v = (roundS T rr).1 := ⟨_, rfl⟩
          have hvf := roundS_few (r := rr) hv
          rw [← hve] at hvf ⊢
          have HVE := Lib.hid hve
          have hz : -2000000000000 ≤ s * v ∧ s * v ≤ 2000000000000 := by
            rcases hs with rfl | rfl <;> constructor <;> omega
          have hzf : Fit (s * v) := by unfold Fit; omega
          have HZF := Lib.hid hzf
          have HAC := Lib.hid hac
          have HRC := Lib.hid hrc
          have HBA := Lib.hid (fun o => (Below.refl _ wd).alloc (Nat.le_refl _) o)
          have HAB := Lib.hid (hac.below (HBA.out (.cells #[.int .i64 (s * v)] 3)))
          have b2 := hac.box.cell 2 rfl
          have hcn : (wd.alloc (.cells #[.int .i64 (s * v)] 3)).cell? ⟨wd.heap.size, 0, none⟩ = some (.int .i64 (s * v)) := by go_simp
          have HCN := Lib.hid hcn
          have hl2' : cc.coefs.length ≤ 100000 := by omega
          have HSZ := Lib.hid (show base ≤ (wd.alloc (.cells #[.int .i64 (s * v)] 3)).heap.size from HAB.out.low)
          have hzz := hz.1
          have hzy := hz.2
          clear hac hrc hwd hve hcn hvf hz hzf
          go_upto_region 11 with (at_builtin; refine put_list rfl _ _ rfl rfl rfl HAB.out.own.o2 HCN.out HZF.out hl2' HSZ.out rfl ?_; intro p cap w5 hP; have HP := Lib.hid hP; have b5 := (HAB.out.grown HAB.out.own.o2 HAB.out.f2 hP).2.1.cell 2 rfl; have f5 := (HAB.out.grown HAB.out.own.o2 HAB.out.f2 hP).2.1.frozen 2; clear hP)
          obtain ⟨w6, hw6⟩ : ∃ w6, w6 = w5.setCell ⟨w.heap.size, 2, none⟩ (.slice p (cc.coefs.length + 1) cap) := ⟨_, rfl⟩
          have HA6 := Lib.hid (show At w w6 F g n pl bl ol cl pv bv ov m cv T w.heap.size base { cc with coefs := cc.coefs ++ [s * v] } (roundS T rr).2 x1 (.slice p (cc.coefs.length + 1) cap) u3 by rw [hw6]; exact HAB.out.setCoefs HP.out)
          have HR6 := Lib.hid (show Box6 w6 (w.heap.size + 1) 0 (.slice none 0 0) (.slice none 0 0) 0 0 (.slice none 0 0) by
            rw [hw6]
            refine Box6.same (Box6.grown (HRC.out.below (HBA.out _)) HAB.out.own.o2 HP.out.grown) (Below.heap_setCell _ _ _ _ ?_)
            simp)
          rw [← hw6]
          obtain ⟨c6, hc6⟩ : ∃ c6 : PCon, c6 = { cc with coefs := cc.coefs ++ [s * v] } := ⟨_, rfl⟩
          obtain ⟨y2, hy2⟩ : ∃ y2 : Value, y2 = .slice p (cc.coefs.length + 1) cap := ⟨_, rfl⟩
          rw [← hc6, ← hy2] at HA6
          have HC6 := Lib.hid hc6
          have hl6 : c6.vars.length ≤ 100000 := by rw [hc6]; show cc.vars.length ≤ _; omega
          clear hw6 b5 f5 b2 hc6 hy2
          obtain ⟨rs, hrs⟩ : ∃ rs, rs = (roundS T rr).2 := ⟨_, rfl⟩
          rw [← hrs] at HA6
          have HRS2 := Lib.hid hrs
          clear hrs
          go_cut [] from 12 to 43 (fun wx => ∃ x1', At w wx F g n pl bl ol cl pv bv ov m cv T w.heap.size base { c6 with vars := c6.vars ++ [(variableF rs (next T rs)).1] } (variableF rs (next T rs)).2 x1' y2 u3 ∧ Box6 wx (w.heap.size + 1) 0 (.slice none 0 0) (.slice none 0 0) 0 0 (.slice none 0 0))
          case first =>
            have VX := Lib.hid (fun q => variable_any (HA6.out.rd.drewN q) hm)
            have hvf := variable_few (r := rs) (o := next T rs)
            obtain ⟨z, hze⟩ : ∃ z, z = (variableF rs (next T rs)).1 := ⟨_, rfl⟩
            rw [← hze] at VX hvf
            have HZE := Lib.hid hze
            have hzf : Fit z := by
              have := HA6.out.rd.nm.long
              unfold Fit
              omega
            have HZF := Lib.hid hzf
            have b1 := HA6.out.box.cell 1 rfl
            clear hze hzf hvf
            go_region_law (first
              | (refine put_step rfl _ _ rfl rfl rfl HAV.out.own.o1 HCV.out HZF.out hl6 HSV.out rfl ?_; intro p7 cap7 w7 hP7; have HP7 := Lib.hid hP7; have b7 := (HAV.out.grown HAV.out.own.o1 HAV.out.f1 hP7).2.1.cell 1 rfl; have f7 := (HAV.out.grown HAV.out.own.o1 HAV.out.f1 hP7).2.1.frozen 1; clear hP7)
              | (go_simp; go_at_call 59; refine (VX.out _).mono ?_; rintro e w7 ⟨rfl, h7, hm7⟩; have HA7 := Lib.hid ((HA6.out.moved (HA6.out.rd.drewN 1) ((Moves.refl g none w6).drewN 1)).moved h7 hm7); have HR7 := Lib.hid (HR6.out.moved (((Moves.refl g none w6).drewN 1).trans hm7) HA6.out.rd.ty); have b1 := HA7.out.box.cell 1 rfl; have HAV := Lib.hid (HA7.out.below ((Below.refl _ w7).alloc (Nat.le_refl _) (.cells #[.int .i64 z] 3))); have HSV := Lib.hid HAV.out.low; have HCV := Lib.hid (show (w7.alloc (.cells #[.int .i64 z] 3)).cell? ⟨w7.heap.size, 0, none⟩ = some (.int .i64 z) by go_simp); have bb := HA7.out.box.lt; clear h7 hm7))
            all_goals go_wp2_with fail
            all_goals go_meet
            all_goals
              refine ⟨_, by rw [← HZE.out]; exact HAV.out.setVars HP7.out, ?_⟩
              refine Box6.same (Box6.grown (HR7.out.below ((Below.refl _ _).alloc (Nat.le_refl _) _)) HAV.out.own.o1 HP7.out.grown) (Below.heap_setCell _ _ _ _ ?_)
              simp
          case rest =>
            obtain ⟨x7, ha7, hr7⟩ := hcut
            obtain ⟨we, hwe⟩ : ∃ we, we = wc := ⟨_, rfl⟩
            rw [← hwe] at ha7 hr7 ⊢
            obtain ⟨rv, hrv⟩ : ∃ rv, rv = (variableF rs (next T rs)).2 := ⟨_, rfl⟩
            have hrv2 : rv = (roundV T rr).2 := by rw [hrv, HRS2.out]; rfl
            obtain ⟨c7, hc7⟩ : ∃ c7 : PCon, c7 = { c6 with vars := c6.vars ++ [(variableF rs (next T rs)).1] } := ⟨_, rfl⟩
            have hc72 : c7 = roundC T s cc rr := by rw [hc7, HC6.out, HVE.out, HRS2.out]; rfl
            rw [← hrv, ← hc7] at ha7
            have HA7 := Lib.hid ha7
            have HR7 := Lib.hid hr7
            have HRV := Lib.hid hrv2
            have HC7 := Lib.hid hc72
            have TX := Lib.hid (text_any ha7.rd)
            obtain ⟨qs, hqs, hqt⟩ := str_open (textO (next T rv))
            rw [hqs] at TX
            have he := eql_txt qs ⟨#[45]⟩
            rw [hqt, show txt ⟨#[45]⟩ = tMinus from rfl] at he
            obtain ⟨bm, hbm⟩ : ∃ bm : Bool, bm = decide (textO (next T rv) = tMinus) := ⟨_, rfl⟩
            rw [← hbm] at he
            have HBM := Lib.hid hbm
            obtain ⟨sg, hsg⟩ : ∃ sg, sg = signO (next T rv) := ⟨_, rfl⟩
            have HSG := Lib.hid hsg
            clear ha7 hr7 hwe hrv hrv2 hc7 hc72 hqs hqt hsg hbm
            go_wp2_with fail
            refine TX.out.mono ?_
            rintro e w8 ⟨rfl, q8, hq8⟩
            have HA8 := Lib.hid (show At w w8 F g n pl bl ol cl pv bv ov m cv T w.heap.size base c7 rv x7 y2 u3 by rw [hq8]; exact HA7.out.moved (HA7.out.rd.drewN q8) ((Moves.refl g none we).drewN q8))
            have HR8 := Lib.hid (show Box6 w8 (w.heap.size + 1) 0 (.slice none 0 0) (.slice none 0 0) 0 0 (.slice none 0 0) by rw [hq8]; exact HR7.out)
            clear hq8
            have hs2 : sg = 1 ∨ sg = -1 := by
              rw [HSG.out, signO]
              split
              · exact .inr rfl
              · exact .inl rfl
            have HS2 := Lib.hid hs2
            clear hs2
            go_upto_if 37 with (fail)
            go_cut [5, 37] from 12 to 43 (fun vs _ wx => vs = .int .i64 sg ∧ wx = w8)
            case first =>
              cases bm
              · have hsg : sg = 1 := by rw [HSG.out, signO, if_neg (of_decide_eq_false HBM.out.symm)]
                have HSG2 := Lib.hid hsg
                clear hsg
                go_wp2_with fail
                go_meet
                case rel => exact ⟨by rw [HSG2.out], rfl⟩
              · have hsg : sg = -1 := by rw [HSG.out, signO, if_pos (of_decide_eq_true HBM.out.symm)]
                have HSG2 := Lib.hid hsg
                clear hsg
                go_wp2_with fail
                go_meet
                case rel => exact ⟨by rw [HSG2.out], rfl⟩
            case rest =>
              obtain ⟨rfl, hw8⟩ := hcut
              rw [hw8]
              clear hw8 he
              have PX := Lib.hid (has_any ⟨#[43]⟩ (by decide) HA8.out.rd)
              rw [show txt ⟨#[43]⟩ = tPlus from rfl] at PX
              obtain ⟨b3, hb3⟩ : ∃ b3, b3 = (hasF tPlus rv (next T rv)).1 := ⟨_, rfl⟩
              obtain ⟨r3, hr3⟩ : ∃ r3, r3 = (hasF tPlus rv (next T rv)).2 := ⟨_, rfl⟩
              rw [← hb3, ← hr3] at PX
              have HPL := Lib.hid (show plusR T rr = (b3, r3) by rw [plusR, ← HRV.out, hb3, hr3])
              clear hb3 hr3
              have hln : c7.coefs.length = cc.coefs.length + 1 ∧ c7.vars.length = cc.vars.length + 1 := by rw [HC7.out, roundC]; simp
              have HLN := Lib.hid hln
              have HL0 := Lib.hid (And.intro hl1 hl2)
              have HTK := Lib.hid (tookOf_at HAT.out.rd)
              have HNJ := Lib.hid hnj
              have HMK := Lib.hid (fun hh : (moreR T rr).1 = true => more_took hh)
              have HTP := Lib.hid htop
              clear hln hl1 hl2 hl2' hl6 hnj htop
              cases b3
              · go_wp2_with fail
                refine PX.out.mono ?_
                rintro e w9 ⟨rfl, h9, hm9⟩
                have HA9 := Lib.hid (HA8.out.moved h9 hm9)
                have HR9 := Lib.hid (HR8.out.moved hm9 HA8.out.rd.ty)
                have MX := Lib.hid (has_any ⟨#[45]⟩ (by decide) h9)
                rw [show txt ⟨#[45]⟩ = tMinus from rfl] at MX
                obtain ⟨b4, hb4⟩ : ∃ b4, b4 = (hasF tMinus r3 (next T r3)).1 := ⟨_, rfl⟩
                obtain ⟨r4, hr4⟩ : ∃ r4, r4 = (hasF tMinus r3 (next T r3)).2 := ⟨_, rfl⟩
                rw [← hb4, ← hr4] at MX
                have HMO := Lib.hid (show moreR T rr = (b4, r4) by
                  rw [moreR, HPL.out, hb4, hr4]
                  show orMinus false T r3 = _
                  rfl)
                clear h9 hm9 hb4 hr4
                go_wp2_with fail
                refine MX.out.mono ?_
                rintro e w10 ⟨rfl, h10, hm10⟩
                have HA10 := Lib.hid (HA9.out.moved h10 hm10)
                have HR10 := Lib.hid (HR9.out.moved hm10 HA9.out.rd.ty)
                clear h10 hm10
                go_wp2_with fail
                go_roundw
                case rel => exact round_rel HTE.out HMO.out HC7.out HSG.out HRV.out HS2.out HNJ.out HL0.out HLN.out HMK.out HA10.out HR10.out
                case measure => exact round_less HMO.out HMK.out HA10.out.rd HTK.out HTP.out
              · have HMO := Lib.hid (show moreR T rr = (true, r3) by
                  rw [moreR, HPL.out]
                  rfl)
                go_wp2_with fail
                refine PX.out.mono ?_
                rintro e w10 ⟨rfl, h10, hm10⟩
                have HA10 := Lib.hid (HA8.out.moved h10 hm10)
                have HR10 := Lib.hid (HR8.out.moved hm10 HA8.out.rd.ty)
                clear h10 hm10
                go_wp2_with fail
                go_roundw
                case rel => exact round_rel HTE.out HMO.out HC7.out HSG.out HRV.out HS2.out HNJ.out HL0.out HLN.out HMK.out HA10.out HR10.out
                case measure => exact round_less HMO.out HMK.out HA10.out.rd HTK.out HTP.out
end
end Go.Proofs.YtfkakdpppejehaaGreat.Pa
