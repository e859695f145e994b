/-
  What Same of the document's answers for steps answers, of domains however they lie.
  What came in: models and constraints, their values open.
  The last step of every law's proof, once for all programs: a call that answers true and leaves what was there as it was meets its row's post: every argument reads as it read before. Nothing of the program.
  What the rows' condition gives: the table of the library lies in its variable; and a world that meets the condition.
-/
import Derived.Test.YtiaibggbbkhjlaaDoorZYBB
import Derived.Test.YtiaibggbbkhjlaaDoorZYAP
import Derived.Lib.SmallJoins
import Derived.WalkKit
import Derived.ProofKit
import Derived.OpenShut
import Derived.ChangeStays
import Derived.ReadAgain
import Derived.ChangeSame
import Derived.Below
import Derived.Test.YtiaibggbbkhjlaaDoorZYAE
import Derived.LaidMore
import Derived.Stop.Joined
import Derived.Lib.LaidTab
namespace Go.Proofs.YtiaibggbbkhjlaaDoor.St
open Go.RowKit
set_option maxRecDepth 100000

theorem DomsAt.slc {w : World} {base : Nat} {v : Value} {L : List (List Int × Nat)} (h : DomsAt w base v L) (hm : ∀ d ∈ L, d.1.length ≤ 1000) : Slc rDom 2 w v L :=
  OwnsP.slc h fun c a ha ⟨u, e, o, l⟩ => ⟨u, e, Dm.readsN_of_owns o, l, Nat.le_trans (hm a ha) (by decide)⟩
set_option maxHeartbeats 4000000 in
theorem rssame2_any {w : World} {u v : Value} {A B : List (List Int × Nat)} (hA : Slc rDom 2 w u A) (hB : Slc rDom 2 w v B) (ha : ∀ d ∈ A, d.1.length ≤ 1000) (hb : ∀ d ∈ B, d.1.length ≤ 1000) (hn : A.length ≤ 1000) (_ : B.length ≤ 1000) :
    Calls Tryd.prog 12 #[u, v] w fun e w' => e = .returned (.bool (decide (A = B))) ∧ Below w.heap.size w w' := by
  obtain ⟨pa, ba, oa, ca, la, rfl, _, hA⟩ := hA
  obtain ⟨pb, bb, ob, cb, lb, rfl, _, hB⟩ := hB
  obtain rfl := hA.long
  obtain rfl := hB.long
  have hpa := hA.at_
  have hpb := hB.at_
  by_cases hlen : A.length = B.length
  · have HA := Lib.hid hA
    have HB := Lib.hid hB
    have QA := Lib.hid ha
    have QB := Lib.hid hb
    have HLL := Lib.hid hlen
    obtain ⟨R, hR⟩ : ∃ R, R = decide (A = B) := ⟨_, rfl⟩
    rw [← hR]
    have HR := Lib.hid (hR.trans (sameTo_all hlen).symm)
    rw [← hlen] at HB ⊢
    obtain ⟨n, hn2⟩ : ∃ n, n = A.length := ⟨_, rfl⟩
    rw [← hn2] at HA HB hn HR ⊢
    have HN := Lib.hid hn2
    have H0 := Lib.hid (show sameTo A B 0 = true from rfl)
    clear hA hB ha hb hlen hR hn2
    go_enter Tryd.func12, Tryd.ntmps12
    go_wp2_with fail
    go_loopw [5] (fun i wr => ∃ k : Nat, k ≤ n ∧ i = .int .i64 k ∧ sameTo A B k = true ∧ Below w.heap.size w wr) (fun i _ => n - (intOf i).toNat)
    case atStart => exact ⟨0, by omega, rfl, H0.out, Below.refl _ _⟩
    case round =>
      rename_i wr
      obtain ⟨k, hk, rfl, hs, hBl⟩ := hrel
      have HBl := Lib.hid hBl
      have HS := Lib.hid hs
      clear hBl hs
      by_cases hlt : k < n
      · have hkA : k < A.length := by have := HN.out; omega
        have hkB : k < B.length := by have := HLL.out; omega
        obtain rfl := hpa (by omega)
        obtain rfl := hpb (by omega)
        obtain ⟨x, a0, a1, ox, hx, _⟩ := dom_at (HA.out.below rDom_stays HBl.out) hlt
        obtain ⟨y, b0, b1, oy, hy, _⟩ := dom_at (HB.out.below rDom_stays HBl.out) hlt
        have hs2 := sameTo_succ A B k
        rw [HS.out, Bool.true_and] at hs2
        have q1 := QA.out (A.getD k ([], 0)) (by rw [List.getD_eq_getElem?_getD, List.getElem?_eq_getElem hkA]; exact List.getElem_mem hkA)
        have q2 := QB.out (B.getD k ([], 0)) (by rw [List.getD_eq_getElem?_getD, List.getElem?_eq_getElem hkB]; exact List.getElem_mem hkB)
        obtain ⟨d1, hd1⟩ : ∃ d, d = A.getD k ([], 0) := ⟨_, rfl⟩
        obtain ⟨d2, hd2⟩ : ∃ d, d = B.getD k ([], 0) := ⟨_, rfl⟩
        rw [← hd1] at a1 ox hx hs2 q1
        rw [← hd2] at b1 oy hy hs2 q2
        obtain ⟨xs, nx⟩ := d1
        obtain ⟨ys, ny⟩ := d2
        have LX := Lib.hid (fun q => Dm.rdsame_any (x := nx) (y := ny) (Dm.reads_below (Dm.reads_of_readsN ox) (below_drewN (n := q) (Below.refl _ wr))) (Dm.reads_below (Dm.reads_of_readsN oy) (below_drewN (n := q) (Below.refl _ wr))) (Nat.le_trans q1 (by decide)) (Nat.le_trans q2 (by decide)))
        obtain ⟨G, hG⟩ : ∃ G, G = (decide (nx = ny) && (xs == ys)) := ⟨_, rfl⟩
        have HG := Lib.hid (show sameTo A B (k + 1) = G by rw [hs2, hG]; show ((xs == ys) && (nx == ny)) = _; rw [Bool.and_comm]; rfl)
        rw [← hG] at LX
        have d5 : (k : Int) < (n : Int) := by omega
        clear hG hd1 hd2 ox oy q1 q2 hs2 hkA hkB
        go_upto_region 6 with fail
        cases G
        · go_region_law (go_simp; go_at_call 34; refine (LX.out _).mono ?_; rintro e w7 ⟨rfl, hB7⟩; have HB7 := Lib.hid (below_two HBl.out (below_two (below_drewN (n := 1) (Below.refl _ wr)) hB7)); clear hB7)
          all_goals go_wp2_with fail
          all_goals go_ret
          all_goals exact ⟨by rw [HR.out, sameTo_false HG.out (by have := HN.out; omega)]; rfl, HB7.out⟩
        · go_region_law (go_simp; go_at_call 34; refine (LX.out _).mono ?_; rintro e w7 ⟨rfl, hB7⟩; have HB7 := Lib.hid (below_two HBl.out (below_two (below_drewN (n := 1) (Below.refl _ wr)) hB7)); clear hB7)
          all_goals go_wp2_with fail
          all_goals
            go_roundw
            case rel => exact ⟨k + 1, by omega, by go_num, HG.out, HB7.out⟩
            case measure => simp [intOf]; omega
      · have d6 : ¬ ((k : Int) < (n : Int)) := by omega
        obtain rfl : k = n := by omega
        go_wp2_with fail
        go_ret
        exact ⟨by rw [HR.out, HS.out]; rfl, HBl.out⟩
  · have hne : A ≠ B := fun e => hlen (by rw [e])
    have d1 : ¬ ((A.length : Int) = (B.length : Int)) := by omega
    have HE := Lib.hid (show decide (A = B) = false from decide_eq_false hne)
    go_enter Tryd.func12, Tryd.ntmps12
    go_wp2_with fail
    go_ret
    exact ⟨by rw [HE.out]; rfl, Below.refl _ _⟩
end Go.Proofs.YtiaibggbbkhjlaaDoor.St
namespace Go.Proofs.YtiaibggbbkhjlaaDoor
open Go.ChangeShapes Go.WideShapes Go.ChangeAt Go.RowKit
set_option maxRecDepth 100000

section
variable {H : Type} {enc : TypeId × Value → H} {W : World} {base : Nat} {v : Value} {d : DataW H} {ps : List MemPlace}
theorem array_of_list {cs : Array Value} {l : List Value} (h : cs.toList = l) : cs = l.toArray := by
  subst h
  simp
/-- a constraint that came in -/
theorem openC (hval : Value.okWide Tryd.prog W .any base 24 v) (h : DataW.Trod enc Tryd.prog W 0 (fun _ => true) true 24 v d ps) : ∃ (c : PCon) (v1 v2 v3 : Value), v = .agg #[.int .i64 c.kind, v1, v2, .int .i64 c.rel, .int .i64 c.const, v3] ∧ rCon W [.int .i64 c.kind, v1, v2, .int .i64 c.rel, .int .i64 c.const, v3] c := by
  obtain ⟨cs, rfl, _⟩ := okWide_struct Tryd.underlying24 hval
  obtain ⟨c, hm⟩ := openedC h
  have hm2 : rCon W cs.toList c := hm
  have hm3 := hm2
  obtain ⟨v1, v2, v3, e, _⟩ := hm2
  rw [e] at hm3
  exact ⟨c, v1, v2, v3, by rw [array_of_list e], hm3⟩
end
end Go.Proofs.YtiaibggbbkhjlaaDoor
namespace Go.Proofs.YtiaibggbbkhjlaaDoor
open Go.ChangeShapes Go.WideShapes Go.ChangeAt Go.RowKit

section
variable {H : Type} {enc : TypeId × Value → H} {P : Program}

/-- a reading of values stays, where what it reads of memory has stayed -/
theorem trodAll_stays {W W' : World} {sp : Nat → Bool} (K : Kids P (· < P.types.size)) (hz : ∀ t e, t < P.types.size → P.underlying t = some (.slice e) → 0 < P.cellsOf e) :
    ∀ {ts : List TypeId} {vs : List Value} {ds : List (DataW H)} {ps : List MemPlace}, (∀ t ∈ ts, t < P.types.size) → DataW.TrodAll enc P W 0 (fun _ => true) true ts vs ds ps →
      (∀ p ∈ ps, W.sameAt W' p) → (∀ p ∈ ps, sp p.block = true) → DataW.TrodAll enc P W' 0 sp true ts vs ds ps
  | [], vs, ds, ps, _, h, _, _ => by
    obtain ⟨rfl, rfl, rfl⟩ := trodAll_nil h
    exact trodAll_mk0
  | t :: ts, vs, ds, ps, hT, h, hs, hp => by
    obtain ⟨v, vs1, d, ds1, a, b, rfl, rfl, rfl, ⟨n, h1⟩, h2⟩ := trodAll_cons h
    refine ⟨a, b, ⟨n, DataW.trod_stays K (fun {t e} => hz t e) (fun x => Bool.noConfusion x) (hT t (by simp)) h1 (fun p q => hs p (by simp [q])) (fun p q => hp p (by simp [q]))⟩, ?_, rfl⟩
    exact trodAll_stays K hz (fun t q => hT t (by simp [q])) h2 (fun p q => hs p (by simp [q])) (fun p q => hp p (by simp [q]))

theorem law_post {f : Func} {s : ChangeSpec} {apart fresh handsOn again : Bool} {W W' : World} {args : Array Value} {ds gs : List (DataW H)} {before : List MemPlace} {tb : TypeId}
    (K : Kids P (· < P.types.size)) (hz : ∀ t e, t < P.types.size → P.underlying t = some (.slice e) → 0 < P.cellsOf e) (hT : ∀ t ∈ f.params.toList, t < P.types.size)
    (hr : f.resultTypes = #[tb]) (ht : P.underlying tb = some .bool) (hv : s.vars = [])
    (hfn : s.fn H (ds ++ []) = { results := [.lit (.bool true)], args := ds })
    (hW : DataW.Whole enc P f.params.toList s.vars apart W args.toList ds gs before) (hb : Below W.heap.size W W') :
    s.post enc P f apart fresh handsOn again W args (.bool true) W' := by
  have hlt : ∀ p ∈ before, p.block < W.heap.size := fun p hp => hW.lt p hp
  have hW0 := hW
  obtain ⟨p, q, hA, hV, rfl, hfz, hnd⟩ := hW
  rw [hv] at hV
  obtain ⟨rfl, rfl⟩ := trodVars_none hV
  rw [List.append_nil] at hlt hfz hnd hW0
  have again' : ∀ sp : Nat → Bool, (∀ x ∈ p, sp x.block = true) → DataW.TrodAll enc P W' 0 sp true f.params.toList args.toList ds p := fun sp hsp =>
    trodAll_stays K hz hT hA (fun x hx => hb.same (hlt x hx)) hsp
  have hres : ∀ (b : Nat) (sp : Nat → Bool) (hd : Bool), DataW.TrodAll enc P W' b sp hd f.resultTypes.toList ((Value.bool true).resultList f.resultTypes.size) [.lit (.bool true)] [] := fun b sp hd => by
    rw [hr]; exact trodAll_cons_mk (shut_bool ht _) trodAll_mk0
  have hnone : ∀ sp : Nat → Bool, DataW.TrodVars enc P W' sp s.vars [] [] := fun sp => by rw [hv]; rfl
  refine ⟨ds, [], p, [], p, [], hW0, ?_, ?_, ?_, World.keptBut_mono (fun x hx => ⟨hx, Or.inr (Or.inl hx)⟩) (hb.frame (· ∈ p)), fun _ => ⟨?_, ?_⟩⟩
  · rw [hfn]; exact hres _ _ _
  · rw [hfn]; exact again' _ (fun x hx => by simpa using hlt x hx)
  · rw [hfn]; exact hnone _
  · exact ok_one hr rfl (okWide_bool_mk ht _)
  · refine ⟨_, [], [] ++ p, ⟨[] ++ p, [], trodAll_append (again' _ (fun _ _ => rfl)) (hres _ _ _), hnone _, (List.append_nil _).symm, ?_, ?_⟩, ?_⟩
    · intro b off hp
      rw [hb.frozen (hlt _ (by simpa using hp))]
      exact hfz b off (by simpa using hp)
    · intro ha
      simpa using hnd ha
    · intro x hx _
      simpa using hx
end
end Go.Proofs.YtiaibggbbkhjlaaDoor
namespace Go.Proofs.YtiaibggbbkhjlaaDoor
open Go.ChangeShapes Go.WideShapes Go.ChangeAt Go.WideMaps Go.WideElems Go.RowKit

theorem own : ownKnob Tryd.prog.godebug = none := by kernel_rfl
theorem gTab : Tryd.prog.globalNamed "math/bits.deBruijn64tab" = some 0 := by kernel_rfl
theorem tTab : (Tryd.prog.globals[0]?).map (·.type) = some 92 := by kernel_rfl
theorem cells43 : Tryd.prog.cellsOf 92 = 64 := by kernel_rfl
theorem cells5 : Tryd.prog.cellsOf 5 = 1 := by kernel_rfl

/-- what the rows list -/
def laid1 : List (String × DataW Unit) := [("math/bits.deBruijn64tab", Rows.laid_math_bits_deBruijn64tab)]

theorem tab_data : (Rows.laid_math_bits_deBruijn64tab : DataW Unit) = Lib.tabData .u8 (Lib.deBruijn64tab.map fun n : Nat => (n : Int)) := by kernel_rfl

theorem door_met (os : Os) (args : Array Value) : laidMetH Tryd.prog laid1 ((World.doorLaid Tryd.prog 14 os).forCall (fun _ _ => 0) ⟨#[], args, []⟩).memory :=
  laidMetH_of_parts3 (fuel := 8) (laidMet_of_run' 8 (by kernel_rfl) (by kernel_rfl)) (by kernel_rfl) (by kernel_rfl)

theorem tab_of {W : World} (h : laidMetH Tryd.prog laid1 W) : B.Tab W ∧ 0 < W.heap.size := by
  rw [MakeChecks.laidMetH_plain _ _ _ (by kernel_rfl)] at h
  unfold laid1 at h
  rw [tab_data] at h
  have hv := Lib.tabIs_of_head gTab tTab Tryd.underlying92 Tryd.underlying5 cells5 cells43 h
  have hT : B.Tab W := fun j hj => by
    have hc := World.var?_cell gTab hv j
    rw [hc]
    have hl : j < Lib.deBruijn64tab.length := by
      have : Lib.deBruijn64tab.length = 64 := by decide
      omega
    simp [hl]
  refine ⟨hT, ?_⟩
  have h0 := hT 0 (by omega)
  unfold World.cell? at h0
  cases hh : W.heap[0]? with
  | none => simp [hh] at h0
  | some q => exact (Array.getElem?_eq_some_iff.1 hh).1

theorem kids : Kids Tryd.prog (· < Tryd.prog.types.size) := kids_rows (by kernel_rfl) (by kernel_rfl)
theorem full : ∀ t e, t < Tryd.prog.types.size → Tryd.prog.underlying t = some (.slice e) → 0 < Tryd.prog.cellsOf e := slices_full_of Tryd.prog (by kernel_rfl)

theorem fit {n : Int} (h : (Lit.int .i64 n).wf = true) : -9223372036854775808 ≤ n ∧ n ≤ 9223372036854775807 := by
  simpa [Lit.wf, IntKind.min, IntKind.max, IntKind.signed, IntKind.bits] using h
theorem fitu {n : Int} (h : (Lit.int .u64 n).wf = true) : ∃ m : Nat, n = (m : Int) ∧ m < 18446744073709551616 := by
  have : 0 ≤ n ∧ n ≤ 18446744073709551615 := by
    simpa [Lit.wf, IntKind.min, IntKind.max, IntKind.signed, IntKind.bits] using h
  exact ⟨n.toNat, by omega, by omega⟩
end Go.Proofs.YtiaibggbbkhjlaaDoor
