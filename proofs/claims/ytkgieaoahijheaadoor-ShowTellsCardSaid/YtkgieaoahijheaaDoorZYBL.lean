/-
  What came in: models and constraints, their values open.
  The last step of every law's proof, once for all programs: a call that answers true and leaves what was there as it was meets its row's post: every argument reads as it read before. Nothing of the program.
  What the row's condition gives: the library's table of powers of ten lies in its variable; and a world that meets the condition.
-/
import Derived.Test.YtkgieaoahijheaaDoorZYAG
import Derived.Lib.SmallJoins
import Derived.WalkKit
import Derived.ProofKit
import Derived.OpenShut
import Derived.ChangeStays
import Derived.ReadAgain
import Derived.ChangeSame
import Derived.Below
import Derived.Test.YtkgieaoahijheaaDoorZYBI
import Derived.LaidMore
import Derived.Stop.Joined
import Derived.Stop.LaidErr
import Derived.Lib.LaidTab
namespace Go.Proofs.YtkgieaoahijheaaDoor
open Go.ChangeShapes Go.WideShapes Go.ChangeAt Go.RowKit
set_option maxRecDepth 100000

section
variable {H : Type} {enc : TypeId × Value → H} {W : World} {base : Nat} {v : Value} {d : DataW H} {ps : List MemPlace}
theorem array_of_list {cs : Array Value} {l : List Value} (h : cs.toList = l) : cs = l.toArray := by
  subst h
  simp
/-- a model that came in -/
theorem openM (hval : Value.okWide Tryd.prog W .any base 25 v) (h : DataW.Trod enc Tryd.prog W 0 (fun _ => true) true 25 v d ps) : ∃ v1 v2 m, v = .agg #[v1, v2] ∧ rModel W [v1, v2] m := by
  obtain ⟨cs, rfl, _⟩ := okWide_struct Tryd.underlying25 hval
  obtain ⟨m, hm⟩ := openedM h
  have hm2 : rModel W cs.toList m := hm
  have hm3 := hm2
  obtain ⟨v1, v2, e, _⟩ := hm2
  rw [e] at hm3
  exact ⟨v1, v2, m, by rw [array_of_list e], hm3⟩
/-- a constraint that came in -/
theorem openC (hval : Value.okWide Tryd.prog W .any base 28 v) (h : DataW.Trod enc Tryd.prog W 0 (fun _ => true) true 28 v d ps) : ∃ (c : PCon) (v1 v2 v3 : Value), v = .agg #[.int .i64 c.kind, v1, v2, .int .i64 c.rel, .int .i64 c.const, v3] ∧ rCon W [.int .i64 c.kind, v1, v2, .int .i64 c.rel, .int .i64 c.const, v3] c := by
  obtain ⟨cs, rfl, _⟩ := okWide_struct Tryd.underlying28 hval
  obtain ⟨c, hm⟩ := openedC h
  have hm2 : rCon W cs.toList c := hm
  have hm3 := hm2
  obtain ⟨v1, v2, v3, e, _⟩ := hm2
  rw [e] at hm3
  exact ⟨c, v1, v2, v3, by rw [array_of_list e], hm3⟩
end
end Go.Proofs.YtkgieaoahijheaaDoor
namespace Go.Proofs.YtkgieaoahijheaaDoor
open Go.ChangeShapes Go.WideShapes Go.ChangeAt Go.RowKit

section
variable {H : Type} {enc : TypeId × Value → H} {P : Program}

/-- a reading of values stays, where what it reads of memory has stayed -/
theorem trodAll_stays {W W' : World} {sp : Nat → Bool} (K : Kids P (· < P.types.size)) (hz : ∀ t e, t < P.types.size → P.underlying t = some (.slice e) → 0 < P.cellsOf e) :
    ∀ {ts : List TypeId} {vs : List Value} {ds : List (DataW H)} {ps : List MemPlace}, (∀ t ∈ ts, t < P.types.size) → DataW.TrodAll enc P W 0 (fun _ => true) true ts vs ds ps →
      (∀ p ∈ ps, W.sameAt W' p) → (∀ p ∈ ps, sp p.block = true) → DataW.TrodAll enc P W' 0 sp true ts vs ds ps
  | [], vs, ds, ps, _, h, _, _ => by
    obtain ⟨rfl, rfl, rfl⟩ := trodAll_nil h
    exact trodAll_mk0
  | t :: ts, vs, ds, ps, hT, h, hs, hp => by
    obtain ⟨v, vs1, d, ds1, a, b, rfl, rfl, rfl, ⟨n, h1⟩, h2⟩ := trodAll_cons h
    refine ⟨a, b, ⟨n, DataW.trod_stays K (fun {t e} => hz t e) (fun x => Bool.noConfusion x) (hT t (by simp)) h1 (fun p q => hs p (by simp [q])) (fun p q => hp p (by simp [q]))⟩, ?_, rfl⟩
    exact trodAll_stays K hz (fun t q => hT t (by simp [q])) h2 (fun p q => hs p (by simp [q])) (fun p q => hp p (by simp [q]))

theorem law_post {f : Func} {s : ChangeSpec} {apart fresh handsOn again : Bool} {W W' : World} {args : Array Value} {ds gs : List (DataW H)} {before : List MemPlace} {tb : TypeId}
    (K : Kids P (· < P.types.size)) (hz : ∀ t e, t < P.types.size → P.underlying t = some (.slice e) → 0 < P.cellsOf e) (hT : ∀ t ∈ f.params.toList, t < P.types.size)
    (hr : f.resultTypes = #[tb]) (ht : P.underlying tb = some .bool) (hv : s.vars = [])
    (hfn : s.fn H (ds ++ []) = { results := [.lit (.bool true)], args := ds })
    (hW : DataW.Whole enc P f.params.toList s.vars apart W args.toList ds gs before) (hb : Below W.heap.size W W') :
    s.post enc P f apart fresh handsOn again W args (.bool true) W' := by
  have hlt : ∀ p ∈ before, p.block < W.heap.size := fun p hp => hW.lt p hp
  have hW0 := hW
  obtain ⟨p, q, hA, hV, rfl, hfz, hnd⟩ := hW
  rw [hv] at hV
  obtain ⟨rfl, rfl⟩ := trodVars_none hV
  rw [List.append_nil] at hlt hfz hnd hW0
  have again' : ∀ sp : Nat → Bool, (∀ x ∈ p, sp x.block = true) → DataW.TrodAll enc P W' 0 sp true f.params.toList args.toList ds p := fun sp hsp =>
    trodAll_stays K hz hT hA (fun x hx => hb.same (hlt x hx)) hsp
  have hres : ∀ (b : Nat) (sp : Nat → Bool) (hd : Bool), DataW.TrodAll enc P W' b sp hd f.resultTypes.toList ((Value.bool true).resultList f.resultTypes.size) [.lit (.bool true)] [] := fun b sp hd => by
    rw [hr]; exact trodAll_cons_mk (shut_bool ht _) trodAll_mk0
  have hnone : ∀ sp : Nat → Bool, DataW.TrodVars enc P W' sp s.vars [] [] := fun sp => by rw [hv]; rfl
  refine ⟨ds, [], p, [], p, [], hW0, ?_, ?_, ?_, World.keptBut_mono (fun x hx => ⟨hx, Or.inr (Or.inl hx)⟩) (hb.frame (· ∈ p)), fun _ => ⟨?_, ?_⟩⟩
  · rw [hfn]; exact hres _ _ _
  · rw [hfn]; exact again' _ (fun x hx => by simpa using hlt x hx)
  · rw [hfn]; exact hnone _
  · exact ok_one hr rfl (okWide_bool_mk ht _)
  · refine ⟨_, [], [] ++ p, ⟨[] ++ p, [], trodAll_append (again' _ (fun _ _ => rfl)) (hres _ _ _), hnone _, (List.append_nil _).symm, ?_, ?_⟩, ?_⟩
    · intro b off hp
      rw [hb.frozen (hlt _ (by simpa using hp))]
      exact hfz b off (by simpa using hp)
    · intro ha
      simpa using hnd ha
    · intro x hx _
      simpa using hx
end
end Go.Proofs.YtkgieaoahijheaaDoor
namespace Go.Proofs.YtkgieaoahijheaaDoor
open Go.ChangeShapes Go.WideShapes Go.ChangeAt Go.WideMaps Go.WideElems Go.RowKit

theorem own : ownKnob Tryd.prog.godebug = none := by kernel_rfl
theorem gTab : Tryd.prog.globalNamed "internal/strconv.uint64pow10" = some 0 := by kernel_rfl
theorem tTab : (Tryd.prog.globals[0]?).map (·.type) = some 118 := by kernel_rfl
theorem cellsTab : Tryd.prog.cellsOf 118 = 20 := by kernel_rfl
theorem cellsU : Tryd.prog.cellsOf 112 = 1 := by kernel_rfl

/-- what the rows list -/
def laid3 : List (String × DataW Unit) := [("math/bits.deBruijn32tab", Rows.laid_math_bits_deBruijn32tab), ("math/bits.deBruijn64tab", Rows.laid_math_bits_deBruijn64tab), ("internal/strconv.uint64pow10", Rows.laid_internal_strconv_uint64pow10)]

theorem tab_data : (Rows.laid_internal_strconv_uint64pow10 : DataW Unit) = Lib.tabData .u64 Lib.pow10Tab := by kernel_rfl

theorem door_met (os : Os) (args : Array Value) : laidMetH Tryd.prog laid3 ((World.doorLaid Tryd.prog 24 os).forCall (fun _ _ => 0) ⟨#[], args, []⟩).memory :=
  laidMetH_of_parts3 (fuel := 8) (laidMet_of_run' 8 (by kernel_rfl) (by kernel_rfl)) (by kernel_rfl) (by kernel_rfl)

theorem tab_of {W : World} (h : laidMetH Tryd.prog laid3 W) : Wt.Tb W.heap.size W := by
  rw [MakeChecks.laidMetH_plain _ _ _ (by kernel_rfl)] at h
  unfold laid3 at h
  have h2 := h.tail.tail
  rw [tab_data] at h2
  have hv := Lib.tabIs_of_head gTab tTab Tryd.underlying118 Tryd.underlying112 cellsU cellsTab h2
  refine ⟨0, gTab, ?_, hv⟩
  have h0 := hv.cell gTab 0 (by decide)
  unfold World.cell? at h0
  cases hh : W.heap[0]? with
  | none => simp [hh] at h0
  | some q => exact (Array.getElem?_eq_some_iff.1 hh).1

theorem kids : Kids Tryd.prog (· < Tryd.prog.types.size) := kids_rows (by kernel_rfl) (by kernel_rfl)
theorem full : ∀ t e, t < Tryd.prog.types.size → Tryd.prog.underlying t = some (.slice e) → 0 < Tryd.prog.cellsOf e := slices_full_of Tryd.prog (by kernel_rfl)
end Go.Proofs.YtkgieaoahijheaaDoor
