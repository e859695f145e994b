/-
  Nested data in memory: a slice whose elements are read by a reader of their own; how such data comes in, and stays. Nothing of the program.
  Models, blocks, variables and constraints in memory, as plain data; and that what comes in reads so.
  What all of the document's answers, and Same of its answers for sets, answer, at every list of numbers that can be read.
-/
import Derived.Deep.Slices
import Derived.ChangeArms
import Derived.ChangeSame
import Derived.Below
import Derived.Test.YtiaibggbbkhjlaaDoorProg
import Derived.KernelRfl
import Derived.Deep.Draws
import Derived.WalkKit
import Derived.ProofKit
import Derived.OpenShut
import Derived.Outline
import Derived.WalkMore
import Derived.Lib.Hide
import Derived.BigGuardPart
import Derived.Deep.DeepCutAuto
import Derived.Deep.CutBlock
import Derived.Deep.Light
import Derived.Deep.QuietTactic
import Derived.BigQuiet
import Derived.LoopTactic
import Derived.OwnWalk
import Derived.Maps.AppendAt
import Derived.Great.BuildSlice
import Derived.Laws.OwnMore
import Derived.Lib.OwnBridge
namespace Go.Proofs.YtiaibggbbkhjlaaDoor
open Go.ChangeShapes Go.WideShapes Go.RowKit
set_option maxRecDepth 100000

/-- what the cells of an element read as -/
def Reader (α : Type) : Type := World → List Value → α → Prop
/-- a reading stays where memory stays -/
def Reader.Stays {α : Type} (R : Reader α) : Prop := ∀ (w w' : World) (cs : List Value) (a : α), Below w.heap.size w w' → R w cs a → R w' cs a

/-- the slice value v reads as the list L, element by element, each of n cells -/
structure SliceOf {α : Type} (R : Reader α) (n : Nat) (w : World) (p : Option Addr) (b off len : Nat) (L : List α) : Prop where
  long : len = L.length
  at_ : 0 < len → p = some ⟨b, off, none⟩
  cell : ∀ (k : Nat) (a : α), L[k]? = some a → ∃ cs : List Value, cs.length = n ∧ (∀ j, j < n → w.cell? ⟨b, off + k * n + j, none⟩ = cs[j]?) ∧ R w cs a
/-- the same, of a value -/
def Slc {α : Type} (R : Reader α) (n : Nat) (w : World) (v : Value) (L : List α) : Prop := ∃ (p : Option Addr) (b off c len : Nat), v = .slice p len c ∧ ((p = none → c = 0) ∧ len ≤ c) ∧ SliceOf R n w p b off len L

theorem cell_stays {w wr : World} {p : Addr} {v : Value} (hB : Below w.heap.size w wr) (h : w.cell? p = some v) : wr.cell? p = some v := by
  have hlt : p.block < w.heap.size := by
    unfold World.cell? at h
    cases hh : w.heap[p.block]? with
    | none => simp [hh] at h
    | some q => exact (Array.getElem?_eq_some_iff.1 hh).1
  exact (hB.cell hlt).trans h
theorem SliceOf.below {α : Type} {R : Reader α} (hR : R.Stays) {n : Nat} {w w' : World} {p : Option Addr} {b off len : Nat} {L : List α} (h : SliceOf R n w p b off len L) (hB : Below w.heap.size w w') : SliceOf R n w' p b off len L :=
  ⟨h.long, h.at_, fun k a ha => by
    obtain ⟨cs, h1, h2, h3⟩ := h.cell k a ha
    refine ⟨cs, h1, fun j hj => ?_, hR w w' cs a hB h3⟩
    have hs : ∃ v, cs[j]? = some v := ⟨cs[j], List.getElem?_eq_getElem (by omega)⟩
    obtain ⟨v, hv⟩ := hs
    rw [hv]
    exact cell_stays hB (by rw [h2 j hj, hv])⟩
theorem Slc.below {α : Type} {R : Reader α} (hR : R.Stays) {n : Nat} {w w' : World} {v : Value} {L : List α} (h : Slc R n w v L) (hB : Below w.heap.size w w') : Slc R n w' v L := by
  obtain ⟨p, b, off, c, len, h1, hn, h2⟩ := h
  exact ⟨p, b, off, c, len, h1, hn, h2.below hR hB⟩

section
variable {H : Type} {enc : TypeId × Value → H} {P : Program} {W : World} {base : Nat} {held : Bool}

/-- a reader fits a type, if what can be read of that type is read by it -/
def Fits {α : Type} (enc : TypeId × Value → H) (P : Program) (W : World) (base : Nat) (held : Bool) (e : TypeId) (R : Reader α) : Prop :=
  ∀ (fuel : Nat) (cs : List Value) (x : DataW H × List MemPlace), DataW.trod enc P W base (fun _ => true) held fuel e cs = some x → ∃ a, R W cs a

/-- a slice that came in, of elements of a type that a reader fits -/
theorem slc_cells {α : Type} [Inhabited α] {R : Reader α} {t e : TypeId} {fuel : Nat} {cs : List Value} {x : DataW H × List MemPlace} {n : Nat} (ht : P.underlying t = some (.slice e)) (hn : P.cellsOf e = n) (hpos : 0 < n)
    (hR : Fits enc P W base held e R) (h : DataW.trod enc P W base (fun _ => true) held fuel t cs = some x) : ∃ (v : Value) (L : List α), cs = [v] ∧ Slc R n W v L := by
  rcases Go.Deep.open_slice ht h with ⟨rfl, rfl⟩ | ⟨a, len, cap, m, k, D, Pl, rfl, hb, hl, hm, hmm, rfl, hx⟩
  · exact ⟨_, [], rfl, none, 0, 0, 0, 0, rfl, ⟨fun _ => rfl, Nat.le_refl _⟩, rfl, fun h => by omega, fun k a h => by simp at h⟩
  · have hlm : len ≤ m := by rw [hmm]; simp; omega
    have each : ∀ i, i < len → ∃ q : List Value × α, q.1.length = n ∧ (∀ j, j < n → W.cell? (a.add (i * n + j)) = q.1[j]?) ∧ R W q.1 q.2 := by
      intro i hi
      obtain ⟨cs', h1, h2⟩ := hx i (by omega)
      rw [hn] at h1
      obtain ⟨_, hlen, hcell⟩ := World.cells?_some h1
      obtain ⟨y, hy⟩ := hR _ _ _ h2
      refine ⟨(cs', y), hlen, fun j hj => ?_, hy⟩
      have := hcell j hj
      rw [Go.Deep.add_add] at this
      exact this
    obtain ⟨q, hq⟩ := Go.Deep.choose_lt each
    refine ⟨_, (List.range len).map fun i => (q i).2, rfl, ?_⟩
    by_cases h0 : len = 0
    · subst h0
      exact ⟨some a, 0, 0, cap, 0, rfl, ⟨(fun h => by cases h), hl⟩, rfl, fun h => by omega, fun k a h => by simp at h⟩
    · obtain ⟨b, off, spot⟩ := a
      have hspot : spot = none := by
        obtain ⟨h1, h2, _⟩ := hq 0 (by omega)
        have h3 := h2 0 hpos
        rw [List.getElem?_eq_getElem (by omega)] at h3
        simpa [Addr.add] using World.cell?_spot h3
      subst hspot
      refine ⟨_, b, off, cap, len, rfl, ⟨(fun h => by cases h), hl⟩, by simp, fun _ => rfl, fun k a hk => ?_⟩
      have hk2 : k < len := by
        have := (List.getElem?_eq_some_iff.1 hk).1
        simpa using this
      have hka : (q k).2 = a := by simpa [hk2] using hk
      obtain ⟨h1, h2, h3⟩ := hq k hk2
      refine ⟨(q k).1, h1, fun j hj => ?_, hka ▸ h3⟩
      have h4 := h2 j hj
      have e1 : (⟨b, off, none⟩ : Addr).add (k * n + j) = ⟨b, off + k * n + j, none⟩ := by
        unfold Addr.add
        split
        · rename_i h5; simp_all
        · simp [Nat.add_assoc]
      rw [e1] at h4
      exact h4
theorem slc_fits {α : Type} [Inhabited α] {R : Reader α} {t e : TypeId} {n : Nat} (ht : P.underlying t = some (.slice e)) (hn : P.cellsOf e = n) (hpos : 0 < n) (hR : Fits enc P W base held e R) :
    Fits enc P W base held t (fun w cs L => ∃ v, cs = [v] ∧ Slc R n w v L) := fun fuel cs x h => by
  obtain ⟨v, L, h1, h2⟩ := slc_cells ht hn hpos hR h
  exact ⟨L, v, h1, h2⟩
end
end Go.Proofs.YtiaibggbbkhjlaaDoor
namespace Go.Proofs.YtiaibggbbkhjlaaDoor
open Go.ChangeShapes Go.WideShapes Go.RowKit
set_option maxRecDepth 100000

structure PDecl where
  name : List UInt8
  dom : List (Int × Int)
structure PCon where
  kind : Int
  vars : List Int
  coefs : List Int
  rel : Int
  const : Int
  nums : List Int
structure PBlock where
  all : Bool
  vars : List PDecl
  cons : List PCon
structure PModel where
  blocks : List PBlock
  goal : List PCon
instance : Inhabited PDecl := ⟨⟨[], []⟩⟩
instance : Inhabited PCon := ⟨⟨0, [], [], 0, 0, []⟩⟩
instance : Inhabited PBlock := ⟨⟨false, [], []⟩⟩
instance : Inhabited PModel := ⟨⟨[], []⟩⟩

/-- is it a number of 64 bits? -/
def Fit (n : Int) : Prop := -9223372036854775808 ≤ n ∧ n ≤ 9223372036854775807
def rNum : Reader Int := fun _ cs n => cs = [.int .i64 n] ∧ Fit n
def rSpan : Reader (Int × Int) := fun _ cs s => cs = [.int .i64 s.1, .int .i64 s.2] ∧ Fit s.1 ∧ Fit s.2
def rDecl : Reader PDecl := fun w cs d => ∃ (s : ByteArray) (v : Value), cs = [.string s, v] ∧ s.data.toList = d.name ∧ Slc rSpan 2 w v d.dom
def rCon : Reader PCon := fun w cs c => ∃ v1 v2 v3 : Value, cs = [.int .i64 c.kind, v1, v2, .int .i64 c.rel, .int .i64 c.const, v3] ∧ (Fit c.kind ∧ Fit c.rel ∧ Fit c.const) ∧ Slc rNum 1 w v1 c.vars ∧ Slc rNum 1 w v2 c.coefs ∧ Slc rNum 1 w v3 c.nums
def rBlock : Reader PBlock := fun w cs b => ∃ v1 v2 : Value, cs = [.bool b.all, v1, v2] ∧ Slc rDecl 2 w v1 b.vars ∧ Slc rCon 6 w v2 b.cons
def rModel : Reader PModel := fun w cs m => ∃ v1 v2 : Value, cs = [v1, v2] ∧ Slc rBlock 3 w v1 m.blocks ∧ Slc rCon 6 w v2 m.goal

theorem rNum_stays : rNum.Stays := fun _ _ _ _ _ h => h
theorem rSpan_stays : rSpan.Stays := fun _ _ _ _ _ h => h
theorem rDecl_stays : rDecl.Stays := fun _ _ _ _ hB ⟨s, v, h1, h2, h3⟩ => ⟨s, v, h1, h2, h3.below rSpan_stays hB⟩
theorem rCon_stays : rCon.Stays := fun _ _ _ _ hB ⟨v1, v2, v3, h1, h2, h3, h4, h5⟩ => ⟨v1, v2, v3, h1, h2, h3.below rNum_stays hB, h4.below rNum_stays hB, h5.below rNum_stays hB⟩
theorem rBlock_stays : rBlock.Stays := fun _ _ _ _ hB ⟨v1, v2, h1, h2, h3⟩ => ⟨v1, v2, h1, h2.below rDecl_stays hB, h3.below rCon_stays hB⟩
theorem rModel_stays : rModel.Stays := fun _ _ _ _ hB ⟨v1, v2, h1, h2, h3⟩ => ⟨v1, v2, h1, h2.below rBlock_stays hB, h3.below rCon_stays hB⟩

section
variable {H : Type} {enc : TypeId × Value → H} {W : World} {base : Nat} {held : Bool}

theorem fit_of {n : Int} (h : (Lit.int .i64 n).wf = true) : Fit n := by
  simpa [Fit, Lit.wf, IntKind.min, IntKind.max, IntKind.signed, IntKind.bits] using h
set_option maxRecDepth 100000 in
theorem num_fits : Fits enc Tryd.prog W base held 3 rNum := fun fuel cs x h => by
  obtain ⟨n, rfl, _, hw⟩ := DataW.trod_int Tryd.underlying3 h
  exact ⟨n, rfl, fit_of hw⟩
set_option maxRecDepth 100000 in
theorem nums_fit {fuel : Nat} {cs : List Value} {x : DataW H × List MemPlace} (h : DataW.trod enc Tryd.prog W base (fun _ => true) held fuel 22 cs = some x) : ∃ v L, cs = [v] ∧ Slc rNum 1 W v L :=
  slc_cells Tryd.underlying22 (by kernel_rfl) (by decide) num_fits h
set_option maxRecDepth 100000 in
theorem con_fits : Fits enc Tryd.prog W base held 24 rCon := fun fuel cs x h => by
  obtain ⟨xs, n, _, _, hl, hx, hf⟩ := DataW.trod_struct Tryd.underlying24 h
  have hl : cs.length = 6 := hl.trans (by kernel_rfl)
  have c3 : Tryd.prog.cellsOf 3 = 1 := by kernel_rfl
  have c26 : Tryd.prog.cellsOf 22 = 1 := by kernel_rfl
  match cs, hl, xs, hx with
  | [u0, u1, u2, u3, u4, u5], _, [y0, y1, y2, y3, y4, y5], _ =>
    have g0 := hf 0 _ rfl
    have g1 := hf 1 _ rfl
    have g2 := hf 2 _ rfl
    have g3 := hf 3 _ rfl
    have g4 := hf 4 _ rfl
    have g5 := hf 5 _ rfl
    simp [c3, c26] at g0 g1 g2 g3 g4 g5
    obtain ⟨a, e0, _, w0⟩ := DataW.trod_int Tryd.underlying3 g0
    obtain ⟨v1, L1, e1, h1⟩ := nums_fit g1
    obtain ⟨v2, L2, e2, h2⟩ := nums_fit g2
    obtain ⟨r, e3, _, w3⟩ := DataW.trod_int Tryd.underlying3 g3
    obtain ⟨k, e4, _, w4⟩ := DataW.trod_int Tryd.underlying3 g4
    obtain ⟨v5, L5, e5, h5⟩ := nums_fit g5
    obtain rfl : u0 = _ := by simpa using e0
    obtain rfl : u1 = _ := by simpa using e1
    obtain rfl : u2 = _ := by simpa using e2
    obtain rfl : u3 = _ := by simpa using e3
    obtain rfl : u4 = _ := by simpa using e4
    obtain rfl : u5 = _ := by simpa using e5
    exact ⟨⟨a, L1, L2, r, k, L5⟩, _, _, _, rfl, ⟨fit_of w0, fit_of w3, fit_of w4⟩, h1, h2, h5⟩
set_option maxRecDepth 100000 in
theorem cons_fit {fuel : Nat} {cs : List Value} {x : DataW H × List MemPlace} (h : DataW.trod enc Tryd.prog W base (fun _ => true) held fuel 39 cs = some x) : ∃ v L, cs = [v] ∧ Slc rCon 6 W v L :=
  slc_cells Tryd.underlying39 (by kernel_rfl) (by decide) con_fits h
/-- a constraint that came in -/
theorem openedC {v : Value} {d : DataW H} {ps : List MemPlace} (h : DataW.Trod enc Tryd.prog W 0 (fun _ => true) true 24 v d ps) : ∃ c, rCon W v.cells.toList c := by
  obtain ⟨fuel, hf⟩ := h
  exact con_fits _ _ _ hf
end
end Go.Proofs.YtiaibggbbkhjlaaDoor
namespace Go.Proofs.YtiaibggbbkhjlaaDoor
open Go.RowKit
set_option maxRecDepth 100000

theorem ret_bool {a b : Bool} (h : a = b) : Ending.returned (.bool a) = .returned (.bool b) := by rw [h]
theorem drewN_on {w wr : World} {m : Nat} (h : ∃ n, wr = w.drewN n) : ∃ n, wr.drewN m = w.drewN n := by
  obtain ⟨n, rfl⟩ := h
  exact ⟨n + m, by rw [World.drewN_drewN]⟩

/-- numbers in memory, place by place -/
structure Nums (w : World) (p : Option Addr) (b off len : Nat) (xs : List Int) : Prop where
  long : len = xs.length
  at_ : 0 < len → p = some ⟨b, off, none⟩
  cell : ∀ k, k < len → w.cell? ⟨b, off + k, none⟩ = some (.int .i64 (xs.getD k 0))
  fit : ∀ k, k < len → Fit (xs.getD k 0)
theorem nums_of {w : World} {p : Option Addr} {b off len : Nat} {xs : List Int} (h : SliceOf rNum 1 w p b off len xs) : Nums w p b off len xs := by
  have hk : ∀ k, k < len → w.cell? ⟨b, off + k, none⟩ = some (.int .i64 (xs.getD k 0)) ∧ Fit (xs.getD k 0) := fun k hk => by
    have hx : k < xs.length := by rw [← h.long]; exact hk
    have e : xs[k]? = some (xs.getD k 0) := by simp [hx]
    obtain ⟨cs, h1, h2, h3, h4⟩ := h.cell k _ e
    subst h3
    have := h2 0 (by omega)
    rw [Nat.mul_one, Nat.add_zero] at this
    exact ⟨this, h4⟩
  exact ⟨h.long, h.at_, fun k q => (hk k q).1, fun k q => (hk k q).2⟩
theorem Nums.drewN {w : World} {p : Option Addr} {b off len : Nat} {xs : List Int} (h : Nums w p b off len xs) (n : Nat) : Nums (w.drewN n) p b off len xs := ⟨h.long, h.at_, h.cell, h.fit⟩

def allN (xs : List Int) (m : Int) : Bool := xs.all fun x => decide (-m ≤ x) && decide (x ≤ m)
theorem all_not {xs : List Int} {m x : Int} {k : Nat} (h : k < xs.length) (e : x = xs.getD k 0) (hx : x < -m ∨ m < x) : allN xs m = false := by
  cases q : allN xs m
  · rfl
  · have := List.all_eq_true.1 q (xs.getD k 0) (by rw [List.getD_eq_getElem?_getD, List.getElem?_eq_getElem h]; exact List.getElem_mem h)
    rw [← e] at this
    simp at this
    omega
theorem all_end {xs : List Int} {m : Int} (h : ∀ j, j < xs.length → -m ≤ xs.getD j 0 ∧ xs.getD j 0 ≤ m) : allN xs m = true := by
  refine List.all_eq_true.2 fun x hx => ?_
  obtain ⟨j, hj, e⟩ := List.getElem_of_mem hx
  have := h j hj
  simp [hj, e] at this
  simp; omega

set_option maxHeartbeats 400000 in
theorem all_cells (p : Option Addr) (b off c len : Nat) (xs : List Int) (m : Int) (w : World) (hx : Nums w p b off len xs) (hl : len ≤ 1000000) (h0 : 0 ≤ m) (h1 : m ≤ 2000000000000) :
    Calls Tryd.prog 47 #[.slice p len c, .int .i64 m] w fun e w' => e = .returned (.bool (allN xs m)) ∧ w' = w := by
  have HX := Lib.hid hx
  have hp := hx.at_
  obtain ⟨R, hR⟩ : ∃ R, R = allN xs m := ⟨_, rfl⟩
  rw [← hR]
  have HR := Lib.hid hR
  have HZ := Lib.hid (show ∀ j, j < 0 → -m ≤ xs.getD j 0 ∧ xs.getD j 0 ≤ m from fun j h => by omega)
  clear hx hR
  go_enter Tryd.func47, Tryd.ntmps47
  go_wp2
  go_loopw [5] (fun i wr => (∃ k : Nat, k ≤ len ∧ i = .int .i64 k ∧ ∀ j, j < k → -m ≤ xs.getD j 0 ∧ xs.getD j 0 ≤ m) ∧ wr = w) (fun i _ => len - (intOf i).toNat)
  case atStart => exact ⟨⟨0, by omega, rfl, HZ.out⟩, rfl⟩
  case round =>
    obtain ⟨⟨k, hk, rfl, hrel⟩, rfl⟩ := hrel
    have HK := Lib.hid hrel
    by_cases hlt : k < len
    · obtain rfl := hp (by omega)
      have c0 := HX.out.cell k hlt
      have hf := HX.out.fit k hlt
      obtain ⟨x, ex⟩ : ∃ x, x = xs.getD k 0 := ⟨_, rfl⟩
      rw [← ex] at c0 hf
      unfold Fit at hf
      have HE := Lib.hid ex
      clear hrel ex
      by_cases hb : x < -m
      · have key : R = false := by rw [HR.out]; exact all_not (by rw [← HX.out.long]; exact hlt) HE.out (.inl hb)
        subst key
        go_wp2_with fail
        go_ret
        exact ⟨rfl, rfl⟩
      · by_cases hc : m < x
        · have key : R = false := by rw [HR.out]; exact all_not (by rw [← HX.out.long]; exact hlt) HE.out (.inr hc)
          subst key
          go_wp2_with fail
          go_ret
          exact ⟨rfl, rfl⟩
        · have NX := Lib.hid (show ∀ j, j < k + 1 → -m ≤ xs.getD j 0 ∧ xs.getD j 0 ≤ m from fun j hj => by
            by_cases h : j < k
            · exact HK.out j h
            · obtain rfl : j = k := by omega
              rw [← HE.out]; omega)
          go_wp2_with fail
          go_roundw
          case rel => exact ⟨⟨k + 1, by omega, by go_num, NX.out⟩, trivial⟩
          case measure => simp [intOf]; omega
    · have key : R = true := by rw [HR.out]; exact all_end fun j hj => HK.out j (by have := HX.out.long; omega)
      subst key
      clear hrel
      go_wp2
      go_ret
      exact ⟨rfl, rfl⟩
theorem all_any {w : World} {v : Value} {xs : List Int} (m : Int) (h : Slc rNum 1 w v xs) (hl : xs.length ≤ 1000000) (h0 : 0 ≤ m) (h1 : m ≤ 2000000000000) :
    Calls Tryd.prog 47 #[v, .int .i64 m] w fun e w' => e = .returned (.bool (allN xs m)) ∧ w' = w := by
  obtain ⟨p, b, off, c, len, rfl, _, hs⟩ := h
  exact all_cells p b off c len xs m w (nums_of hs) (by rw [hs.long]; exact hl) h0 h1

set_option maxHeartbeats 400000 in
theorem nsame_cells (p q : Option Addr) (b off c b' off' c' len len' : Nat) (xs ys : List Int) (w : World) (hx : Nums w p b off len xs) (hy : Nums w q b' off' len' ys) (hm : len ≤ 1000000) (hm' : len' ≤ 1000000) :
    Calls Tryd.prog 46 #[.slice p len c, .slice q len' c'] w fun e w' => e = .returned (.bool (decide (xs = ys))) ∧ ∃ n, w' = w.drewN n := by
  have HX := Lib.hid hx
  have HY := Lib.hid hy
  have hp := hx.at_
  have hq := hy.at_
  by_cases he : len = len'
  · subst he
    obtain ⟨R, hR⟩ : ∃ R, R = decide (xs = ys) := ⟨_, rfl⟩
    rw [← hR]
    have HR := Lib.hid hR
    have HS := Lib.hid (show ∀ j, j < 0 → xs.getD j 0 = ys.getD j 0 from fun j h => by omega)
    clear hx hy hR
    go_enter Tryd.func46, Tryd.ntmps46
    go_wp2
    go_loopw [5] (fun i wr => (∃ k : Nat, k ≤ len ∧ i = .int .i64 k ∧ ∀ j, j < k → xs.getD j 0 = ys.getD j 0) ∧ ∃ n, wr = w.drewN n) (fun i _ => len - (intOf i).toNat)
    case atStart => exact ⟨⟨0, by omega, rfl, HS.out⟩, 0, rfl⟩
    case round =>
      obtain ⟨⟨k, hk, rfl, hrel⟩, hw⟩ := hrel
      have HW := Lib.hid hw
      have HE := Lib.hid hrel
      clear hw hrel
      by_cases hlt : k < len
      · obtain rfl := hp (by omega)
        obtain rfl := hq (by omega)
        have cx : wr.cell? ⟨b, off + k, none⟩ = some (.int .i64 (xs.getD k 0)) := by obtain ⟨n, rfl⟩ := HW.out; exact HX.out.cell k hlt
        have cy : wr.cell? ⟨b', off' + k, none⟩ = some (.int .i64 (ys.getD k 0)) := by obtain ⟨n, rfl⟩ := HW.out; exact HY.out.cell k hlt
        obtain ⟨x, ex⟩ : ∃ x, x = xs.getD k 0 := ⟨_, rfl⟩
        obtain ⟨y, ey⟩ : ∃ y, y = ys.getD k 0 := ⟨_, rfl⟩
        rw [← ex] at cx
        rw [← ey] at cy
        by_cases hxy : x = y
        · subst hxy
          have EK := Lib.hid (show ∀ j, j < k + 1 → xs.getD j 0 = ys.getD j 0 from fun j hj => by
            by_cases h : j < k
            · exact HE.out j h
            · obtain rfl : j = k := by omega
              rw [← ex, ← ey])
          clear ex ey
          go_wp2
          go_quiet (fail)
          go_wp2_with fail
          go_roundw
          case rel => exact ⟨⟨k + 1, by omega, by go_num, EK.out⟩, drewN_on HW.out⟩
          case measure => simp [intOf]; omega
        · have hxy2 : (x == y) = false := beq_eq_false_iff_ne.2 hxy
          have key : R = false := by
            rw [HR.out]
            refine decide_eq_false fun h => hxy ?_
            rw [ex, ey, h]
          subst key
          clear ex ey
          go_wp2
          go_quiet (fail)
          go_wp2_with fail
          go_ret
          exact ⟨rfl, drewN_on HW.out⟩
      · have key : R = true := by
          rw [HR.out]
          refine decide_eq_true (List.ext_getElem (by rw [← HX.out.long, ← HY.out.long]) fun j h1 h2 => ?_)
          have := HE.out j (by have := HX.out.long; omega)
          simpa [h1, h2] using this
        subst key
        go_wp2
        go_ret
        exact ⟨rfl, HW.out⟩
  · have key : decide (xs = ys) = false := decide_eq_false fun h => he (by rw [hx.long, hy.long, h])
    rw [key]
    have he2 : ((len : Int) == (len' : Int)) = false := beq_eq_false_iff_ne.2 (by omega)
    clear hx hy key hp hq
    go_enter Tryd.func46, Tryd.ntmps46
    go_wp2_with fail
    go_ret
    exact ⟨rfl, 0, rfl⟩
theorem nsame_any {w : World} {u v : Value} {xs ys : List Int} (hx : Slc rNum 1 w u xs) (hy : Slc rNum 1 w v ys) (hm : xs.length ≤ 1000000) (hm' : ys.length ≤ 1000000) :
    Calls Tryd.prog 46 #[u, v] w fun e w' => e = .returned (.bool (decide (xs = ys))) ∧ ∃ n, w' = w.drewN n := by
  obtain ⟨p, b, off, c, len, rfl, _, hs⟩ := hx
  obtain ⟨q, b', off', c', len', rfl, _, ht⟩ := hy
  exact nsame_cells p q b off c b' off' c' len len' xs ys w (nums_of hs) (nums_of ht) (by rw [hs.long]; exact hm) (by rw [ht.long]; exact hm')
end Go.Proofs.YtiaibggbbkhjlaaDoor
