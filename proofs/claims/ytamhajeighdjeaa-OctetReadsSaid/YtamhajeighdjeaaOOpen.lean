/-
  What came in, as lists: slices of bytes and of numbers; bytes behind others, for the laws.
-/
import Derived.Test.YtamhajeighdjeaaOAwake
import Derived.Test.YtamhajeighdjeaaLaw
import Derived.ChangeSlices
import Derived.ChangeArms
import Derived.Deep.Slices
namespace Go.Proofs.Ytamhajeighdjeaa
open Go.ChangeShapes Go.WideShapes Go.ChangeAt Go.RowKit

theorem own : ownKnob Try.prog.godebug = none := by kernel_rfl
theorem kids : Kids Try.prog (· < Try.prog.types.size) := kids_rows (by kernel_rfl) (by kernel_rfl)
theorem full : ∀ t e, t < Try.prog.types.size → Try.prog.underlying t = some (.slice e) → 0 < Try.prog.cellsOf e := slices_full_of Try.prog (by kernel_rfl)
theorem cells5 : Try.prog.cellsOf 5 = 1 := by kernel_rfl
theorem cells22 : Try.prog.cellsOf 22 = 1 := by kernel_rfl
theorem fit8 {n : Int} (h : (Lit.int .u8 n).wf = true) : 0 ≤ n ∧ n ≤ 255 := by
  simpa [Lit.wf, IntKind.min, IntKind.max, IntKind.signed, IntKind.bits] using h
theorem fit64 {n : Int} (h : (Lit.int .u64 n).wf = true) : 0 ≤ n ∧ n ≤ 18446744073709551615 := by
  simpa [Lit.wf, IntKind.min, IntKind.max, IntKind.signed, IntKind.bits] using h

section
variable {H : Type} {enc' : TypeId × Value → H} {W : World} {base : Nat} {v : Value} {d : DataW H} {ps : List MemPlace}

/-- a slice of numbers of one kind that came in -/
theorem openedN {t e : TypeId} {k : IntKind} (ht : Try.prog.underlying t = some (.slice e)) (he : Try.prog.underlying e = some (.int k)) (hc : Try.prog.cellsOf e = 1)
    (hval : Value.okWide Try.prog W .any base t v) (h : DataW.Trod enc' Try.prog W 0 (fun _ => true) true t v d ps) :
    ∃ (p : Option Addr) (b off m c : Nat) (zs : List Int), v = .slice p m c ∧ m = zs.length ∧ m ≤ c ∧ (p = none → m = 0 ∧ c = 0) ∧ (0 < m → p = some ⟨b, off, none⟩) ∧
      (∀ i, i < m → W.cell? ⟨b, off + i, none⟩ = some (.int k (zs.getD i 0))) ∧ (∀ n ∈ zs, (Lit.int k n).wf = true) := by
  obtain ⟨p, m, c, rfl⟩ := okWide_slice ht hval
  obtain ⟨fuel, hf⟩ := h
  rcases open_ints ht he hc hf with ⟨hcs, hx⟩ | ⟨a, len, cap, zs, hcs, _, hl, hm, hz, hx, hcell, hwf⟩
  · simp [Value.cells] at hcs
    obtain ⟨rfl, rfl, rfl⟩ := hcs
    exact ⟨none, 0, 0, 0, 0, [], rfl, rfl, by omega, fun _ => ⟨rfl, rfl⟩, fun h => by omega, fun i hi => by omega, fun n hn => by cases hn⟩
  · simp [Value.cells] at hcs
    obtain ⟨rfl, rfl, rfl⟩ := hcs
    simp only [if_true] at hz
    obtain ⟨b, off, spot⟩ := a
    have hlen : (zs.take m).length = m := by rw [List.length_take]; omega
    refine ⟨_, b, off, m, c, zs.take m, rfl, hlen.symm, hl, (fun h => by cases h), fun h => ?_, fun i hi => ?_, fun n hn => hwf n (List.mem_of_mem_take hn)⟩
    · have hspot : spot = none := by simpa [Addr.add] using World.cell?_spot (hcell 0 (by omega))
      rw [hspot]
    · have hspot : spot = none := by simpa [Addr.add] using World.cell?_spot (hcell 0 (by omega))
      subst hspot
      have := hcell i (by omega)
      rw [addr_add] at this
      rw [this]
      simp [show i < m from hi]

/-- a slice of bytes that came in reads as bytes -/
structure In (W : World) (p : Option Addr) (b off c len : Nat) (xs : List Nat) : Prop where
  long : len = xs.length
  lies : Lies W p b off xs
  cap : len ≤ c
  nil : p = none → len = 0 ∧ c = 0
  bytes : Bytes xs
theorem openedB (hval : Value.okWide Try.prog W .any base 23 v) (h : DataW.Trod enc' Try.prog W 0 (fun _ => true) true 23 v d ps) :
    ∃ (p : Option Addr) (b off c len : Nat) (xs : List Nat), v = .slice p len c ∧ In W p b off c len xs := by
  obtain ⟨p, b, off, m, c, zs, hv, hm, hmc, hn, hp, hcell, hwf⟩ := openedN Try.underlying23 Try.underlying5 cells5 hval h
  refine ⟨p, b, off, c, m, zs.map Int.toNat, hv, ⟨by simp [hm], ⟨fun h => hp (by simpa [hm] using h), fun k hk => ?_⟩, hmc, hn, fun x hx => ?_⟩⟩
  · have hk : k < zs.length := by simpa using hk
    rw [hcell k (by omega)]
    have hf := fit8 (hwf _ (List.getElem_mem hk))
    have e : (zs.map Int.toNat).getD k 0 = (zs[k]).toNat := by simp [hk]
    have e2 : zs.getD k 0 = zs[k] := by simp [hk]
    rw [e, e2, Int.toNat_of_nonneg hf.1]
  · obtain ⟨z, hz, rfl⟩ := List.mem_map.1 hx
    have hf := fit8 (hwf _ hz)
    omega
/-- a slice of numbers of 64 bits that came in -/
structure InN (W : World) (p : Option Addr) (b off len : Nat) (ns : List Nat) : Prop where
  long : len = ns.length
  at_ : 0 < len → p = some ⟨b, off, none⟩
  cell : ∀ k, k < len → W.cell? ⟨b, off + k, none⟩ = some (.int .u64 (ns.getD k 0 : Nat))
  fits : ∀ n, n ∈ ns → n < 18446744073709551616
theorem openedU (hval : Value.okWide Try.prog W .any base 34 v) (h : DataW.Trod enc' Try.prog W 0 (fun _ => true) true 34 v d ps) :
    ∃ (p : Option Addr) (b off c len : Nat) (ns : List Nat), v = .slice p len c ∧ InN W p b off len ns := by
  obtain ⟨p, b, off, m, c, zs, hv, hm, hmc, hn, hp, hcell, hwf⟩ := openedN Try.underlying34 Try.underlying22 cells22 hval h
  refine ⟨p, b, off, c, m, zs.map Int.toNat, hv, ⟨by simp [hm], hp, fun k hk => ?_, fun x hx => ?_⟩⟩
  · have hk : k < zs.length := by omega
    rw [hcell k (by omega)]
    have hf := fit64 (hwf _ (List.getElem_mem hk))
    have e : (zs.map Int.toNat).getD k 0 = (zs[k]).toNat := by simp [hk]
    have e2 : zs.getD k 0 = zs[k] := by simp [hk]
    rw [e, e2, Int.toNat_of_nonneg hf.1]
  · obtain ⟨z, hz, rfl⟩ := List.mem_map.1 hx
    have hf := fit64 (hwf _ hz)
    omega
end

/-- bytes behind others: what the row's end needs -/
theorem app_bytes {w W : World} {ops : Array Oper} {rest : List Oper} {o : Oper} {a : Act} {Q : Exit → Act → World → Prop} (hgd : o.guard = none) (s x : Operand)
    (ho : o.op = .call { callee := .builtin .append, args := #[s, x], argTypes := #[23, 23] }) (base : Nat) (v : Value) (p : Option Addr) (b off c len : Nat) (xs ys : List Nat) (hs : a.eval s = v) (hx : a.eval x = .slice p len c)
    (hown : Owns w base v xs) (hl : len = ys.length) (hu : Lies w p b off ys) (hp : p = none → c = 0) (hlen : xs.length + ys.length ≤ 100000) (hB : Below base W w) (hbase : base ≤ w.heap.size)
    (h : ∀ p' g c' l w', l = (xs ++ ys).length → Owns w' base (.slice p' l c') (xs ++ ys) → Lies w' p' g 0 (xs ++ ys) → l ≤ c' → Below base W w' → base ≤ w'.heap.size → wpList Try.prog ops Q rest (a.put o.dst (.slice p' l c')) w') : wpList Try.prog ops Q (o :: rest) a w := by
  refine wpList_append_bytes hgd s x ho base v p b off c len xs ys hs hx hown hl hu hp hlen hbase fun v' w' h1 h2 => ?_
  have hsz : base ≤ w'.heap.size := Nat.le_trans hbase h2.size
  obtain ⟨p', g, c', rfl, k1, k2, _⟩ := Owns.lies h1 hsz
  exact h p' g c' _ w' rfl h1 k1 k2 (hB.grown h2 hbase (fun k e => (hown.lt k e).1)) hsz
end Go.Proofs.Ytamhajeighdjeaa
