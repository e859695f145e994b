/-
  What puts out tokens: a builder of texts that a call has made, and what parts the next token from it; what such a call leaves as it is.
-/
import Derived.Test.YtkgieaoahijheaaDoorZYAA
import Derived.Test.YtkgieaoahijheaaDoorZYAC
import Derived.Lib.LaidTab
namespace Go.Proofs.YtkgieaoahijheaaDoor.Wt
open Go.RowKit
set_option maxRecDepth 100000

/-- the bytes that one token puts, with what parts it from the next one -/
def sepO (t : List UInt8) : List UInt8 := if t = [59] then [59, 10] else t ++ [32]
def putX (l : List (List UInt8)) : List UInt8 := l.flatMap sepO
theorem put_app (a b : List (List UInt8)) : putX (a ++ b) = putX a ++ putX b := by simp [putX]
theorem put_take {l : List (List UInt8)} {k : Nat} {t : List UInt8} (h : l[k]? = some t) : putX (l.take (k + 1)) = putX (l.take k) ++ sepO t := by
  rw [List.take_add_one, h, put_app]
  simp [putX]
theorem put_long {l : List (List UInt8)} (k : Nat) : (putX (l.take k)).length ≤ (putX l).length := by
  have : putX l = putX (l.take k) ++ putX (l.drop k) := by rw [← put_app, List.take_append_drop]
  rw [this, List.length_append]
  omega
/-- what is not written yet of what was put -/
def tailX (X : List UInt8) : List UInt8 := if X.getLast? = some 32 then [32] else []
theorem tail_sp (X : List UInt8) : tailX (X ++ [32]) = [32] := by simp [tailX]
theorem tail_nl (X : List UInt8) : tailX (X ++ [10]) = [] := by simp [tailX]
theorem tail_two (X : List UInt8) : tailX X = [] ∨ tailX X = [32] := by
  unfold tailX
  split
  · exact .inr rfl
  · exact .inl rfl

/-- what a call leaves as it is: all that lies below B, and each block but the builder's, the one of what parts tokens, and rows of bytes -/
structure Kp (B b pb : Nat) (W W' : World) : Prop where
  low : Below B W W'
  keep : ∀ k o, W.heap[k]? = some o → k ≠ b → k ≠ pb → (∀ c fz, o ≠ .cells c TU fz) → W'.heap[k]? = some o
section
variable {B b tb pb : Nat} {W W' W'' : World}
theorem Kp.refl (W : World) : Kp B b pb W W := ⟨Below.refl _ _, fun _ _ h _ _ _ => h⟩
theorem Kp.trans (h : Kp B b pb W W') (k : Kp B b pb W' W'') : Kp B b pb W W'' := ⟨h.low.trans k.low, fun i o hi h1 h2 h3 => k.keep i o (h.keep i o hi h1 h2 h3) h1 h2 h3⟩
theorem Kp.alloc (h : Kp B b pb W W') (hB : B ≤ W'.heap.size) (o : Obj) : Kp B b pb W (W'.alloc o) := ⟨h.low.alloc hB o, fun i q hi h1 h2 h3 => by
  have h4 := h.keep i q hi h1 h2 h3
  exact (Lib.alloc_old W' o i (Array.getElem?_eq_some_iff.1 h4).1).trans h4⟩
theorem Kp.drewN (h : Kp B b pb W W') (n : Nat) : Kp B b pb W (W'.drewN n) := ⟨⟨h.low.os, h.low.tape, h.low.output, h.low.size, h.low.block⟩, h.keep⟩
theorem Kp.write (h : Below B W W') (k : Lib.OthersKept TU (some b) W W') : Kp B b pb W W' := ⟨h, fun i o hi h1 _ h3 => k i o hi (fun e => h1 (Option.some.inj e)) h3⟩
theorem Kp.put (h : Kp B b pb W W') (hB : B ≤ pb) (v : Value) : Kp B b pb W (W'.setCell ⟨pb, 0, none⟩ v) := ⟨h.low.setCell (p := ⟨pb, 0, none⟩) hB v, fun i o hi h1 h2 h3 => by
  rw [Below.heap_setCell _ _ _ _ (fun e => h2 e)]
  exact h.keep i o hi h1 h2 h3⟩
/-- a block of a type that is not the bytes' -/
theorem Kp.row (h : Kp B b pb W W') {k : Nat} {cs : Array Value} {t : TypeId} {fz : Nat × Nat} (hk : W.heap[k]? = some (.cells cs t fz)) (h1 : k ≠ b) (h2 : k ≠ pb) (ht : t ≠ TU) : W'.heap[k]? = some (.cells cs t fz) :=
  h.keep k _ hk h1 h2 fun c f e => by
    simp only [Obj.cells.injEq] at e
    exact ht e.2.1

theorem Kp.ext (h : Below W.heap.size W W') (hB : B ≤ W.heap.size) : Kp B b pb W W' := ⟨h.mono hB, fun i _ hi _ _ _ => (h.block i (Array.getElem?_eq_some_iff.1 hi).1).trans hi⟩
/-- the library's table of powers of ten lies in its variable -/
def Tb (B : Nat) (W : World) : Prop := ∃ g, Tryd.prog.globalNamed "internal/strconv.uint64pow10" = some g ∧ g < B ∧ Lib.TabIs Tryd.prog W "internal/strconv.uint64pow10" .u64 Lib.pow10Tab
theorem Tb.below (h : Tb B W) (hb : Below B W W') : Tb B W' := by
  obtain ⟨g, h1, h2, h3⟩ := h
  refine ⟨g, h1, h2, ?_⟩
  unfold Lib.TabIs World.var? at h3 ⊢
  rw [h1] at h3 ⊢
  simp only [Option.bind_some] at h3 ⊢
  rw [hb.block g h2]
  exact h3
/-- the writer's memory, behind the bytes X -/
structure PutAt (B b tb pb : Nat) (X : List UInt8) (W : World) : Prop where
  bld : ∃ O, X = O ++ tailX X ∧ Lib.IsBuilderF TB TU B b (Lib.byteCells O) W
  part : W.heap[pb]? = some (.cells #[.string ⟨(tailX X).toArray⟩] 9)
  text : W.heap[tb]? = some (.cells #[.pointer (some ⟨b, 0, none⟩)] 48)
  lowp : B ≤ pb
  lowt : B ≤ tb
  lowb : B ≤ b
  size : B ≤ W.heap.size
  bp : b ≠ pb
  tp : tb ≠ pb
  tbb : tb ≠ b
  lt : b < W.heap.size
  ltp : pb < W.heap.size
  tab : Tb B W

theorem bld_ext {bs : List Value} (h : Lib.IsBuilderF TB TU B b bs W) (hb : Below W.heap.size W W') : Lib.IsBuilderF TB TU B b bs W' := by
  have one : ∀ q, Lib.BuilderAtF TB TU B b q bs W → Lib.BuilderAtF TB TU B b q bs W' := by
    rintro q ⟨h1, v, h2, h3, h4⟩
    exact ⟨h1, v, (hb.block b (Array.getElem?_eq_some_iff.1 h2).1).trans h2, h3.kept (row := none) ⟨hb.os, hb.tape, hb.output, hb.size, fun k hk _ => hb.block k hk⟩ (by cases hv : v.ownBlock <;> simp), h4⟩
  exact h.elim (fun q => .inl (one _ q)) fun q => .inr (one _ q)
theorem PutAt.ext {X : List UInt8} (h : PutAt B b tb pb X W) (hb : Below W.heap.size W W') : PutAt B b tb pb X W' := by
  obtain ⟨O, e, hO⟩ := h.bld
  exact ⟨⟨O, e, bld_ext hO hb⟩, (hb.block _ h.ltp).trans h.part, (hb.block _ (Array.getElem?_eq_some_iff.1 h.text).1).trans h.text, h.lowp, h.lowt, h.lowb, Nat.le_trans h.size hb.size, h.bp, h.tp, h.tbb, Nat.lt_of_lt_of_le h.lt hb.size, Nat.lt_of_lt_of_le h.ltp hb.size, h.tab.below (hb.mono h.size)⟩
theorem PutAt.alloc {X : List UInt8} (h : PutAt B b tb pb X W) (o : Obj) : PutAt B b tb pb X (W.alloc o) := h.ext ((Below.refl _ W).alloc (Nat.le_refl _) o)
theorem PutAt.drewN {X : List UInt8} (h : PutAt B b tb pb X W) (n : Nat) : PutAt B b tb pb X (W.drewN n) := h.ext ⟨rfl, rfl, rfl, Nat.le_refl _, fun _ _ => rfl⟩
theorem bld_set {bs : List Value} {x : Value} {cs : Array Value} {t : TypeId} {fz : Nat × Nat} (h : Lib.IsBuilderF TB TU B b bs W) (hp : W.heap[pb]? = some (.cells cs t fz)) (ht : t ≠ TU) (hb : b ≠ pb) : Lib.IsBuilderF TB TU B b bs (W.setCell ⟨pb, 0, none⟩ x) := by
  have one : ∀ q, Lib.BuilderAtF TB TU B b q bs W → Lib.BuilderAtF TB TU B b q bs (W.setCell ⟨pb, 0, none⟩ x) := by
    rintro q ⟨h1, v, h2, h3, h4⟩
    refine ⟨h1, v, (Below.heap_setCell _ _ _ _ (fun e => hb e)).trans h2, ?_, h4⟩
    exact h3.kept (row := some pb) ⟨rfl, rfl, rfl, by simp [World.setCell], fun k _ hk => Below.heap_setCell _ _ _ _ (fun e => hk (by simp [e]))⟩ (Or.inr (Lib.ownBlock_neF h3 hp ht))
  exact h.elim (fun q => .inl (one _ q)) fun q => .inr (one _ q)
theorem eql_str (a b : List UInt8) : binOp .eql 9 (.string ⟨a.toArray⟩) (.string ⟨b.toArray⟩) = pure (.bool (decide (a = b))) := by
  rw [eql_txt]
/-- what one WriteString leaves as it is -/
structure Wr (B b : Nat) (W W' : World) : Prop where
  low : Below B W W'
  oth : Lib.OthersKept TU (some b) W W'
theorem Wr.trans (h : Wr B b W W') (k : Wr B b W' W'') : Wr B b W W'' := ⟨h.low.trans k.low, h.oth.trans k.oth⟩
theorem Wr.kp (h : Wr B b W W') : Kp B b pb W W' := Kp.write h.low h.oth
theorem Wr.row (h : Wr B b W W') {k : Nat} {cs : Array Value} {t : TypeId} {fz : Nat × Nat} (hk : W.heap[k]? = some (.cells cs t fz)) (h1 : k ≠ b) (ht : t ≠ TU) : W'.heap[k]? = some (.cells cs t fz) :=
  h.oth k _ hk (fun e => h1 (Option.some.inj e)) fun c f e => by
    simp only [Obj.cells.injEq] at e
    exact ht e.2.1
/-- what one WriteString does -/
theorem write_put {O : List UInt8} (h : Lib.IsBuilderF TB TU B b (Lib.byteCells O) W) (s : List UInt8) (hl : O.length + s.length ≤ 1000000000000) (hB : B ≤ W.heap.size) :
    Calls Tryd.prog 35 #[.pointer (some ⟨b, 0, none⟩), .string ⟨s.toArray⟩] W fun e w' => e = .returned (.tuple #[.int .i64 s.length, .nilIface]) ∧ Lib.IsBuilderF TB TU B b (Lib.byteCells (O ++ s)) w' ∧ Wr B b W w' := by
  have hs : (⟨s.toArray⟩ : ByteArray).size = s.length := by simp [ByteArray.size]
  refine (write_cells B b _ ⟨s.toArray⟩ W h (by rw [Lib.byteCells_length, hs]; omega) hB).mono ?_
  rintro e w' ⟨rfl, h1, h2, h3⟩
  refine ⟨by rw [hs], .inr ?_, h2, h3⟩
  rw [Lib.byteCells_append]
  exact h1

set_option maxHeartbeats 4000000 in
theorem put_any {X : List UInt8} (H : PutAt B b tb pb X W) (l : List (List UInt8)) (k0 n : Nat) (hn : n = l.length) (hs : W.heap[k0]? = some (.cells (l.map fun s => Value.string ⟨s.toArray⟩).toArray 9)) (h1 : k0 ≠ b) (h2 : k0 ≠ pb) (hX : X.length + (putX l).length ≤ 100000000000) (hl : n ≤ 1000) :
    Calls Tryd.prog 34 #[.slice (some ⟨k0, 0, none⟩) n n, .pointer (some ⟨tb, 0, none⟩), .pointer (some ⟨pb, 0, none⟩)] W fun e w' => e = .returned (.tuple #[]) ∧ PutAt B b tb pb (X ++ putX l) w' ∧ Kp B b pb W w' := by
  have HH := Lib.hid H
  have HN := Lib.hid hn
  have HS := Lib.hid hs
  clear H hn hs
  go_enter Tryd.func34, Tryd.ntmps34
  go_wp2_with fail
  go_loopw [8] (fun i wr => ∃ k : Nat, k ≤ n ∧ i = .int .i64 k ∧ PutAt B b tb pb (X ++ putX (l.take k)) wr ∧ Kp B b pb W wr) (fun i _ => n - (intOf i).toNat)
  case atStart =>
    refine ⟨0, by omega, rfl, ?_, Kp.refl _⟩
    simpa [putX] using HH.out
  case round =>
    obtain ⟨k, hk, rfl, hP, hK⟩ := hrel
    obtain ⟨wo, rfl⟩ : ∃ wo, wo = wr := ⟨_, rfl⟩
    by_cases hlt : k < n
    · have hkl : k < l.length := by have := HN.out; omega
      obtain ⟨t, ht⟩ : ∃ t, l[k]? = some t := ⟨_, List.getElem?_eq_getElem hkl⟩
      have hrow := hK.row HS.out h1 h2 (by decide)
      have hc : wo.cell? ⟨k0, k, none⟩ = some (.string ⟨t.toArray⟩) := by
        rw [cell_of_row wo k0 k _ 9 (0, 0) hrow]
        simp [ht]
      have hc0 : wo.cell? ⟨k0, 0 + k, none⟩ = some (.string ⟨t.toArray⟩) := by rw [Nat.zero_add]; exact hc
      obtain ⟨O, eO, hO⟩ := hP.bld
      obtain ⟨Y, eY⟩ : ∃ Y, Y = X ++ putX (l.take k) := ⟨_, rfl⟩
      rw [← eY] at hP eO
      obtain ⟨p, ep⟩ : ∃ p, p = tailX Y := ⟨_, rfl⟩
      have hpt := hP.text
      have hpp := hP.part
      rw [← ep] at hpp eO
      have x0 : wo.cell? ⟨tb, 0, none⟩ = some (.pointer (some ⟨b, 0, none⟩)) := cell_of_row wo tb 0 _ 48 (0, 0) hpt
      have x1 : wo.cell? ⟨pb, 0, none⟩ = some (.string ⟨p.toArray⟩) := cell_of_row wo pb 0 _ 9 (0, 0) hpp
      have hlen : Y.length + (sepO t).length ≤ 100000000000 := by
        have q1 := put_long (l := l) (k + 1)
        rw [put_take ht, List.length_append] at q1
        rw [eY, List.length_append]
        omega
      have hOl : O.length + p.length = Y.length := by rw [eO]; simp
      have htl : t.length + 1 ≤ (sepO t).length := by
        unfold sepO
        split
        · rename_i e; rw [e]; decide
        · simp
      have C1 := Lib.hid (write_put hO p (by omega) hP.size)
      have HP := Lib.hid hP
      have HK := Lib.hid hK
      have HT := Lib.hid ht
      have EY := Lib.hid eY
      have EO := Lib.hid eO
      have HL := Lib.hid hlen
      have HL2 := Lib.hid hOl
      have HL3 := Lib.hid htl
      have hq := eql_str t [59]
      obtain ⟨q, hqe⟩ : ∃ q, q = decide (t = [59]) := ⟨_, rfl⟩
      rw [← hqe] at hq
      have HQ := Lib.hid hqe
      clear hP hK ht eY eO hO hpt hpp hrow hlen hOl htl ep hkl hqe
      go_wp2_with fail
      refine C1.out.mono ?_
      rintro e w1 ⟨rfl, hO1, hK1⟩
      have hpt := hK1.row HP.out.text HP.out.tbb (by decide)
      have x2 : w1.cell? ⟨tb, 0, none⟩ = some (.pointer (some ⟨b, 0, none⟩)) := cell_of_row w1 tb 0 _ 48 (0, 0) hpt
      rw [← EO.out] at hO1
      have C2 := Lib.hid (write_put hO1 t (by have := HL.out; have := HL3.out; omega) (Nat.le_trans HP.out.size hK1.low.size))
      have HK1 := Lib.hid hK1
      clear hO1 hpt hK1
      go_wp2_with fail
      refine C2.out.mono ?_
      rintro e w2 ⟨rfl, hO2, hK2⟩
      have hK3 := HK1.out.trans hK2
      have hpp := hK3.row HP.out.part (fun e => HP.out.bp e.symm) (by decide)
      have hpt := hK3.row HP.out.text HP.out.tbb (by decide)
      have x3 : w2.cell? ⟨pb, 0, none⟩ = some (.string ⟨(tailX Y).toArray⟩) := cell_of_row w2 pb 0 _ 9 (0, 0) hpp
      have f3 : w2.frozen? ⟨pb, 0, none⟩ = false := frozen_of_row w2 pb 0 _ 9 hpp
      obtain ⟨u, hu⟩ : ∃ u, u = w2.setCell ⟨pb, 0, none⟩ (.string ⟨([32] : List UInt8).toArray⟩) := ⟨_, rfl⟩
      have hO3 : Lib.IsBuilderF TB TU B b (Lib.byteCells (Y ++ t)) u := by rw [hu]; exact bld_set hO2 hpp (by decide) HP.out.bp
      have hK4 : Kp B b pb wo u := by rw [hu]; exact (Wr.kp hK3).put HP.out.lowp _
      have hpu : u.heap[pb]? = some (.cells #[.string ⟨([32] : List UInt8).toArray⟩] 9) := by rw [hu]; simp [World.setCell, Array.getElem?_modify, hpp]
      have htu : u.heap[tb]? = some (.cells #[.pointer (some ⟨b, 0, none⟩)] 48) := by rw [hu, Below.heap_setCell _ _ _ _ (fun e => HP.out.tp e)]; exact hpt
      have x4 : u.cell? ⟨tb, 0, none⟩ = some (.pointer (some ⟨b, 0, none⟩)) := cell_of_row u tb 0 _ 48 (0, 0) htu
      have hsu := Nat.le_trans HP.out.size hK4.low.size
      have C3 := Lib.hid (write_put hO3 [10] (by have := HL.out; have := HL3.out; simp; omega) hsu)
      have PU := Lib.hid hpu
      have TU2 := Lib.hid htu
      have O3 := Lib.hid hO3
      have K4 := Lib.hid hK4
      have x4' := x4
      rw [hu] at x4'
      have HU := Lib.hid hu
      clear hO2 hK2 hK3 hpp hpt hO3 hK4 hpu htu hsu x4 hu
      by_cases hts : t = [59]
      · have hqt : q = true := by rw [HQ.out, hts]; rfl
        have HTS := Lib.hid hts
        clear hts HQ
        subst hqt
        go_wp2_with fail
        rw [show (w2.setCell { block := pb, off := 0 } (Value.string { data := #[32] })) = u from HU.out.symm]
        refine C3.out.mono ?_
        rintro e w4 ⟨rfl, hO5, hK5⟩
        have hpp := hK5.row PU.out (fun e => HP.out.bp e.symm) (by decide)
        have hpt := hK5.row TU2.out HP.out.tbb (by decide)
        have f5 : w4.frozen? ⟨pb, 0, none⟩ = false := frozen_of_row w4 pb 0 _ 9 hpp
        have x5 : w4.cell? ⟨pb, 0, none⟩ = some (.string ⟨([32] : List UInt8).toArray⟩) := cell_of_row w4 pb 0 _ 9 (0, 0) hpp
        have HO5 := Lib.hid hO5
        have HK5 := Lib.hid hK5
        have HPP := Lib.hid hpp
        have HPT := Lib.hid hpt
        clear hO5 hK5 hpp hpt
        go_wp2_with fail
        go_roundw
        case rel =>
          have eX : X ++ putX (l.take (k + 1)) = (Y ++ t) ++ [10] := by rw [put_take HT.out, ← List.append_assoc, ← EY.out, HTS.out]; simp [sepO]
          have hK6 : Kp B b pb wo (w4.setCell ⟨pb, 0, none⟩ (.string ⟨#[]⟩)) := (K4.out.trans HK5.out.kp).put HP.out.lowp _
          refine ⟨k + 1, by omega, rfl, ?_, HK.out.trans hK6⟩
          rw [eX]
          refine ⟨⟨(Y ++ t) ++ [10], by rw [tail_nl]; simp, bld_set HO5.out HPP.out (by decide) HP.out.bp⟩, ?_, ?_, HP.out.lowp, HP.out.lowt, HP.out.lowb, Nat.le_trans HP.out.size hK6.low.size, HP.out.bp, HP.out.tp, HP.out.tbb, Nat.lt_of_lt_of_le HP.out.lt hK6.low.size, Nat.lt_of_lt_of_le HP.out.ltp hK6.low.size, HP.out.tab.below hK6.low⟩
          · rw [tail_nl]
            simp [World.setCell, Array.getElem?_modify, HPP.out]
          · rw [Below.heap_setCell _ _ _ _ (fun e => HP.out.tp e)]
            exact HPT.out
        case measure =>
          simp [intOf]
          omega
      · have hqt : q = false := by rw [HQ.out]; simp [hts]
        have HTS := Lib.hid hts
        clear hts HQ
        subst hqt
        go_wp2_with fail
        rw [show (w2.setCell { block := pb, off := 0 } (Value.string { data := #[32] })) = u from HU.out.symm]
        go_roundw
        case rel =>
          have eX : X ++ putX (l.take (k + 1)) = (Y ++ t) ++ [32] := by rw [put_take HT.out, ← List.append_assoc, ← EY.out, sepO, if_neg HTS.out]; simp
          have hK6 := K4.out
          refine ⟨k + 1, by omega, rfl, ?_, HK.out.trans hK6⟩
          rw [eX]
          refine ⟨⟨Y ++ t, by rw [tail_sp], O3.out⟩, ?_, TU2.out, HP.out.lowp, HP.out.lowt, HP.out.lowb, Nat.le_trans HP.out.size hK6.low.size, HP.out.bp, HP.out.tp, HP.out.tbb, Nat.lt_of_lt_of_le HP.out.lt hK6.low.size, Nat.lt_of_lt_of_le HP.out.ltp hK6.low.size, HP.out.tab.below hK6.low⟩
          rw [tail_sp]
          exact PU.out
        case measure =>
          simp [intOf]
          omega
    · obtain rfl : k = n := by omega
      have e : l.take k = l := by rw [HN.out]; simp
      rw [e] at hP
      clear HN HS hlt hk e
      go_wp2_with fail
      go_end0
      exact ⟨rfl, hP, hK⟩
end
end Go.Proofs.YtkgieaoahijheaaDoor.Wt
