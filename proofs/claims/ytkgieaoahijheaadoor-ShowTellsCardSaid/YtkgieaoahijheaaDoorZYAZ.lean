/-
  Sets of texts that a call keeps in a map; what twice, a look of package model, answers, at every model that can be read and whose lists are short.
  What Check of package model answers, at every model that can be read and whose lists are short.
-/
import Derived.Test.YtkgieaoahijheaaDoorZYAY
import Derived.Maps.RangeWalk
import Derived.StringKeys
import Derived.Carry
import Derived.Laws.EntriesVeiled
namespace Go.Proofs.YtkgieaoahijheaaDoor
open Go.RowKit Go.MapKept Go.WideShapes
set_option maxRecDepth 100000

/-- of the blocks that were there none has turned but those of S -/
structure Turn (S : List Nat) (w w' : World) : Prop where
  os : w'.os = w.os
  tape : w'.tape = w.tape
  output : w'.output = w.output
  size : w.heap.size ≤ w'.heap.size
  block : ∀ k, k < w.heap.size → k ∉ S → w'.heap[k]? = w.heap[k]?
theorem Turn.refl (S : List Nat) (w : World) : Turn S w w := ⟨rfl, rfl, rfl, Nat.le_refl _, fun _ _ _ => rfl⟩
theorem Turn.below {S : List Nat} {B : Nat} {W a b : World} (hB : Below B W a) (h : Turn S a b) (hle : B ≤ a.heap.size) (hs : ∀ x, x ∈ S → B ≤ x) : Below B W b :=
  hB.trans ⟨h.os, h.tape, h.output, h.size, fun k hk => h.block k (by omega) (fun hm => by have := hs k hm; omega)⟩
theorem Turn.alloc {S : List Nat} {a w : World} (h : Turn S a w) (o : Obj) : Turn S a (w.alloc o) :=
  ⟨h.os, h.tape, h.output, by have := h.size; simp; omega, fun k hk hn => (Below.heap_alloc _ _ _ (Nat.lt_of_lt_of_le hk h.size)).trans (h.block k hk hn)⟩
theorem Turn.grown {S : List Nat} {a w w' : World} {row : Option Nat} (h : Turn S a w) (hg : w.grownBy w' row) (hr : ∀ k, row = some k → k ∈ S) : Turn S a w' :=
  ⟨hg.os.trans h.os, hg.tape.trans h.tape, hg.output.trans h.output, Nat.le_trans h.size hg.size, fun k hk hn => (hg.block k (Nat.lt_of_lt_of_le hk h.size) (fun e => hn (hr k e.symm))).trans (h.block k hk hn)⟩
theorem Turn.cell {S : List Nat} {w w' : World} (h : Turn S w w') {p : Addr} {v : Value} (hc : w.cell? p = some v) (hn : p.block ∉ S) : w'.cell? p = some v :=
  (World.cell?_of_block (h.block _ (World.block_lt_of_cell? w p hc) hn)).trans hc

/-- how a bool in a map is read -/
def boolRd (v : Value) : Option (DataW Bool × List MemPlace) := match v with | .bool b => some (.held b, []) | _ => none
theorem boolRd_inv {v : Value} {b : Bool} {ps : List MemPlace} (h : boolRd v = some (.held b, ps)) : v = .bool b := by
  unfold boolRd at h
  split at h
  · simp only [Option.some.injEq, Prod.mk.injEq, DataW.held.injEq] at h
    rw [h.1]
  · cases h
/-- block b is a map from texts to bools, of which those of ns are true, and no other one -/
def SeenAt (w : World) (b : Nat) (ns : List (List UInt8)) : Prop :=
  ∃ (n : Nat) (D : DataW Bool), w.ownsMap Tryd.prog 9 boolRd b n D ∧ n ≤ ns.length ∧ ∀ x : List UInt8, D.atKey (.string x) (.held false) = .held (decide (x ∈ ns))
theorem seen_made (w : World) : SeenAt (w.alloc (.map #[] 0)) w.heap.size [] :=
  ⟨0, .map [], World.ownsMap_made w Tryd.prog 9 boolRd, Nat.le_refl _, fun x => by simp [DataW.atKey]⟩
theorem SeenAt.of_block {w w' : World} {b : Nat} {ns : List (List UInt8)} (h : SeenAt w b ns) (e : w'.heap[b]? = w.heap[b]?) : SeenAt w' b ns := by
  obtain ⟨n, D, ⟨es, clock, hb, r⟩, h2⟩ := h
  exact ⟨n, D, ⟨es, clock, e.trans hb, r⟩, h2⟩
theorem SeenAt.lt {w : World} {b : Nat} {ns : List (List UInt8)} (h : SeenAt w b ns) : b < w.heap.size := by
  obtain ⟨n, D, h1, _⟩ := h
  exact h1.lt
theorem SeenAt.below {w w' : World} {b : Nat} {ns : List (List UInt8)} (h : SeenAt w b ns) (hB : Below w.heap.size w w') : SeenAt w' b ns := h.of_block (hB.block b h.lt)
theorem SeenAt.not_cell {w : World} {b : Nat} {ns : List (List UInt8)} (h : SeenAt w b ns) {p : Addr} {v : Value} (hc : w.cell? p = some v) : p.block ≠ b := by
  rintro rfl
  obtain ⟨n, D, ⟨es, clock, hb, r⟩, h2⟩ := h
  unfold World.cell? at hc
  rw [hb] at hc
  cases hc
theorem zero_bool (w : World) : (zeroValue 4).run Tryd.prog w = .ok (.bool false) w := by kernel_rfl
theorem SeenAt.look {w : World} {b : Nat} {ns : List (List UInt8)} (h : SeenAt w b ns) (s : ByteArray) (hs : s.size ≤ 1000) :
    (Instr.lookup 99 (.map (some b)) (.string s) false).run Tryd.prog w = .ok (.bool (decide (txt s ∈ ns))) w := by
  obtain ⟨n, D, h1, h2, h3⟩ := h
  obtain ⟨v, ps, hrun, hv⟩ := h1.lookup (Maps.string_keyed Tryd.underlying9) Tryd.underlying99 (zero_bool w) (zd := .held false) (zp := []) rfl (key := .string s) (WideMaps.keyOf_string_mk Tryd.underlying9 (by unfold maxLen; omega))
  rw [h3] at hv
  rw [hrun, boolRd_inv hv]
theorem SeenAt.store {w : World} {b : Nat} {ns : List (List UInt8)} (h : SeenAt w b ns) (s : ByteArray) (hs : s.size ≤ 1000) (hn : ns.length ≤ 1000) :
    ∃ w', (Instr.mapUpdate 99 (.map (some b)) (.string s) (.bool true)).run Tryd.prog w = .ok () w' ∧ SeenAt w' b (ns ++ [txt s]) ∧ w.grownBy w' (some b) := by
  obtain ⟨n, D, h1, h2, h3⟩ := h
  obtain ⟨w', hrun, hown, hg⟩ := h1.update (Maps.string_keyed Tryd.underlying9) Tryd.underlying99 (by unfold maxLen; omega) (key := .string s) (val := .bool true) (d := .held true) (ps := []) (WideMaps.keyOf_string_mk Tryd.underlying9 (by unfold maxLen; omega)) rfl
  refine ⟨w', hrun, ⟨n + 1, _, hown, by simp; omega, fun x => ?_⟩, hg⟩
  by_cases e : x = txt s
  · subst e
    rw [Maps.atKey_put_same h1.isMap (by simp [WideAt.IsKeyLit])]
    simp
  · have hne : (Lit.string x) ≠ .string (txt s) := by
      intro h
      injection h with h
      exact e h
    rw [Maps.atKey_put_other hne, h3]
    simp [e]

theorem twice_next {ns : List (List UInt8)} {k : Nat} {x : List UInt8} (h : ¬ TwiceTo ns k) (hx : ns[k]? = some x) (hn : ¬ x ∈ ns.take k) : ¬ TwiceTo ns (k + 1) := by
  rintro ⟨i, j, hj, hi, e⟩
  obtain ⟨hk, ex⟩ := List.getElem?_eq_some_iff.1 hx
  by_cases hik : i < k
  · exact h ⟨i, j, hj, hik, e⟩
  · obtain rfl : i = k := by omega
    have e2 : ns.getD i [] = x := by simp [hx]
    rw [e2] at e
    refine hn (List.mem_iff_getElem?.2 ⟨j, ?_⟩)
    rw [List.getElem?_take, if_pos hj, e]
    have : j < ns.length := by omega
    simp [this]
theorem twice_hit {ns : List (List UInt8)} {k : Nat} {x : List UInt8} (hx : ns[k]? = some x) (hn : x ∈ ns.take k) : TwiceTo ns ns.length := by
  obtain ⟨j, hj⟩ := List.mem_iff_getElem?.1 hn
  rw [List.getElem?_take] at hj
  by_cases hjk : j < k
  · rw [if_pos hjk] at hj
    refine ⟨k, j, hjk, (List.getElem?_eq_some_iff.1 hx).1, ?_⟩
    simp [hx, hj]
  · rw [if_neg hjk] at hj
    cases hj
theorem take_next {α : Type} {L : List α} {k : Nat} {x : α} (hx : L[k]? = some x) : L.take (k + 1) = L.take k ++ [x] := by
  rw [List.take_add_one, hx]
  rfl
theorem names_at {L : List PDecl} {k : Nat} {d : PDecl} (h : L[k]? = some d) : (names L)[k]? = some d.name := by
  simp [names, h]
theorem names_len (L : List PDecl) : (names L).length = L.length := by simp [names]

open Classical in
theorem twice_true {m : PModel} {L : List PDecl} (hL : L = varsL m.blocks) (h : TwiceTo (names L) (names L).length) : twiceM m = true := by rw [twiceM, ← hL]; exact decide_eq_true h
open Classical in
theorem twice_false {m : PModel} {L : List PDecl} (hL : L = varsL m.blocks) (h : ¬ TwiceTo (names L) (names L).length) : twiceM m = false := by rw [twiceM, ← hL]; exact decide_eq_false h
set_option maxRecDepth 100000 in
set_option maxHeartbeats 2000000 in
theorem twice_cells (pb : Option Addr) (bb ob cb lb : Nat) (pg : Option Addr) (lg cg : Nat) (m : PModel) (w : World) (h : Mo w pb bb ob cb lb pg lg cg m) (hc : (pb = none → cb = 0) ∧ lb ≤ cb) (hf : Few m) :
    Calls Tryd.prog 50 #[.agg #[.slice pb lb cb, .slice pg lg cg]] w fun e w' => e = .returned (.bool (twiceM m)) ∧ Below w.heap.size w w' := by
  obtain ⟨R, hR⟩ : ∃ R, R = twiceM m := ⟨_, rfl⟩
  rw [← hR]
  obtain ⟨L, hL⟩ : ∃ L, L = varsL m.blocks := ⟨_, rfl⟩
  have hyes : TwiceTo (names L) (names L).length → R = true := fun q => hR.trans (twice_true hL q)
  have hno : ¬ TwiceTo (names L) (names L).length → R = false := fun q => hR.trans (twice_false hL q)
  have hdl : ∀ d ∈ L, d.name.length ≤ 1000 := fun d hd => (hf.decl d (by rw [← hL]; exact hd)).1
  have hLn : L.length ≤ 1000 := by rw [hL]; exact hf.few
  obtain ⟨W0, hW0⟩ : ∃ W0, W0 = w.alloc (.cells #[.slice pb lb cb, .slice pg lg cg] 71) := ⟨_, rfl⟩
  have hB0 : Below w.heap.size w W0 := by rw [hW0]; exact (Below.refl _ w).alloc (Nat.le_refl _) _
  have m0 : W0.cell? ⟨w.heap.size, 0, none⟩ = some (.slice pb lb cb) := by rw [hW0]; go_simp
  have m1 : W0.cell? ⟨w.heap.size, 1, none⟩ = some (.slice pg lg cg) := by rw [hW0]; go_simp
  obtain ⟨W1, hW1⟩ : ∃ W1, W1 = W0.alloc (.map #[] 0) := ⟨_, rfl⟩
  have hB1 : Below W0.heap.size W0 W1 := by rw [hW1]; exact (Below.refl _ W0).alloc (Nat.le_refl _) _
  have m0 := cell_stays hB1 m0
  have m1 := cell_stays hB1 m1
  have hseen : SeenAt W1 W0.heap.size [] := by rw [hW1]; exact seen_made W0
  have D := Lib.hid (pdecls_any (((h.below hB0).below hB1).model hc) hf)
  rw [← hL] at D
  have HW := Lib.hid hW0
  have HW1 := Lib.hid hW1
  have HB0 := Lib.hid hB0
  have HB1 := Lib.hid (hB0.trans (hB1.mono hB0.size))
  have HSN := Lib.hid hseen
  have HY := Lib.hid hyes
  have HNO := Lib.hid hno
  have HDL := Lib.hid hdl
  have hge : w.heap.size ≤ W0.heap.size := hB0.size
  clear hR h hf hW0 hB0 hc hL hW1 hB1 hseen hyes hno hdl
  have hmm := @run_makeMap Tryd.prog
  go_enter Tryd.func50, Tryd.ntmps50
  go_upto_region 1 with fail
  rw [← HW.out]
  go_upto_region 2 with fail
  rw [← HW1.out]
  go_wp2_with fail
  refine D.out.mono ?_
  rintro e w1 ⟨v, rfl, hown, hB2⟩
  obtain ⟨p, b, off, c, len, rfl, hs⟩ := (hown.slc rDecl_stays hB2).open_
  have hp := hs.at_
  have hlen := hs.long
  have HLN := Lib.hid hlen
  have HS := Lib.hid hs
  have HSN2 := Lib.hid (HSN.out.below hB2)
  have HB2 := Lib.hid (HB1.out.trans (hB2.mono HB1.out.size))
  have h900 : len ≤ 1000 := by omega
  obtain ⟨B, hBB⟩ : ∃ B, B = W0.heap.size := ⟨_, rfl⟩
  rw [← hBB] at HSN2 hge
  have HSZ := Lib.hid (show w.heap.size ≤ w1.heap.size from HB2.out.size)
  have hZ : ¬ TwiceTo (names L) 0 := fun ⟨i, j, _, h2, _⟩ => by omega
  have HZ := Lib.hid hZ
  obtain ⟨W2, hW2⟩ : ∃ W2, W2 = w1 := ⟨_, rfl⟩
  rw [← hW2] at HSN2 HB2 HS HSZ ⊢
  rw [show (.map (some W0.heap.size) : Value) = .map (some B) by rw [hBB]]
  clear hown hB2 hs hlen hZ m0 m1 hW2 hBB hmm
  go_wp2_with fail
  go_loopw [11] (fun i wr => ∃ k : Nat, k ≤ len ∧ i = .int .i64 k ∧ SeenAt wr B ((names L).take k) ∧ ¬ TwiceTo (names L) k ∧ Turn [B] W2 wr) (fun i _ => len - (intOf i).toNat)
  case atStart => exact ⟨0, by omega, rfl, by rw [List.take_zero]; exact HSN2.out, HZ.out, Turn.refl _ _⟩
  case round =>
    obtain ⟨k, hk, rfl, hseen, hnt, ht⟩ := hrel
    have HB := Lib.hid (ht.below HB2.out HSZ.out (by simp; omega))
    by_cases hlt : k < len
    · obtain rfl := hp (by omega)
      obtain ⟨d, s, v, ex, a0, a1, hsn, sd⟩ := decl_at HS.out hlt
      have a0 := ht.cell a0 (by simp; exact HSN2.out.not_cell a0)
      have a1 := ht.cell a1 (by simp; exact HSN2.out.not_cell a1)
      obtain ⟨pd, ld, cd, rfl⟩ := slc_shape sd
      have hnx := names_at ex
      rw [← hsn] at hnx
      have hss : s.size ≤ 1000 := by
        rw [txt_size, hsn]
        have := HDL.out d (List.mem_of_getElem? ex)
        omega
      obtain ⟨W3, hW3⟩ : ∃ W3, W3 = wr.alloc (.cells #[.string s, .slice pd ld cd] 47) := ⟨_, rfl⟩
      have hB3 : Below wr.heap.size wr W3 := by rw [hW3]; exact (Below.refl _ wr).alloc (Nat.le_refl _) _
      have q0 : W3.cell? ⟨wr.heap.size, 0, none⟩ = some (.string s) := by rw [hW3]; go_simp
      have hs3 := hseen.below hB3
      have hlook := hs3.look s hss
      have HW3 := Lib.hid hW3
      have HB3 := Lib.hid (HB.out.trans (hB3.mono HB.out.size))
      have HT3 := Lib.hid (show Turn [B] W2 W3 by rw [hW3]; exact ht.alloc _)
      by_cases hm : txt s ∈ (names L).take k
      · rw [decide_eq_true hm] at hlook
        have key : R = true := HY.out (twice_hit hnx hm)
        subst key
        clear hseen hnt ht ex hsn sd hnx hW3 hB3 hs3 hm
        go_upto_region 5 with fail
        rw [← HW3.out]
        clear a0 a1
        go_wp2_with fail
        go_ret
        exact ⟨rfl, HB3.out⟩
      · rw [decide_eq_false hm] at hlook
        obtain ⟨W4, hrun, hs4, hg4⟩ := hs3.store s hss (by simp [names_len]; omega)
        rw [← take_next hnx] at hs4
        have HS4 := Lib.hid hs4
        have HNT := Lib.hid (twice_next hnt hnx hm)
        have HT4 := Lib.hid (HT3.out.grown hg4 (by simp))
        clear hseen hnt ht ex hsn sd hnx hW3 hB3 hs3 hm hs4 hg4
        go_upto_region 5 with fail
        rw [← HW3.out]
        clear a0 a1
        go_wp2_with fail
        go_roundw
        case rel => exact ⟨k + 1, by omega, by go_num, HS4.out, HNT.out, HT4.out⟩
        case measure => simp [intOf]; omega
    · have key : R = false := by
        refine HNO.out ?_
        have e : (names L).length = k := by rw [names_len, ← HLN.out]; omega
        rw [e]
        exact hnt
      subst key
      clear hseen hnt ht
      go_wp2_with fail
      go_ret
      exact ⟨rfl, HB.out⟩
end Go.Proofs.YtkgieaoahijheaaDoor
namespace Go.Proofs.YtkgieaoahijheaaDoor
open Go.RowKit
set_option maxRecDepth 100000

/-- the faults in memory, place by place: a function and an error each -/
structure Faults (w : World) (b off : Nat) : Prop where
  c0 : w.cell? ⟨b, off + 0 * 2, none⟩ = some (.func (.func 47) #[] #[]) ∧ w.cell? ⟨b, off + 0 * 2 + 1, none⟩ = some (.int .i64 5)
  c1 : w.cell? ⟨b, off + 1 * 2, none⟩ = some (.func (.func 48) #[] #[]) ∧ w.cell? ⟨b, off + 1 * 2 + 1, none⟩ = some (.int .i64 2)
  c2 : w.cell? ⟨b, off + 2 * 2, none⟩ = some (.func (.func 49) #[] #[]) ∧ w.cell? ⟨b, off + 2 * 2 + 1, none⟩ = some (.int .i64 7)
  c3 : w.cell? ⟨b, off + 3 * 2, none⟩ = some (.func (.func 50) #[] #[]) ∧ w.cell? ⟨b, off + 3 * 2 + 1, none⟩ = some (.int .i64 8)
  c4 : w.cell? ⟨b, off + 4 * 2, none⟩ = some (.func (.func 51) #[] #[]) ∧ w.cell? ⟨b, off + 4 * 2 + 1, none⟩ = some (.int .i64 1)
  c5 : w.cell? ⟨b, off + 5 * 2, none⟩ = some (.func (.func 52) #[] #[]) ∧ w.cell? ⟨b, off + 5 * 2 + 1, none⟩ = some (.int .i64 12)
set_option maxRecDepth 100000 in
set_option maxHeartbeats 1000000 in
theorem faults_any (w : World) : Calls Tryd.prog 30 #[] w fun e w' => ∃ b off : Nat, e = .returned (.slice (some ⟨b, off, none⟩) 6 6) ∧ Faults w' b off ∧ Below w.heap.size w w' := by
  go_enter Tryd.func30, Tryd.ntmps30
  go_wp2_with fail
  go_ret
  refine ⟨_, _, rfl, ⟨⟨?_, ?_⟩, ⟨?_, ?_⟩, ⟨?_, ?_⟩, ⟨?_, ?_⟩, ⟨?_, ?_⟩, ⟨?_, ?_⟩⟩, (Below.refl _ w).alloc (Nat.le_refl _) _⟩ <;> go_simp

theorem enters45 : Enters Tryd.prog 47 := enters_of Tryd.func47 (by kernel_rfl) rfl
theorem enters46 : Enters Tryd.prog 48 := enters_of Tryd.func48 (by kernel_rfl) rfl
theorem enters47 : Enters Tryd.prog 49 := enters_of Tryd.func49 (by kernel_rfl) rfl
theorem enters48 : Enters Tryd.prog 50 := enters_of Tryd.func50 (by kernel_rfl) rfl
theorem enters49 : Enters Tryd.prog 51 := enters_of Tryd.func51 (by kernel_rfl) rfl
theorem enters50 : Enters Tryd.prog 52 := enters_of Tryd.func52 (by kernel_rfl) rfl

theorem fault_at {w u : World} {b off : Nat} {pb : Option Addr} {bb ob cb lb : Nat} {pg : Option Addr} {lg cg : Nat} {m : PModel} (hF : Faults u b off) (h : Mo w pb bb ob cb lb pg lg cg m) (hc : (pb = none → cb = 0) ∧ lb ≤ cb) (hf : Few m) (k : Nat) (hk : k < 6) :
    ∃ (g : Nat) (B : Bool) (e : Int), (faultsM m)[k]? = some (B, e) ∧ u.cell? ⟨b, off + k * 2, none⟩ = some (.func (.func g) #[] #[]) ∧ u.cell? ⟨b, off + k * 2 + 1, none⟩ = some (.int .i64 e) ∧ Enters Tryd.prog g ∧
      ∀ v, Below w.heap.size w v → Calls Tryd.prog g #[.agg #[.slice pb lb cb, .slice pg lg cg]] v fun e' w' => e' = .returned (.bool B) ∧ Below v.heap.size v w' := by
  match k, hk with
  | 0, _ => exact ⟨47, _, _, rfl, hF.c0.1, hF.c0.2, enters45, fun v hv => big_cells pb bb ob cb lb pg lg cg m v (h.below hv) hf⟩
  | 1, _ => exact ⟨48, _, _, rfl, hF.c1.1, hF.c1.2, enters46, fun v hv => form_cells pb bb ob cb lb pg lg cg m v (h.below hv) hc hf⟩
  | 2, _ => exact ⟨49, _, _, rfl, hF.c2.1, hF.c2.2, enters47, fun v hv => name_cells pb bb ob cb lb pg lg cg m v (h.below hv) hc hf⟩
  | 3, _ => exact ⟨50, _, _, rfl, hF.c3.1, hF.c3.2, enters48, fun v hv => twice_cells pb bb ob cb lb pg lg cg m v (h.below hv) hc hf⟩
  | 4, _ => exact ⟨51, _, _, rfl, hF.c4.1, hF.c4.2, enters49, fun v hv => dom_cells pb bb ob cb lb pg lg cg m v (h.below hv) hc hf⟩
  | 5, _ => exact ⟨52, _, _, rfl, hF.c5.1, hF.c5.2, enters50, fun v hv => con_cells pb bb ob cb lb pg lg cg m v (h.below hv) hf⟩
theorem first_at {L : List (Bool × Int)} {k : Nat} {B : Bool} {e : Int} (h : L[k]? = some (B, e)) : firstF (L.drop k) = if B = true then e else firstF (L.drop (k + 1)) := by
  obtain ⟨hk, ex⟩ := List.getElem?_eq_some_iff.1 h
  rw [List.drop_eq_getElem_cons hk, ex, firstF]

set_option maxRecDepth 100000 in
set_option maxHeartbeats 2000000 in
theorem check_cells (pb : Option Addr) (bb ob cb lb : Nat) (pg : Option Addr) (lg cg : Nat) (m : PModel) (w : World) (h : Mo w pb bb ob cb lb pg lg cg m) (hc : (pb = none → cb = 0) ∧ lb ≤ cb) (hf : Few m) :
    Calls Tryd.prog 15 #[.agg #[.slice pb lb cb, .slice pg lg cg]] w fun e w' => e = .returned (.int .i64 (checkM m)) ∧ Below w.heap.size w w' := by
  obtain ⟨R, hR⟩ : ∃ R, R = checkM m := ⟨_, rfl⟩
  rw [← hR]
  obtain ⟨W0, hW0⟩ : ∃ W0, W0 = w.alloc (.cells #[.slice pb lb cb, .slice pg lg cg] 25) := ⟨_, rfl⟩
  have hB0 : Below w.heap.size w W0 := by rw [hW0]; exact (Below.refl _ w).alloc (Nat.le_refl _) _
  have m0 : W0.cell? ⟨w.heap.size, 0, none⟩ = some (.slice pb lb cb) := by rw [hW0]; go_simp
  have m1 : W0.cell? ⟨w.heap.size, 1, none⟩ = some (.slice pg lg cg) := by rw [hW0]; go_simp
  obtain ⟨W1, hW1⟩ : ∃ W1, W1 = W0.alloc (.cells #[.slice pb lb cb, .slice pg lg cg] 71) := ⟨_, rfl⟩
  have hB1 : Below W0.heap.size W0 W1 := by rw [hW1]; exact (Below.refl _ W0).alloc (Nat.le_refl _) _
  have n0 : W1.cell? ⟨W0.heap.size, 0, none⟩ = some (.slice pb lb cb) := by rw [hW1]; go_simp
  have n1 : W1.cell? ⟨W0.heap.size, 1, none⟩ = some (.slice pg lg cg) := by rw [hW1]; go_simp
  have hsz : W0.heap.size = w.heap.size + 1 := by rw [hW0]; simp
  have HW := Lib.hid hW0
  have HW1 := Lib.hid hW1
  have HB1 := Lib.hid (hB0.trans (hB1.mono hB0.size))
  have HM := Lib.hid h
  have HF := Lib.hid hf
  have HC := Lib.hid hc
  have HS := Lib.hid (show R = firstF ((faultsM m).drop 0) from hR)
  clear hR h hf hc hW0 hB0 hW1 hB1
  go_enter Tryd.func15, Tryd.ntmps15
  go_upto_region 1 with fail
  rw [← HW.out]
  rw [hsz] at n0 n1
  have HN := Lib.hid (And.intro n0 n1)
  clear n0 n1
  go_upto_region 2 with fail
  rw [← HW1.out]
  clear m0 m1
  go_wp2_with fail
  refine (faults_any W1).mono ?_
  rintro e W2 ⟨b, off, rfl, hFa, hB2⟩
  have HFA := Lib.hid hFa
  have HN := Lib.hid (And.intro (cell_stays hB2 HN.out.1) (cell_stays hB2 HN.out.2))
  have HB2 := Lib.hid (HB1.out.trans (hB2.mono HB1.out.size))
  clear hFa hB2 hsz
  go_wp2_with fail
  go_loopw [10] (fun i wr => ∃ k : Nat, k ≤ 6 ∧ i = .int .i64 k ∧ R = firstF ((faultsM m).drop k) ∧ Below W2.heap.size W2 wr) (fun i _ => 6 - (intOf i).toNat)
  case atStart => exact ⟨0, by omega, rfl, HS.out, Below.refl _ _⟩
  case round =>
    obtain ⟨k, hk, rfl, hrel, hB⟩ := hrel
    by_cases hlt : k < 6
    · obtain ⟨g, B, e, ex, a0, a1, hE, hC⟩ := fault_at HFA.out HM.out HC.out HF.out k hlt
      have a0 := cell_stays hB a0
      have a1 := cell_stays hB a1
      have hstep := hrel.trans (first_at ex)
      obtain ⟨W3, hW3⟩ : ∃ W3, W3 = wr.alloc (.cells #[.func (.func g) #[] #[], .int .i64 e] 76) := ⟨_, rfl⟩
      have hB3 : Below wr.heap.size wr W3 := by rw [hW3]; exact (Below.refl _ wr).alloc (Nat.le_refl _) _
      have q0 : W3.cell? ⟨wr.heap.size, 0, none⟩ = some (.func (.func g) #[] #[]) := by rw [hW3]; go_simp
      have q1 : W3.cell? ⟨wr.heap.size, 1, none⟩ = some (.int .i64 e) := by rw [hW3]; go_simp
      have hBB := hB.trans (hB3.mono hB.size)
      have n0 := cell_stays hBB HN.out.1
      have n1 := cell_stays hBB HN.out.2
      have HW3 := Lib.hid hW3
      have HB3 := Lib.hid hBB
      have HE := Lib.hid hE
      have C := Lib.hid (hC W3 (HB2.out.trans (hBB.mono HB2.out.size)))
      clear hrel hB ex hE hC hW3 hB3 hBB
      cases B
      · rw [if_neg (by simp)] at hstep
        have NX := Lib.hid hstep
        clear hstep
        go_upto_region 5 with fail
        rw [← HW3.out]
        clear a0 a1
        go_wp2_with fail
        simp only [HE.out _ _]
        refine C.out.mono ?_
        rintro e' w4 ⟨rfl, hB4⟩
        have HB4 := Lib.hid (HB3.out.trans (hB4.mono HB3.out.size))
        clear hB4 q0 q1 n0 n1
        go_wp2_with fail
        go_roundw
        case rel => exact ⟨k + 1, by omega, by go_num, NX.out, HB4.out⟩
        case measure => simp [intOf]; omega
      · rw [if_pos rfl] at hstep
        subst hstep
        go_upto_region 5 with fail
        rw [← HW3.out]
        clear a0 a1
        go_wp2_with fail
        simp only [HE.out _ _]
        refine C.out.mono ?_
        rintro e' w4 ⟨rfl, hB4⟩
        have q1 := cell_stays hB4 q1
        have HB4 := Lib.hid (HB3.out.trans (hB4.mono HB3.out.size))
        clear hB4 q0 n0 n1
        go_wp2_with fail
        go_ret
        exact ⟨rfl, HB2.out.trans (HB4.out.mono HB2.out.size)⟩
    · have key : R = 0 := by
        obtain rfl : k = 6 := by omega
        exact hrel
      subst key
      have HB := Lib.hid hB
      clear hrel hB
      go_wp2_with fail
      go_ret
      exact ⟨rfl, HB2.out.trans (HB.out.mono HB2.out.size)⟩
theorem rModel_open {w : World} {bv gv : Value} {m : PModel} (h : rModel w [bv, gv] m) : ∃ (pb : Option Addr) (bb ob cb lb : Nat) (pg : Option Addr) (lg cg : Nat), bv = .slice pb lb cb ∧ gv = .slice pg lg cg ∧ ((pb = none → cb = 0) ∧ lb ≤ cb) ∧ Mo w pb bb ob cb lb pg lg cg m := by
  obtain ⟨v1, v2, e, ⟨p, b, off, c, len, h2, hc, h3⟩, h4⟩ := h
  simp only [List.cons.injEq, and_true] at e
  obtain ⟨rfl, rfl⟩ := e
  obtain ⟨pg, bg, og, cg, lg, rfl, hg⟩ := Slc.open_ h4
  exact ⟨p, b, off, c, len, pg, lg, cg, h2, rfl, hc, ⟨h3, h4⟩, hg.long⟩
theorem check_any {w : World} {bv gv : Value} {m : PModel} (h : rModel w [bv, gv] m) (hf : Few m) :
    Calls Tryd.prog 15 #[.agg #[bv, gv]] w fun e w' => e = .returned (.int .i64 (checkM m)) ∧ Below w.heap.size w w' := by
  obtain ⟨pb, bb, ob, cb, lb, pg, lg, cg, rfl, rfl, hc, hm⟩ := rModel_open h
  exact check_cells pb bb ob cb lb pg lg cg m w hm hc hf
end Go.Proofs.YtkgieaoahijheaaDoor
