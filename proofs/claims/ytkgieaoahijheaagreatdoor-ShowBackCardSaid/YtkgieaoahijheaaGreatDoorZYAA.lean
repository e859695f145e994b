/-
  The contracts of the library that the program leans on (a builder of texts, numbers by ten, a copy of a text, a byte's place in a text), laid at this program.
  What a builder of texts does at this program, where it is one that a call has made: WriteString, with the frame that reaches above it.
  Nested data in memory: a slice whose elements are read by a reader of their own; how such data comes in, and stays. Nothing of the program.
  Models, blocks, variables and constraints in memory, as plain data; and that what comes in reads so.
  What all of the document's answers, and Same of its answers for sets, answer, at every list of numbers that can be read.
  What Ends and Vars of the document's answers answer, at every model that can be read.
-/
import Derived.Shelf.Strings.Builder1
import Derived.Shelf.Small.Strs
import Derived.Shelf.Strings.BuilderF
import Derived.Shelf.Strings.BuilderK
import Derived.Shelf.Strconv.Itoa0
import Derived.Shelf.Strconv.Itoa1
import Derived.Shelf.LaysM
import Derived.Shelf.Strconv.Itoa2
import Derived.Shelf.Strconv.Itoa3
import Derived.Shelf.Strconv.Clone
import Derived.Shelf.Strings.Search1
import Derived.Test.YtkgieaoahijheaaGreatDoorProg
import Derived.Lib.FrozenHead2
import Derived.Lib.OthersKept
import Derived.Lib.Strings
import Derived.Lib.Builder
import Derived.Lib.UnsafeStr
import Derived.WalkKit
import Derived.Laws.Externs
import Derived.Shelf.Strings.BuilderX
import Derived.Deep.Slices
import Derived.ChangeArms
import Derived.ChangeSame
import Derived.Below
import Derived.KernelRfl
import Derived.Deep.Draws
import Derived.ProofKit
import Derived.OpenShut
import Derived.Outline
import Derived.WalkMore
import Derived.Lib.Hide
import Derived.BigGuardPart
import Derived.Deep.DeepCutAuto
import Derived.Deep.CutBlock
import Derived.Deep.Light
import Derived.Deep.QuietTactic
import Derived.BigQuiet
import Derived.LoopTactic
import Derived.OwnWalk
import Derived.Maps.AppendAt
import Derived.Great.BuildSlice
import Derived.Laws.OwnMore
import Derived.Lib.OwnBridge
namespace Go.Proofs
open Go.Shelf
def Tryz.lays170_ren : Go.Shelf.Ren := ⟨fun | 170 => 16 | n => n, fun | 70 => 47 | 3 => 3 | 0 => 0 | 72 => 50 | 37 => 48 | 5 => 5 | n => n, fun | n => n⟩
theorem Tryz.lays170 : Go.Proofs.Lays.n170 Tryz.prog Tryz.lays170_ren := {
  mixed := by kernel_rfl
  f170 := Tryz.func16.trans (congrArg some (by kernel_rfl))
  t0 := Tryz.underlying0
  a0 := Tryz.isAgg0
  z0 := Tryz.sizeOf0
  v0 := Tryz.zeroValue0
  t3 := Tryz.underlying3
  a3 := Tryz.isAgg3
  z3 := Tryz.sizeOf3
  v3 := Tryz.zeroValue3
  t37 := Tryz.underlying48
  a37 := Tryz.isAgg48
  z37 := Tryz.sizeOf48
  v37 := Tryz.zeroValue48
  t70 := Tryz.underlying47
  a70 := Tryz.isAgg47
  z70 := Tryz.sizeOf47
  v70 := Tryz.zeroValue47
  t72 := Tryz.underlying50
  a72 := Tryz.isAgg50
  z72 := Tryz.sizeOf50
  v72 := Tryz.zeroValue50 }
def Tryz.lays169_ren : Go.Shelf.Ren := ⟨fun | 169 => 17 | n => n, fun | 70 => 47 | 9 => 9 | 0 => 0 | 72 => 50 | 37 => 48 | 127 => 89 | 3 => 3 | 5 => 5 | n => n, fun | n => n⟩
theorem Tryz.lays169 : Go.Proofs.Lays.n169 Tryz.prog Tryz.lays169_ren := {
  mixed := by kernel_rfl
  f169 := Tryz.func17.trans (congrArg some (by kernel_rfl))
  t0 := Tryz.underlying0
  a0 := Tryz.isAgg0
  z0 := Tryz.sizeOf0
  v0 := Tryz.zeroValue0
  t3 := Tryz.underlying3
  a3 := Tryz.isAgg3
  z3 := Tryz.sizeOf3
  v3 := Tryz.zeroValue3
  t9 := Tryz.underlying9
  a9 := Tryz.isAgg9
  z9 := Tryz.sizeOf9
  v9 := Tryz.zeroValue9
  t37 := Tryz.underlying48
  a37 := Tryz.isAgg48
  z37 := Tryz.sizeOf48
  v37 := Tryz.zeroValue48
  t70 := Tryz.underlying47
  a70 := Tryz.isAgg47
  z70 := Tryz.sizeOf47
  v70 := Tryz.zeroValue47
  t72 := Tryz.underlying50
  a72 := Tryz.isAgg50
  z72 := Tryz.sizeOf50
  v72 := Tryz.zeroValue50
  t127 := Tryz.underlying89
  a127 := Tryz.isAgg89
  z127 := Tryz.sizeOf89
  v127 := Tryz.zeroValue89 }
theorem Tryz.Builder_Extra_169 : Builder.Extra Tryz.prog Tryz.lays169_ren := {
  sizeBuilder := by kernel_rfl
  liesBuilder := by kernel_rfl
  t5 := Tryz.underlying5
  a5 := Tryz.isAgg5
  z5 := Tryz.sizeOf5
  v5 := Tryz.zeroValue5
  infoByte := by kernel_rfl
  cellsByte := by kernel_rfl
  sizeByte := by kernel_rfl
  neB5 := by decide }
def Tryz.lays137_ren : Go.Shelf.Ren := ⟨fun | 137 => 79 | 217 => 94 | 266 => 104 | n => n, fun | 9 => 9 | 5 => 5 | 3 => 3 | n => n, fun | n => n⟩
theorem Tryz.lays137 : Go.Proofs.Lays.n137 Tryz.prog Tryz.lays137_ren := {
  mixed := by kernel_rfl
  f137 := Tryz.func79.trans (congrArg some (by kernel_rfl))
  f217 := Tryz.func94.trans (congrArg some (by kernel_rfl))
  f266 := Tryz.func104.trans (congrArg some (by kernel_rfl))
  t3 := Tryz.underlying3
  a3 := Tryz.isAgg3
  z3 := Tryz.sizeOf3
  v3 := Tryz.zeroValue3
  t5 := Tryz.underlying5
  a5 := Tryz.isAgg5
  z5 := Tryz.sizeOf5
  v5 := Tryz.zeroValue5
  t9 := Tryz.underlying9
  a9 := Tryz.isAgg9
  z9 := Tryz.sizeOf9
  v9 := Tryz.zeroValue9 }
open Go.RowKit in
theorem Tryz.strings_IndexByte (s : ByteArray) (c : Int) (w : World) :
    Calls Tryz.prog 79 #[.string s, .int .u8 c] w fun e w' => e = .returned (.int .i64 (Lib.indexByte s.data.toList c.toNat.toUInt8)) ∧ w' = w := Any.strings_IndexByte Tryz.lays137 s c w
open Go.RowKit in
theorem Tryz.Builder_Len_f (B b : Nat) (bs : List Value) (w : World) (h : Lib.IsBuilderF 50 5 B b bs w) :
    Calls Tryz.prog 16 #[.pointer (some ⟨b, 0, none⟩)] w fun e w' => e = .returned (.int .i64 bs.length) ∧ w' = w := Any.Builder_Len_f Tryz.lays170 B b bs w h
open Go.RowKit in
theorem Tryz.Builder_String_any_k (B b : Nat) (l : List UInt8) (w : World) (h : Lib.IsBuilderF 50 5 B b (Lib.byteCells l) w) (hBw : B ≤ w.heap.size) :
    Calls Tryz.prog 17 #[.pointer (some ⟨b, 0, none⟩)] w fun e w' => e = .returned (.string ⟨l.toArray⟩) ∧ (Lib.IsBuilderF 50 5 B b (Lib.byteCells l) w' ∧ Below B w w' ∧ Lib.OthersKept 5 (some b) w w') := Any.Builder_String_any_k Tryz.lays169 Tryz.Builder_Extra_169 B b l w h hBw
def Tryz.laysM171_ren : Go.Shelf.Ren := ⟨fun | 171 => 67 | 243 => 85 | 246 => 102 | 283 => 111 | 284 => 112 | 285 => 113 | 286 => 114 | 129 => 117 | 317 => 116 | 318 => 118 | 319 => 119 | 320 => 120 | 337 => 121 | 338 => 122 | n => n, fun | 3 => 3 | 9 => 9 | 2 => 2 | 4 => 4 | 171 => 140 | 0 => 0 | 53 => 141 | 37 => 48 | 5 => 5 | 173 => 144 | 212 => 148 | 51 => 149 | 20 => 20 | 213 => 150 | 46 => 152 | 232 => 155 | 233 => 156 | n => n, fun | 17 => 1 | 18 => 2 | 19 => 3 | n => n⟩
theorem Tryz.laysM171 : Go.Proofs.LaysM.n171 Tryz.prog Tryz.laysM171_ren := {
  mixed := by kernel_rfl
  f129 := Tryz.func117.trans (congrArg some (by kernel_rfl))
  f171 := Tryz.func67.trans (congrArg some (by kernel_rfl))
  f243 := Tryz.func85.trans (congrArg some (by kernel_rfl))
  f246 := Tryz.func102.trans (congrArg some (by kernel_rfl))
  f283 := Tryz.func111.trans (congrArg some (by kernel_rfl))
  f284 := Tryz.func112.trans (congrArg some (by kernel_rfl))
  f285 := Tryz.func113.trans (congrArg some (by kernel_rfl))
  f286 := Tryz.func114.trans (congrArg some (by kernel_rfl))
  f317 := Tryz.func116.trans (congrArg some (by kernel_rfl))
  f318 := Tryz.func118.trans (congrArg some (by kernel_rfl))
  f319 := Tryz.func119.trans (congrArg some (by kernel_rfl))
  f320 := Tryz.func120.trans (congrArg some (by kernel_rfl))
  f337 := Tryz.func121.trans (congrArg some (by kernel_rfl))
  f338 := Tryz.func122.trans (congrArg some (by kernel_rfl))
  t0 := Tryz.underlying0
  a0 := Tryz.isAgg0
  z0 := Tryz.sizeOf0
  v0 := Tryz.zeroValue0
  t2 := Tryz.underlying2
  a2 := Tryz.isAgg2
  z2 := Tryz.sizeOf2
  v2 := Tryz.zeroValue2
  t3 := Tryz.underlying3
  a3 := Tryz.isAgg3
  z3 := Tryz.sizeOf3
  v3 := Tryz.zeroValue3
  t4 := Tryz.underlying4
  a4 := Tryz.isAgg4
  z4 := Tryz.sizeOf4
  v4 := Tryz.zeroValue4
  t5 := Tryz.underlying5
  a5 := Tryz.isAgg5
  z5 := Tryz.sizeOf5
  v5 := Tryz.zeroValue5
  t9 := Tryz.underlying9
  a9 := Tryz.isAgg9
  z9 := Tryz.sizeOf9
  v9 := Tryz.zeroValue9
  t20 := Tryz.underlying20
  a20 := Tryz.isAgg20
  z20 := Tryz.sizeOf20
  v20 := Tryz.zeroValue20
  t37 := Tryz.underlying48
  a37 := Tryz.isAgg48
  z37 := Tryz.sizeOf48
  v37 := Tryz.zeroValue48
  t46 := Tryz.underlying152
  a46 := Tryz.isAgg152
  z46 := Tryz.sizeOf152
  v46 := Tryz.zeroValue152
  t51 := Tryz.underlying149
  a51 := Tryz.isAgg149
  z51 := Tryz.sizeOf149
  v51 := Tryz.zeroValue149
  t53 := Tryz.underlying141
  a53 := Tryz.isAgg141
  z53 := Tryz.sizeOf141
  v53 := Tryz.zeroValue141
  t171 := Tryz.underlying140
  a171 := Tryz.isAgg140
  z171 := Tryz.sizeOf140
  v171 := Tryz.zeroValue140
  t173 := Tryz.underlying144
  a173 := Tryz.isAgg144
  z173 := Tryz.sizeOf144
  v173 := Tryz.zeroValue144
  t212 := Tryz.underlying148
  a212 := Tryz.isAgg148
  z212 := Tryz.sizeOf148
  v212 := Tryz.zeroValue148
  t213 := Tryz.underlying150
  a213 := Tryz.isAgg150
  z213 := Tryz.sizeOf150
  t232 := Tryz.underlying155
  a232 := Tryz.isAgg155
  z232 := Tryz.sizeOf155
  v232 := Tryz.zeroValue155
  t233 := Tryz.underlying156
  a233 := Tryz.isAgg156
  z233 := Tryz.sizeOf156
  v233 := Tryz.zeroValue156
  g17 := by kernel_rfl
  g18 := by kernel_rfl
  g19 := by kernel_rfl
  i0 := by kernel_rfl
  i2 := by kernel_rfl
  i3 := by kernel_rfl
  i4 := by kernel_rfl
  i5 := by kernel_rfl
  i9 := by kernel_rfl
  i20 := by kernel_rfl
  i37 := by kernel_rfl
  i46 := by kernel_rfl
  i51 := by kernel_rfl
  i53 := by kernel_rfl
  i171 := by kernel_rfl
  i173 := by kernel_rfl
  i212 := by kernel_rfl
  i232 := by kernel_rfl
  i233 := by kernel_rfl
  m17 := by kernel_rfl
  m18 := by kernel_rfl
  m19 := by kernel_rfl }
open Go.RowKit Go.Sort Go.Lib in
theorem Tryz.strconv_Itoa (n : Int) (h0 : -9223372036854775808 ≤ n) (h1 : n ≤ 9223372036854775807) (w : World) (htab : Lib.TabIs Tryz.prog w "internal/strconv.uint64pow10" .u64 Lib.pow10Tab) :
    Calls Tryz.prog 67 #[.int .i64 n] w fun e w' => e = .returned (.string ⟨(Lib.itoa n).toArray⟩) ∧ ∃ k os, w' = grow (w.drewN k) os := Any.strconv_Itoa Tryz.laysM171 n h0 h1 w htab
def Tryz.laysM316_ren : Go.Shelf.Ren := ⟨fun | 316 => 51 | n => n, fun | 9 => 9 | 3 => 3 | 4 => 4 | 37 => 48 | 0 => 0 | 127 => 89 | 5 => 5 | n => n, fun | n => n⟩
theorem Tryz.laysM316 : Go.Proofs.LaysM.n316 Tryz.prog Tryz.laysM316_ren := {
  mixed := by kernel_rfl
  f316 := Tryz.func51.trans (congrArg some (by kernel_rfl))
  t0 := Tryz.underlying0
  a0 := Tryz.isAgg0
  z0 := Tryz.sizeOf0
  v0 := Tryz.zeroValue0
  t3 := Tryz.underlying3
  a3 := Tryz.isAgg3
  z3 := Tryz.sizeOf3
  v3 := Tryz.zeroValue3
  t4 := Tryz.underlying4
  a4 := Tryz.isAgg4
  z4 := Tryz.sizeOf4
  v4 := Tryz.zeroValue4
  t9 := Tryz.underlying9
  a9 := Tryz.isAgg9
  z9 := Tryz.sizeOf9
  v9 := Tryz.zeroValue9
  t37 := Tryz.underlying48
  a37 := Tryz.isAgg48
  z37 := Tryz.sizeOf48
  v37 := Tryz.zeroValue48
  t127 := Tryz.underlying89
  a127 := Tryz.isAgg89
  z127 := Tryz.sizeOf89
  v127 := Tryz.zeroValue89
  t5 := Tryz.underlying5
  a5 := Tryz.isAgg5
  z5 := Tryz.sizeOf5
  v5 := Tryz.zeroValue5
  i0 := by kernel_rfl
  i3 := by kernel_rfl
  i4 := by kernel_rfl
  i5 := by kernel_rfl
  i9 := by kernel_rfl
  i37 := by kernel_rfl
  i127 := by kernel_rfl }
open Go.RowKit in
theorem Tryz.stringslite_Clone (s : ByteArray) (w : World) (hlim : s.size ≤ 281474976710656) :
    Calls Tryz.prog 51 #[.string s] w fun e w' => e = .returned (.string s) ∧ Below w.heap.size w w' := Any.stringslite_Clone Tryz.laysM316 s w hlim
end Go.Proofs
namespace Go.Proofs.YtkgieaoahijheaaGreatDoor.Wt
open Go.RowKit Go.Shelf
set_option maxRecDepth 100000

abbrev TB : TypeId := 50
abbrev TU : TypeId := 5
theorem size_bld : (Tryz.prog.info? 50).map (·.size) = some 2 := by kernel_rfl
theorem lies_bld : liesAt Tryz.prog Tryz.prog.depth 50 (2 / Tryz.prog.cellsOf 50) 0 50 1 = true := by kernel_rfl
theorem info_byte : (Tryz.prog.info? 5).map (fun i => (i.zero, i.size, i.bytes)) = some (some (.int .u8 0), 1, 1) := by kernel_rfl
set_option maxHeartbeats 1000000 in
theorem check_used (b : Nat) (w : World) (h0 : w.cell? ⟨b, 0, none⟩ = some (.pointer (some ⟨b, 0, none⟩))) :
    Calls Tryz.prog 52 #[.pointer (some ⟨b, 0, none⟩)] w fun e w' => e = .returned (.tuple #[]) ∧ w' = w := by
  obtain ⟨j, hj, _⟩ := Option.map_eq_some_iff.1 size_bld
  go_enter Tryz.func52, Tryz.ntmps52
  go_wp2
  rw [Lib.run_neq_ptr_same w _ Tryz.underlying47 hj]
  go_wp2
  go_end0
  exact ⟨rfl, rfl⟩
set_option maxHeartbeats 1000000 in
theorem check_fresh (b : Nat) (w : World) (h0 : w.cell? ⟨b, 0, none⟩ = some (.pointer none)) (hsh : w.shape? b = some (50, 2)) (hfz : w.frozen? ⟨b, 0, none⟩ = false) :
    Calls Tryz.prog 52 #[.pointer (some ⟨b, 0, none⟩)] w fun e w' => e = .returned (.tuple #[]) ∧ w' = w.setCell ⟨b, 0, none⟩ (.pointer (some ⟨b, 0, none⟩)) := by
  obtain ⟨j, hj, hjs⟩ := Option.map_eq_some_iff.1 size_bld
  go_enter Tryz.func52, Tryz.ntmps52
  go_wp2
  rw [Lib.run_to_unsafe w ⟨b, 0, none⟩ Tryz.underlying47 Tryz.underlying121 hj (by rw [hjs]; decide) hsh (Nat.zero_lt_succ 1)]
  simp only [Result.andThen]
  rw [Oper.upon_value]
  go_wp2
  rw [run_callFunc_extern Tryz.func78 (by kernel_rfl) (by kernel_rfl) (by kernel_rfl) (e := Extern.AbiNoEscape.same) (by kernel_rfl)]
  rw [Lib.run_noEscape]
  simp only [Result.andThen]
  rw [Oper.upon_value]
  go_wp2
  rw [Lib.run_from_unsafe w ⟨b, 0, none⟩ Tryz.underlying121 Tryz.underlying47 hj hsh lies_bld]
  simp only [Result.andThen]
  rw [Oper.upon_value]
  go_wp2
  go_end0
  exact ⟨rfl, rfl⟩
theorem check_any (B b : Nat) (bs : List Value) (w : World) (h : Lib.IsBuilderF TB TU B b bs w) :
    Calls Tryz.prog 52 #[.pointer (some ⟨b, 0, none⟩)] w fun e w' => e = .returned (.tuple #[]) ∧ (Lib.BuilderAtF TB TU B b (.pointer (some ⟨b, 0, none⟩)) bs w' ∧ Below B w w' ∧ Lib.OthersKept TU (some b) w w') := by
  cases h with
  | inl h =>
    refine (check_fresh b w h.cell0 h.shape h.frozen0).mono ?_
    rintro e w' ⟨rfl, rfl⟩
    exact ⟨rfl, h.used _, (Below.refl B w).setCell (p := ⟨b, 0, none⟩) h.1 _, (Lib.OthersKept.refl _ _ w).setCell ⟨b, 0, none⟩ rfl _⟩
  | inr h =>
    refine (check_used b w h.cell0).mono ?_
    rintro e w' ⟨rfl, rfl⟩
    exact ⟨rfl, h, Below.refl B _, Lib.OthersKept.refl _ _ _⟩
set_option maxHeartbeats 2000000 in
theorem write_cells (B b : Nat) (bs : List Value) (s : ByteArray) (w : World) (h : Lib.IsBuilderF TB TU B b bs w) (hlen : bs.length + s.size ≤ 140737488355328) (hBw : B ≤ w.heap.size) :
    Calls Tryz.prog 29 #[.pointer (some ⟨b, 0, none⟩), .string s] w fun e w' => e = .returned (.tuple #[.int .i64 s.size, .nilIface]) ∧ (Lib.BuilderAtF TB TU B b (.pointer (some ⟨b, 0, none⟩)) (bs ++ Lib.strCells s) w' ∧ Below B w w' ∧ Lib.OthersKept TU (some b) w w') := by
  obtain ⟨i0, hi, hz0, hz1, hz2⟩ := info_parts info_byte
  go_enter Tryz.func29, Tryz.ntmps29
  go_wp2_with fail
  refine (check_any B b bs _ h).mono ?_
  rintro e w1 ⟨rfl, ⟨hB, v, hbk, hown, hne⟩, hb1, hk1⟩
  have c0 : w1.cell? ⟨b, 0, none⟩ = some (.pointer (some ⟨b, 0, none⟩)) := by rw [Lib.cell_of_heap hbk]; rfl
  have c1 : w1.cell? ⟨b, 1, none⟩ = some v := by rw [Lib.cell_of_heap hbk]; rfl
  have hs1 := hb1.size
  go_wp2_with (at_builtin; refine Lib.wpList_append_own_stringF _ rfl _ _ 48 9 rfl B TU i0 Tryz.underlying48 Tryz.underlying9 hi hz0 hz1 hz2 _ _ _ rfl hown s rfl ?c3 ?c4 ?c5 ?_)
  case c3 => unfold maxLen; omega
  case c4 => omega
  case c5 => omega
  intro v' w2 hown' hgrow _
  have hlt : b < w1.heap.size := (Array.getElem?_eq_some_iff.1 hbk).1
  have hb2 : w2.heap[b]? = some (.cells #[.pointer (some ⟨b, 0, none⟩), v] TB (0, 0)) := (hgrow.block b hlt (fun e => hne e.symm)).trans hbk
  have d0 : w2.cell? ⟨b, 0, none⟩ = some (.pointer (some ⟨b, 0, none⟩)) := by rw [Lib.cell_of_heap hb2]; rfl
  have d1 : w2.cell? ⟨b, 1, none⟩ = some v := by rw [Lib.cell_of_heap hb2]; rfl
  have f1 : w2.frozen? ⟨b, 1, none⟩ = false := Lib.frozen_of_heap hb2 1
  obtain ⟨ao, n', cap, rfl⟩ : ∃ ao n' cap, v' = .slice ao n' cap := by
    rcases hown'.2 with ⟨hv, _⟩ | ⟨g, cap, cur, fz, hv, _⟩
    · exact ⟨_, _, _, hv⟩
    · exact ⟨_, _, _, hv⟩
  go_wp2
  go_ret2
  refine ⟨rfl, ?_, ?_, (hk1.grown hgrow (Lib.ownsRowF_kind hown)).setCell ⟨b, 1, none⟩ rfl _⟩
  · exact Lib.BuilderAtF.put (T := TB) (e := TU) hB hb2 (bs' := bs ++ Lib.strCells s) (by simpa [Lib.strCells_length] using hown') (by decide)
  · exact (hb1.grown hgrow (Nat.le_trans hBw hs1) (fun k hk => (hown.lt k hk).1)).setCell (p := ⟨b, 1, none⟩) hB _
end Go.Proofs.YtkgieaoahijheaaGreatDoor.Wt
namespace Go.Proofs.YtkgieaoahijheaaGreatDoor
open Go.ChangeShapes Go.WideShapes Go.RowKit
set_option maxRecDepth 100000

/-- what the cells of an element read as -/
def Reader (α : Type) : Type := World → List Value → α → Prop
/-- a reading stays where memory stays -/
def Reader.Stays {α : Type} (R : Reader α) : Prop := ∀ (w w' : World) (cs : List Value) (a : α), Below w.heap.size w w' → R w cs a → R w' cs a

/-- the slice value v reads as the list L, element by element, each of n cells -/
structure SliceOf {α : Type} (R : Reader α) (n : Nat) (w : World) (p : Option Addr) (b off len : Nat) (L : List α) : Prop where
  long : len = L.length
  at_ : 0 < len → p = some ⟨b, off, none⟩
  cell : ∀ (k : Nat) (a : α), L[k]? = some a → ∃ cs : List Value, cs.length = n ∧ (∀ j, j < n → w.cell? ⟨b, off + k * n + j, none⟩ = cs[j]?) ∧ R w cs a
/-- the same, of a value -/
def Slc {α : Type} (R : Reader α) (n : Nat) (w : World) (v : Value) (L : List α) : Prop := ∃ (p : Option Addr) (b off c len : Nat), v = .slice p len c ∧ ((p = none → c = 0) ∧ len ≤ c) ∧ SliceOf R n w p b off len L

theorem cell_stays {w wr : World} {p : Addr} {v : Value} (hB : Below w.heap.size w wr) (h : w.cell? p = some v) : wr.cell? p = some v := by
  have hlt : p.block < w.heap.size := by
    unfold World.cell? at h
    cases hh : w.heap[p.block]? with
    | none => simp [hh] at h
    | some q => exact (Array.getElem?_eq_some_iff.1 hh).1
  exact (hB.cell hlt).trans h
theorem SliceOf.below {α : Type} {R : Reader α} (hR : R.Stays) {n : Nat} {w w' : World} {p : Option Addr} {b off len : Nat} {L : List α} (h : SliceOf R n w p b off len L) (hB : Below w.heap.size w w') : SliceOf R n w' p b off len L :=
  ⟨h.long, h.at_, fun k a ha => by
    obtain ⟨cs, h1, h2, h3⟩ := h.cell k a ha
    refine ⟨cs, h1, fun j hj => ?_, hR w w' cs a hB h3⟩
    have hs : ∃ v, cs[j]? = some v := ⟨cs[j], List.getElem?_eq_getElem (by omega)⟩
    obtain ⟨v, hv⟩ := hs
    rw [hv]
    exact cell_stays hB (by rw [h2 j hj, hv])⟩
theorem Slc.below {α : Type} {R : Reader α} (hR : R.Stays) {n : Nat} {w w' : World} {v : Value} {L : List α} (h : Slc R n w v L) (hB : Below w.heap.size w w') : Slc R n w' v L := by
  obtain ⟨p, b, off, c, len, h1, hn, h2⟩ := h
  exact ⟨p, b, off, c, len, h1, hn, h2.below hR hB⟩

section
variable {H : Type} {enc : TypeId × Value → H} {P : Program} {W : World} {base : Nat} {held : Bool}

/-- a reader fits a type, if what can be read of that type is read by it -/
def Fits {α : Type} (enc : TypeId × Value → H) (P : Program) (W : World) (base : Nat) (held : Bool) (e : TypeId) (R : Reader α) : Prop :=
  ∀ (fuel : Nat) (cs : List Value) (x : DataW H × List MemPlace), DataW.trod enc P W base (fun _ => true) held fuel e cs = some x → ∃ a, R W cs a

/-- a slice that came in, of elements of a type that a reader fits -/
theorem slc_cells {α : Type} [Inhabited α] {R : Reader α} {t e : TypeId} {fuel : Nat} {cs : List Value} {x : DataW H × List MemPlace} {n : Nat} (ht : P.underlying t = some (.slice e)) (hn : P.cellsOf e = n) (hpos : 0 < n)
    (hR : Fits enc P W base held e R) (h : DataW.trod enc P W base (fun _ => true) held fuel t cs = some x) : ∃ (v : Value) (L : List α), cs = [v] ∧ Slc R n W v L := by
  rcases Go.Deep.open_slice ht h with ⟨rfl, rfl⟩ | ⟨a, len, cap, m, k, D, Pl, rfl, hb, hl, hm, hmm, rfl, hx⟩
  · exact ⟨_, [], rfl, none, 0, 0, 0, 0, rfl, ⟨fun _ => rfl, Nat.le_refl _⟩, rfl, fun h => by omega, fun k a h => by simp at h⟩
  · have hlm : len ≤ m := by rw [hmm]; simp; omega
    have each : ∀ i, i < len → ∃ q : List Value × α, q.1.length = n ∧ (∀ j, j < n → W.cell? (a.add (i * n + j)) = q.1[j]?) ∧ R W q.1 q.2 := by
      intro i hi
      obtain ⟨cs', h1, h2⟩ := hx i (by omega)
      rw [hn] at h1
      obtain ⟨_, hlen, hcell⟩ := World.cells?_some h1
      obtain ⟨y, hy⟩ := hR _ _ _ h2
      refine ⟨(cs', y), hlen, fun j hj => ?_, hy⟩
      have := hcell j hj
      rw [Go.Deep.add_add] at this
      exact this
    obtain ⟨q, hq⟩ := Go.Deep.choose_lt each
    refine ⟨_, (List.range len).map fun i => (q i).2, rfl, ?_⟩
    by_cases h0 : len = 0
    · subst h0
      exact ⟨some a, 0, 0, cap, 0, rfl, ⟨(fun h => by cases h), hl⟩, rfl, fun h => by omega, fun k a h => by simp at h⟩
    · obtain ⟨b, off, spot⟩ := a
      have hspot : spot = none := by
        obtain ⟨h1, h2, _⟩ := hq 0 (by omega)
        have h3 := h2 0 hpos
        rw [List.getElem?_eq_getElem (by omega)] at h3
        simpa [Addr.add] using World.cell?_spot h3
      subst hspot
      refine ⟨_, b, off, cap, len, rfl, ⟨(fun h => by cases h), hl⟩, by simp, fun _ => rfl, fun k a hk => ?_⟩
      have hk2 : k < len := by
        have := (List.getElem?_eq_some_iff.1 hk).1
        simpa using this
      have hka : (q k).2 = a := by simpa [hk2] using hk
      obtain ⟨h1, h2, h3⟩ := hq k hk2
      refine ⟨(q k).1, h1, fun j hj => ?_, hka ▸ h3⟩
      have h4 := h2 j hj
      have e1 : (⟨b, off, none⟩ : Addr).add (k * n + j) = ⟨b, off + k * n + j, none⟩ := by
        unfold Addr.add
        split
        · rename_i h5; simp_all
        · simp [Nat.add_assoc]
      rw [e1] at h4
      exact h4
theorem slc_fits {α : Type} [Inhabited α] {R : Reader α} {t e : TypeId} {n : Nat} (ht : P.underlying t = some (.slice e)) (hn : P.cellsOf e = n) (hpos : 0 < n) (hR : Fits enc P W base held e R) :
    Fits enc P W base held t (fun w cs L => ∃ v, cs = [v] ∧ Slc R n w v L) := fun fuel cs x h => by
  obtain ⟨v, L, h1, h2⟩ := slc_cells ht hn hpos hR h
  exact ⟨L, v, h1, h2⟩
end
end Go.Proofs.YtkgieaoahijheaaGreatDoor
namespace Go.Proofs.YtkgieaoahijheaaGreatDoor
open Go.ChangeShapes Go.WideShapes Go.RowKit
set_option maxRecDepth 100000

structure PDecl where
  name : List UInt8
  dom : List (Int × Int)
structure PCon where
  kind : Int
  vars : List Int
  coefs : List Int
  rel : Int
  const : Int
  nums : List Int
structure PBlock where
  all : Bool
  vars : List PDecl
  cons : List PCon
structure PModel where
  blocks : List PBlock
  goal : List PCon
instance : Inhabited PDecl := ⟨⟨[], []⟩⟩
instance : Inhabited PCon := ⟨⟨0, [], [], 0, 0, []⟩⟩
instance : Inhabited PBlock := ⟨⟨false, [], []⟩⟩
instance : Inhabited PModel := ⟨⟨[], []⟩⟩

/-- is it a number of 64 bits? -/
def Fit (n : Int) : Prop := -9223372036854775808 ≤ n ∧ n ≤ 9223372036854775807
def rNum : Reader Int := fun _ cs n => cs = [.int .i64 n] ∧ Fit n
def rSpan : Reader (Int × Int) := fun _ cs s => cs = [.int .i64 s.1, .int .i64 s.2] ∧ Fit s.1 ∧ Fit s.2
def rDecl : Reader PDecl := fun w cs d => ∃ (s : ByteArray) (v : Value), cs = [.string s, v] ∧ s.data.toList = d.name ∧ Slc rSpan 2 w v d.dom
def rCon : Reader PCon := fun w cs c => ∃ v1 v2 v3 : Value, cs = [.int .i64 c.kind, v1, v2, .int .i64 c.rel, .int .i64 c.const, v3] ∧ (Fit c.kind ∧ Fit c.rel ∧ Fit c.const) ∧ Slc rNum 1 w v1 c.vars ∧ Slc rNum 1 w v2 c.coefs ∧ Slc rNum 1 w v3 c.nums
def rBlock : Reader PBlock := fun w cs b => ∃ v1 v2 : Value, cs = [.bool b.all, v1, v2] ∧ Slc rDecl 2 w v1 b.vars ∧ Slc rCon 6 w v2 b.cons
def rModel : Reader PModel := fun w cs m => ∃ v1 v2 : Value, cs = [v1, v2] ∧ Slc rBlock 3 w v1 m.blocks ∧ Slc rCon 6 w v2 m.goal

theorem rNum_stays : rNum.Stays := fun _ _ _ _ _ h => h
theorem rSpan_stays : rSpan.Stays := fun _ _ _ _ _ h => h
theorem rDecl_stays : rDecl.Stays := fun _ _ _ _ hB ⟨s, v, h1, h2, h3⟩ => ⟨s, v, h1, h2, h3.below rSpan_stays hB⟩
theorem rCon_stays : rCon.Stays := fun _ _ _ _ hB ⟨v1, v2, v3, h1, h2, h3, h4, h5⟩ => ⟨v1, v2, v3, h1, h2, h3.below rNum_stays hB, h4.below rNum_stays hB, h5.below rNum_stays hB⟩
theorem rBlock_stays : rBlock.Stays := fun _ _ _ _ hB ⟨v1, v2, h1, h2, h3⟩ => ⟨v1, v2, h1, h2.below rDecl_stays hB, h3.below rCon_stays hB⟩
theorem rModel_stays : rModel.Stays := fun _ _ _ _ hB ⟨v1, v2, h1, h2, h3⟩ => ⟨v1, v2, h1, h2.below rBlock_stays hB, h3.below rCon_stays hB⟩

section
variable {H : Type} {enc : TypeId × Value → H} {W : World} {base : Nat} {held : Bool}

theorem fit_of {n : Int} (h : (Lit.int .i64 n).wf = true) : Fit n := by
  simpa [Fit, Lit.wf, IntKind.min, IntKind.max, IntKind.signed, IntKind.bits] using h
set_option maxRecDepth 100000 in
theorem num_fits : Fits enc Tryz.prog W base held 3 rNum := fun fuel cs x h => by
  obtain ⟨n, rfl, _, hw⟩ := DataW.trod_int Tryz.underlying3 h
  exact ⟨n, rfl, fit_of hw⟩
set_option maxRecDepth 100000 in
theorem nums_fit {fuel : Nat} {cs : List Value} {x : DataW H × List MemPlace} (h : DataW.trod enc Tryz.prog W base (fun _ => true) held fuel 36 cs = some x) : ∃ v L, cs = [v] ∧ Slc rNum 1 W v L :=
  slc_cells Tryz.underlying36 (by kernel_rfl) (by decide) num_fits h
set_option maxRecDepth 100000 in
theorem span_fits : Fits enc Tryz.prog W base held 71 rSpan := fun fuel cs x h => by
  obtain ⟨xs, n, _, _, hl, hx, hf⟩ := DataW.trod_struct Tryz.underlying71 h
  have hl : cs.length = 2 := hl.trans (by kernel_rfl)
  have c3 : Tryz.prog.cellsOf 3 = 1 := by kernel_rfl
  match cs, hl, xs, hx with
  | [u, v], _, [y0, y1], _ =>
    have g0 := hf 0 _ rfl
    have g1 := hf 1 _ rfl
    simp [c3] at g0 g1
    obtain ⟨a, e0, _, w0⟩ := DataW.trod_int Tryz.underlying3 g0
    obtain ⟨b, e1, _, w1⟩ := DataW.trod_int Tryz.underlying3 g1
    obtain rfl : u = _ := by simpa using e0
    obtain rfl : v = _ := by simpa using e1
    exact ⟨(a, b), rfl, fit_of w0, fit_of w1⟩
set_option maxRecDepth 100000 in
theorem decl_fits : Fits enc Tryz.prog W base held 45 rDecl := fun fuel cs x h => by
  obtain ⟨xs, n, _, _, hl, hx, hf⟩ := DataW.trod_struct Tryz.underlying45 h
  have hl : cs.length = 2 := hl.trans (by kernel_rfl)
  have c9 : Tryz.prog.cellsOf 9 = 1 := by kernel_rfl
  have c46 : Tryz.prog.cellsOf 43 = 1 := by kernel_rfl
  match cs, hl, xs, hx with
  | [u, v], _, [y0, y1], _ =>
    have g0 := hf 0 _ rfl
    have g1 := hf 1 _ rfl
    simp [c9, c46] at g0 g1
    obtain ⟨s, e0, _⟩ := DataW.trod_string Tryz.underlying9 g0
    obtain ⟨v', L, e1, hL⟩ := slc_cells (R := rSpan) (n := 2) Tryz.underlying43 (by kernel_rfl) (by decide) span_fits g1
    obtain rfl : u = _ := by simpa using e0
    obtain rfl : v = _ := by simpa using e1
    exact ⟨⟨s.data.toList, L⟩, s, _, rfl, rfl, hL⟩
set_option maxRecDepth 100000 in
theorem con_fits : Fits enc Tryz.prog W base held 38 rCon := fun fuel cs x h => by
  obtain ⟨xs, n, _, _, hl, hx, hf⟩ := DataW.trod_struct Tryz.underlying38 h
  have hl : cs.length = 6 := hl.trans (by kernel_rfl)
  have c3 : Tryz.prog.cellsOf 3 = 1 := by kernel_rfl
  have c26 : Tryz.prog.cellsOf 36 = 1 := by kernel_rfl
  match cs, hl, xs, hx with
  | [u0, u1, u2, u3, u4, u5], _, [y0, y1, y2, y3, y4, y5], _ =>
    have g0 := hf 0 _ rfl
    have g1 := hf 1 _ rfl
    have g2 := hf 2 _ rfl
    have g3 := hf 3 _ rfl
    have g4 := hf 4 _ rfl
    have g5 := hf 5 _ rfl
    simp [c3, c26] at g0 g1 g2 g3 g4 g5
    obtain ⟨a, e0, _, w0⟩ := DataW.trod_int Tryz.underlying3 g0
    obtain ⟨v1, L1, e1, h1⟩ := nums_fit g1
    obtain ⟨v2, L2, e2, h2⟩ := nums_fit g2
    obtain ⟨r, e3, _, w3⟩ := DataW.trod_int Tryz.underlying3 g3
    obtain ⟨k, e4, _, w4⟩ := DataW.trod_int Tryz.underlying3 g4
    obtain ⟨v5, L5, e5, h5⟩ := nums_fit g5
    obtain rfl : u0 = _ := by simpa using e0
    obtain rfl : u1 = _ := by simpa using e1
    obtain rfl : u2 = _ := by simpa using e2
    obtain rfl : u3 = _ := by simpa using e3
    obtain rfl : u4 = _ := by simpa using e4
    obtain rfl : u5 = _ := by simpa using e5
    exact ⟨⟨a, L1, L2, r, k, L5⟩, _, _, _, rfl, ⟨fit_of w0, fit_of w3, fit_of w4⟩, h1, h2, h5⟩
set_option maxRecDepth 100000 in
theorem decls_fit {fuel : Nat} {cs : List Value} {x : DataW H × List MemPlace} (h : DataW.trod enc Tryz.prog W base (fun _ => true) held fuel 40 cs = some x) : ∃ v L, cs = [v] ∧ Slc rDecl 2 W v L :=
  slc_cells Tryz.underlying40 (by kernel_rfl) (by decide) decl_fits h
set_option maxRecDepth 100000 in
theorem cons_fit {fuel : Nat} {cs : List Value} {x : DataW H × List MemPlace} (h : DataW.trod enc Tryz.prog W base (fun _ => true) held fuel 23 cs = some x) : ∃ v L, cs = [v] ∧ Slc rCon 6 W v L :=
  slc_cells Tryz.underlying23 (by kernel_rfl) (by decide) con_fits h
set_option maxRecDepth 100000 in
theorem block_fits : Fits enc Tryz.prog W base held 42 rBlock := fun fuel cs x h => by
  obtain ⟨xs, n, _, _, hl, hx, hf⟩ := DataW.trod_struct Tryz.underlying42 h
  have hl : cs.length = 3 := hl.trans (by kernel_rfl)
  have c4 : Tryz.prog.cellsOf 4 = 1 := by kernel_rfl
  have c37 : Tryz.prog.cellsOf 40 = 1 := by kernel_rfl
  have c23 : Tryz.prog.cellsOf 23 = 1 := by kernel_rfl
  match cs, hl, xs, hx with
  | [u0, u1, u2], _, [y0, y1, y2], _ =>
    have g0 := hf 0 _ rfl
    have g1 := hf 1 _ rfl
    have g2 := hf 2 _ rfl
    simp [c4, c37, c23] at g0 g1 g2
    obtain ⟨a, e0, _⟩ := DataW.trod_bool Tryz.underlying4 g0
    obtain ⟨v1, L1, e1, h1⟩ := decls_fit g1
    obtain ⟨v2, L2, e2, h2⟩ := cons_fit g2
    obtain rfl : u0 = _ := by simpa using e0
    obtain rfl : u1 = _ := by simpa using e1
    obtain rfl : u2 = _ := by simpa using e2
    exact ⟨⟨a, L1, L2⟩, _, _, rfl, h1, h2⟩
set_option maxRecDepth 100000 in
theorem blocks_fit {fuel : Nat} {cs : List Value} {x : DataW H × List MemPlace} (h : DataW.trod enc Tryz.prog W base (fun _ => true) held fuel 22 cs = some x) : ∃ v L, cs = [v] ∧ Slc rBlock 3 W v L :=
  slc_cells Tryz.underlying22 (by kernel_rfl) (by decide) block_fits h
set_option maxRecDepth 100000 in
theorem model_fits : Fits enc Tryz.prog W base held 25 rModel := fun fuel cs x h => by
  obtain ⟨xs, n, _, _, hl, hx, hf⟩ := DataW.trod_struct Tryz.underlying25 h
  have hl : cs.length = 2 := hl.trans (by kernel_rfl)
  have c22 : Tryz.prog.cellsOf 22 = 1 := by kernel_rfl
  have c23 : Tryz.prog.cellsOf 23 = 1 := by kernel_rfl
  match cs, hl, xs, hx with
  | [u0, u1], _, [y0, y1], _ =>
    have g0 := hf 0 _ rfl
    have g1 := hf 1 _ rfl
    simp [c22, c23] at g0 g1
    obtain ⟨v0, L0, e0, h0⟩ := blocks_fit g0
    obtain ⟨v1, L1, e1, h1⟩ := cons_fit g1
    obtain rfl : u0 = _ := by simpa using e0
    obtain rfl : u1 = _ := by simpa using e1
    exact ⟨⟨L0, L1⟩, _, _, rfl, h0, h1⟩

/-- a model that came in -/
theorem openedM {v : Value} {d : DataW H} {ps : List MemPlace} (h : DataW.Trod enc Tryz.prog W 0 (fun _ => true) true 25 v d ps) : ∃ m, rModel W v.cells.toList m := by
  obtain ⟨fuel, hf⟩ := h
  exact model_fits _ _ _ hf
/-- a constraint that came in -/
theorem openedC {v : Value} {d : DataW H} {ps : List MemPlace} (h : DataW.Trod enc Tryz.prog W 0 (fun _ => true) true 38 v d ps) : ∃ c, rCon W v.cells.toList c := by
  obtain ⟨fuel, hf⟩ := h
  exact con_fits _ _ _ hf
end
end Go.Proofs.YtkgieaoahijheaaGreatDoor
namespace Go.Proofs.YtkgieaoahijheaaGreatDoor
open Go.RowKit
set_option maxRecDepth 100000

theorem ret_bool {a b : Bool} (h : a = b) : Ending.returned (.bool a) = .returned (.bool b) := by rw [h]
theorem drewN_on {w wr : World} {m : Nat} (h : ∃ n, wr = w.drewN n) : ∃ n, wr.drewN m = w.drewN n := by
  obtain ⟨n, rfl⟩ := h
  exact ⟨n + m, by rw [World.drewN_drewN]⟩

/-- numbers in memory, place by place -/
structure Nums (w : World) (p : Option Addr) (b off len : Nat) (xs : List Int) : Prop where
  long : len = xs.length
  at_ : 0 < len → p = some ⟨b, off, none⟩
  cell : ∀ k, k < len → w.cell? ⟨b, off + k, none⟩ = some (.int .i64 (xs.getD k 0))
  fit : ∀ k, k < len → Fit (xs.getD k 0)
theorem nums_of {w : World} {p : Option Addr} {b off len : Nat} {xs : List Int} (h : SliceOf rNum 1 w p b off len xs) : Nums w p b off len xs := by
  have hk : ∀ k, k < len → w.cell? ⟨b, off + k, none⟩ = some (.int .i64 (xs.getD k 0)) ∧ Fit (xs.getD k 0) := fun k hk => by
    have hx : k < xs.length := by rw [← h.long]; exact hk
    have e : xs[k]? = some (xs.getD k 0) := by simp [hx]
    obtain ⟨cs, h1, h2, h3, h4⟩ := h.cell k _ e
    subst h3
    have := h2 0 (by omega)
    rw [Nat.mul_one, Nat.add_zero] at this
    exact ⟨this, h4⟩
  exact ⟨h.long, h.at_, fun k q => (hk k q).1, fun k q => (hk k q).2⟩
theorem Nums.drewN {w : World} {p : Option Addr} {b off len : Nat} {xs : List Int} (h : Nums w p b off len xs) (n : Nat) : Nums (w.drewN n) p b off len xs := ⟨h.long, h.at_, h.cell, h.fit⟩

def allN (xs : List Int) (m : Int) : Bool := xs.all fun x => decide (-m ≤ x) && decide (x ≤ m)
theorem all_not {xs : List Int} {m x : Int} {k : Nat} (h : k < xs.length) (e : x = xs.getD k 0) (hx : x < -m ∨ m < x) : allN xs m = false := by
  cases q : allN xs m
  · rfl
  · have := List.all_eq_true.1 q (xs.getD k 0) (by rw [List.getD_eq_getElem?_getD, List.getElem?_eq_getElem h]; exact List.getElem_mem h)
    rw [← e] at this
    simp at this
    omega
theorem all_end {xs : List Int} {m : Int} (h : ∀ j, j < xs.length → -m ≤ xs.getD j 0 ∧ xs.getD j 0 ≤ m) : allN xs m = true := by
  refine List.all_eq_true.2 fun x hx => ?_
  obtain ⟨j, hj, e⟩ := List.getElem_of_mem hx
  have := h j hj
  simp [hj, e] at this
  simp; omega

set_option maxHeartbeats 400000 in
theorem nsame_cells (p q : Option Addr) (b off c b' off' c' len len' : Nat) (xs ys : List Int) (w : World) (hx : Nums w p b off len xs) (hy : Nums w q b' off' len' ys) (hm : len ≤ 1000000) (hm' : len' ≤ 1000000) :
    Calls Tryz.prog 37 #[.slice p len c, .slice q len' c'] w fun e w' => e = .returned (.bool (decide (xs = ys))) ∧ ∃ n, w' = w.drewN n := by
  have HX := Lib.hid hx
  have HY := Lib.hid hy
  have hp := hx.at_
  have hq := hy.at_
  by_cases he : len = len'
  · subst he
    obtain ⟨R, hR⟩ : ∃ R, R = decide (xs = ys) := ⟨_, rfl⟩
    rw [← hR]
    have HR := Lib.hid hR
    have HS := Lib.hid (show ∀ j, j < 0 → xs.getD j 0 = ys.getD j 0 from fun j h => by omega)
    clear hx hy hR
    go_enter Tryz.func37, Tryz.ntmps37
    go_wp2
    go_loopw [5] (fun i wr => (∃ k : Nat, k ≤ len ∧ i = .int .i64 k ∧ ∀ j, j < k → xs.getD j 0 = ys.getD j 0) ∧ ∃ n, wr = w.drewN n) (fun i _ => len - (intOf i).toNat)
    case atStart => exact ⟨⟨0, by omega, rfl, HS.out⟩, 0, rfl⟩
    case round =>
      obtain ⟨⟨k, hk, rfl, hrel⟩, hw⟩ := hrel
      have HW := Lib.hid hw
      have HE := Lib.hid hrel
      clear hw hrel
      by_cases hlt : k < len
      · obtain rfl := hp (by omega)
        obtain rfl := hq (by omega)
        have cx : wr.cell? ⟨b, off + k, none⟩ = some (.int .i64 (xs.getD k 0)) := by obtain ⟨n, rfl⟩ := HW.out; exact HX.out.cell k hlt
        have cy : wr.cell? ⟨b', off' + k, none⟩ = some (.int .i64 (ys.getD k 0)) := by obtain ⟨n, rfl⟩ := HW.out; exact HY.out.cell k hlt
        obtain ⟨x, ex⟩ : ∃ x, x = xs.getD k 0 := ⟨_, rfl⟩
        obtain ⟨y, ey⟩ : ∃ y, y = ys.getD k 0 := ⟨_, rfl⟩
        rw [← ex] at cx
        rw [← ey] at cy
        by_cases hxy : x = y
        · subst hxy
          have EK := Lib.hid (show ∀ j, j < k + 1 → xs.getD j 0 = ys.getD j 0 from fun j hj => by
            by_cases h : j < k
            · exact HE.out j h
            · obtain rfl : j = k := by omega
              rw [← ex, ← ey])
          clear ex ey
          go_wp2
          go_quiet (fail)
          go_wp2_with fail
          go_roundw
          case rel => exact ⟨⟨k + 1, by omega, by go_num, EK.out⟩, drewN_on HW.out⟩
          case measure => simp [intOf]; omega
        · have hxy2 : (x == y) = false := beq_eq_false_iff_ne.2 hxy
          have key : R = false := by
            rw [HR.out]
            refine decide_eq_false fun h => hxy ?_
            rw [ex, ey, h]
          subst key
          clear ex ey
          go_wp2
          go_quiet (fail)
          go_wp2_with fail
          go_ret
          exact ⟨rfl, drewN_on HW.out⟩
      · have key : R = true := by
          rw [HR.out]
          refine decide_eq_true (List.ext_getElem (by rw [← HX.out.long, ← HY.out.long]) fun j h1 h2 => ?_)
          have := HE.out j (by have := HX.out.long; omega)
          simpa [h1, h2] using this
        subst key
        go_wp2
        go_ret
        exact ⟨rfl, HW.out⟩
  · have key : decide (xs = ys) = false := decide_eq_false fun h => he (by rw [hx.long, hy.long, h])
    rw [key]
    have he2 : ((len : Int) == (len' : Int)) = false := beq_eq_false_iff_ne.2 (by omega)
    clear hx hy key hp hq
    go_enter Tryz.func37, Tryz.ntmps37
    go_wp2_with fail
    go_ret
    exact ⟨rfl, 0, rfl⟩
theorem nsame_any {w : World} {u v : Value} {xs ys : List Int} (hx : Slc rNum 1 w u xs) (hy : Slc rNum 1 w v ys) (hm : xs.length ≤ 1000000) (hm' : ys.length ≤ 1000000) :
    Calls Tryz.prog 37 #[u, v] w fun e w' => e = .returned (.bool (decide (xs = ys))) ∧ ∃ n, w' = w.drewN n := by
  obtain ⟨p, b, off, c, len, rfl, _, hs⟩ := hx
  obtain ⟨q, b', off', c', len', rfl, _, ht⟩ := hy
  exact nsame_cells p q b off c b' off' c' len len' xs ys w (nums_of hs) (nums_of ht) (by rw [hs.long]; exact hm) (by rw [ht.long]; exact hm')
end Go.Proofs.YtkgieaoahijheaaGreatDoor
namespace Go.Proofs.YtkgieaoahijheaaGreatDoor
open Go.RowKit
set_option maxRecDepth 100000

/-- the model value is that of m, its lists no longer than some -/
structure Mod (w : World) (pb : Option Addr) (bb ob cb lb : Nat) (gv : Value) (m : PModel) : Prop where
  blocks : SliceOf rBlock 3 w pb bb ob lb m.blocks
  goal : Slc rCon 6 w gv m.goal
theorem mod_of {w : World} {bv gv : Value} {m : PModel} (h : rModel w [bv, gv] m) : ∃ (pb : Option Addr) (bb ob cb lb : Nat), bv = .slice pb lb cb ∧ Mod w pb bb ob cb lb gv m := by
  obtain ⟨v1, v2, h1, ⟨p, b, off, c, len, h2, _, h3⟩, h4⟩ := h
  simp only [List.cons.injEq, and_true] at h1
  obtain ⟨rfl, rfl⟩ := h1
  exact ⟨p, b, off, c, len, h2, h3, h4⟩
theorem Mod.below {w w' : World} {pb : Option Addr} {bb ob cb lb : Nat} {gv : Value} {m : PModel} (h : Mod w pb bb ob cb lb gv m) (hB : Below w.heap.size w w') : Mod w' pb bb ob cb lb gv m :=
  ⟨h.blocks.below rBlock_stays hB, h.goal.below rCon_stays hB⟩

/-- block number k of a model in memory -/
theorem block_at {w : World} {p : Option Addr} {b off len : Nat} {L : List PBlock} (h : SliceOf rBlock 3 w p b off len L) {k : Nat} (hk : k < len) :
    ∃ (x : PBlock) (v1 v2 : Value), L[k]? = some x ∧ L.drop k = x :: L.drop (k + 1) ∧ w.cell? ⟨b, off + k * 3, none⟩ = some (.bool x.all) ∧ w.cell? ⟨b, off + k * 3 + 1, none⟩ = some v1 ∧ w.cell? ⟨b, off + k * 3 + 2, none⟩ = some v2 ∧ Slc rDecl 2 w v1 x.vars ∧ Slc rCon 6 w v2 x.cons := by
  have hx : k < L.length := by rw [← h.long]; exact hk
  have e : L[k]? = some L[k] := List.getElem?_eq_getElem hx
  obtain ⟨cs, h1, h2, v1, v2, h3, h4, h5⟩ := h.cell k _ e
  subst h3
  exact ⟨L[k], v1, v2, e, List.drop_eq_getElem_cons hx, h2 0 (by omega), h2 1 (by omega), h2 2 (by omega), h4, h5⟩

/-- the numbers own memory from base on -/
def OwnsI (w : World) (base : Nat) (v : Value) (xs : List Int) : Prop := w.ownsRow base 3 1 v xs.length (xs.map (Value.int .i64))
theorem ints_shape {w : World} {base : Nat} {v : Value} {xs : List Int} (h : OwnsI w base v xs) : ∃ (p : Option Addr) (cap : Nat), v = .slice p xs.length cap := by
  rcases h.2 with ⟨rfl, h1⟩ | ⟨g, cap, cur, rfl, hb, hg, hn, hc, hs, ht⟩
  · exact ⟨none, 0, by rw [h1]⟩
  · exact ⟨_, cap, rfl⟩
theorem owns_low {w : World} {base low : Nat} {e : TypeId} {size n : Nat} {v : Value} {xs : List Value} (h : w.ownsRow base e size v n xs) (hl : low ≤ base) : w.ownsRow low e size v n xs := by
  refine ⟨h.1, ?_⟩
  rcases h.2 with h1 | ⟨g, cap, cur, h1, h2, h3⟩
  · exact .inl h1
  · exact .inr ⟨g, cap, cur, h1, by omega, h3⟩
theorem owns_below {w wr : World} {base : Nat} {e : TypeId} {size n : Nat} {v : Value} {xs : List Value} (h : w.ownsRow base e size v n xs) (hb : Below w.heap.size w wr) : wr.ownsRow base e size v n xs := by
  refine ⟨h.1, ?_⟩
  rcases h.2 with h1 | ⟨g, cap, cur, h1, h2, h3, h4⟩
  · exact .inl h1
  · exact .inr ⟨g, cap, cur, h1, h2, (hb.block g (Array.getElem?_eq_some_iff.1 h3).1).trans h3, h4⟩
theorem info3 : (Tryz.prog.info? 3).map (fun i => (i.zero, i.size, i.bytes)) = some (some (.int .i64 0), 1, 8) := by kernel_rfl
theorem cells_one (w : World) (u : Value) (t : TypeId) : ∀ j v, [u][j]? = some v → (w.alloc (.cells #[u] t)).cell? ((⟨w.heap.size, 0, none⟩ : Addr).add j) = some v := cell_one_new w u t

/-- of each block, how many variables stand up to its end -/
def endsF (n : Nat) : List PBlock → List Int
  | [] => []
  | x :: r => ((n + x.vars.length : Nat) : Int) :: endsF (n + x.vars.length) r
def varsL (bs : List PBlock) : List PDecl := bs.flatMap (·.vars)
theorem ends_length : ∀ (bs : List PBlock) (n : Nat), (endsF n bs).length = bs.length
  | [], _ => rfl
  | x :: r, n => by rw [endsF, List.length_cons, ends_length r, List.length_cons]
/-- how far Ends has come -/
def EndsRel (bs : List PBlock) (k n : Nat) (xs : List Int) : Prop := endsF 0 bs = xs ++ endsF n (bs.drop k) ∧ xs.length = k ∧ n ≤ k * 1000
theorem ends_start (bs : List PBlock) : EndsRel bs 0 0 [] := ⟨by simp, rfl, by omega⟩
theorem ends_next {bs : List PBlock} {k n : Nat} {xs : List Int} {x : PBlock} (h : EndsRel bs k n xs) (e : bs.drop k = x :: bs.drop (k + 1)) (hx : x.vars.length ≤ 1000) : EndsRel bs (k + 1) (n + x.vars.length) (xs ++ [((n + x.vars.length : Nat) : Int)]) := by
  obtain ⟨h1, h2, h3⟩ := h
  refine ⟨?_, by simp [h2], by omega⟩
  rw [h1, e, endsF]
  simp

end Go.Proofs.YtkgieaoahijheaaGreatDoor
