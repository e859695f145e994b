/-
  Rows of names and of numbers that the program's parser takes.
  What a constraint takes in, way by way; a row that a constraint is given.
  A constraint that the program's parser takes (product).
-/
import Derived.Test.YtkgieaoahijheaaGreatDoorZYAY
namespace Go.Proofs.YtkgieaoahijheaaGreatDoor.Pp
open Go.RowKit
open Sc (Tok Cells str noTok)
open Pa
set_option maxRecDepth 100000

section
variable {w0 w w' : World} {F : Nat → Prop} {g n bl ol cl nb : Nat} {pv : Option Addr} {m cv : Nat} {T : List Tok} {len : Nat} {base : Nat} {r r' : Rd} {v v' : Value} {L : List Int} {z : Int}
theorem owns_but {α : Type} {R : List Value → α → Prop} {k e : Nat} {M : List α} (h : OwnsP R k e base w v M) (hM : But (fun i => i = g) w w') (hg : ∃ cs, w.heap[g]? = some (.cells cs 66)) (he : e ≠ 66) : OwnsP R k e base w' v M :=
  h.same fun _ hi => stays_but hM hg he (h.kind hi)
/-- a row of numbers at hand -/
structure LAt (w0 w : World) (g n bl ol cl nb : Nat) (pv : Option Addr) (m cv : Nat) (T : List Tok) (len : Nat) (v : Value) (L : List Int) (r : Rd) : Prop where
  rd : PAt w g n bl ol cl nb pv m cv T len r
  own : OwnsP numP 1 3 w0.heap.size w v L
  but : But (fun i => i = g) w0 w
theorem LAt.moved (h : LAt w0 w g n bl ol cl nb pv m cv T len v L r) (hR : PAt w' g n bl ol cl nb pv m cv T len r') (hM : But (fun i => i = g) w w') : LAt w0 w' g n bl ol cl nb pv m cv T len v L r' :=
  ⟨hR, owns_but h.own hM h.rd.ty (by decide), h.but.trans hM (fun _ _ e => e)⟩
theorem LAt.below (h : LAt w0 w g n bl ol cl nb pv m cv T len v L r) (hB : Below w.heap.size w w') : LAt w0 w' g n bl ol cl nb pv m cv T len v L r :=
  ⟨h.rd.below hB, h.own.below hB, h.but.trans (G := fun _ => False) (But.below hB) (fun _ _ e => e.elim)⟩
theorem LAt.put (h : LAt w0 w g n bl ol cl nb pv m cv T len v L r) (P : PutN w w' w0.heap.size w.heap.size v v' L z) : LAt w0 w' g n bl ol cl nb pv m cv T len v' (L ++ [z]) r :=
  ⟨h.rd.row (fun _ hk => h.own.kind hk) P.grown (by decide) (by decide) (by decide), P.own, h.but.trans (G := fun i => v.ownBlock = some i) (But.grown P.grown fun k e _ => e) (fun i hi e => absurd (h.own.lt i e).1 (by omega))⟩
theorem lat_nil (h : PAt w g n bl ol cl nb pv m cv T len r) : LAt w w g n bl ol cl nb pv m cv T len (.slice none 0 0) [] r := ⟨h, ownsP_nil _ _ _ _ _, But.refl _ _⟩
/-- a row is handed back -/
def Row (w : World) (L : List Int) (w' : World) (e : Ending) : Prop := ∃ (p : Option Addr) (c : Nat), e = .returned (.slice p L.length c) ∧ OwnsP numP 1 3 w.heap.size w' (.slice p L.length c) L
theorem vars_eq (j : Nat) (l : List Int) (T : List Tok) (r : Rd) : varsQ (j + 1) l T r = varsQ j (l ++ [(varF r (next T r)).1]) T (varF r (next T r)).2 := rfl
set_option maxHeartbeats 4000000 in
theorem vars_any (k : Nat) (hk : k ≤ 10) (h : PAt w g n bl ol cl nb pv m cv T len r) (hm : m ≤ 1000000) :
    Calls Tryz.prog 98 #[.pointer (some ⟨g, 0, none⟩), .int .i64 (k : Int)] w (Ends w (fun i => i = g) g n bl ol cl nb pv m cv T len (varsQ k [] T r) (Row w (varsQ k [] T r).1)) := by
  have H := Lib.hid (lat_nil h)
  obtain ⟨X, hX⟩ : ∃ X, X = varsQ k [] T r := ⟨_, rfl⟩
  rw [← hX]
  have HX := Lib.hid hX
  clear h hX
  go_enter Tryz.func98, Tryz.ntmps98
  go_wp2_with fail
  go_loopw [5, 7] (fun vs vi wr => ∃ (i : Nat) (l : List Int) (rr : Rd) (p : Option Addr) (c : Nat), vs = .slice p l.length c ∧ vi = .int .i64 (i : Int) ∧ i ≤ k ∧ l.length = i ∧ X = varsQ (k - i) l T rr ∧ LAt w wr g n bl ol cl nb pv m cv T len (.slice p l.length c) l rr) (fun _ vi _ => k - (intOf vi).toNat)
  case atStart => exact ⟨0, [], r, none, 0, rfl, rfl, by omega, rfl, HX.out, H.out⟩
  case round =>
    obtain ⟨i, l, rr, p, c, rfl, rfl, hik, hli, hXr, hla⟩ := hrel
    have HL := Lib.hid hla
    by_cases hlt : i < k
    · obtain ⟨j, hj⟩ : ∃ j, k - i = j + 1 := ⟨k - i - 1, by omega⟩
      have hj2 : k - (i + 1) = j := by omega
      rw [hj, vars_eq] at hXr
      have VX := Lib.hid (var_any hla.rd hm)
      have hzf := varF_few (r := rr) (o := next T rr) (by rw [← (nm_of_owns hla.rd.nm).1]; exact hm)
      obtain ⟨x, hx⟩ : ∃ x, x = varF rr (next T rr) := ⟨_, rfl⟩
      rw [← hx] at VX hXr hzf
      obtain ⟨z, r2⟩ := x
      have HZF := Lib.hid hzf
      have HXR := Lib.hid hXr
      have HLI := Lib.hid hli
      have hl6 : l.length ≤ 100000 := by omega
      have hiki : (i : Int) < (k : Int) := by omega
      clear hx hzf hXr hla hli hj
      go_wp2_with fail
      refine VX.out.mono ?_
      rintro e w2 ⟨hB, ⟨hw, hP, rfl⟩ | ⟨hw, rfl⟩⟩
      · have HL2 := Lib.hid (show LAt w w2 g n bl ol cl nb pv m cv T len (.slice p l.length c) l r2 from HL.out.moved hP hB)
        have HL3 := Lib.hid (HL2.out.below ((Below.refl _ w2).alloc (Nat.le_refl _) (.cells #[.int .i64 z] 3)))
        have HCN := Lib.hid (show (w2.alloc (.cells #[.int .i64 z] 3)).cell? ⟨w2.heap.size, 0, none⟩ = some (.int .i64 z) by go_simp)
        have HS := Lib.hid (show w.heap.size ≤ (w2.alloc (.cells #[.int .i64 z] 3)).heap.size from HL3.out.but.size)
        clear hB hw hP
        go_wp2_with (at_builtin; refine put_list rfl _ _ rfl rfl rfl HL3.out.own HCN.out HZF.out hl6 HS.out rfl ?_; intro p' cap w5 hP; have HL5 := Lib.hid (HL3.out.put hP); clear hP)
        go_roundw
        case rel => exact ⟨i + 1, l ++ [z], r2, p', cap, by simp, by go_num, by omega, by simp [HLI.out], by rw [hj2]; exact HXR.out, by rw [List.length_append]; exact HL5.out⟩
        case measure => simp [intOf]; omega
      · have HG := Lib.hid (ends_no (T := T) (len := len) (n := n) (bl := bl) (ol := ol) (cl := cl) (base := nb) (pv := pv) (m := m) (cv := cv) (g := g) (x := X) (V := Row w X.1) (HL.out.but.trans hB (fun i _ e => e)) ((tame_vars j (l ++ [z])).after HXR.out hw).1)
        rw [((tame_vars j (l ++ [z])).after HXR.out hw).2] at HG
        unfold gone at HG ⊢
        clear hw hB
        go_wp2_with fail
        exact ⟨rfl, HG.out⟩
    · have hge : k ≤ i := by omega
      have hgi : (k : Int) ≤ (i : Int) := by omega
      have hX0 : X = (l, rr) := by
        rw [show k - i = 0 by omega] at hXr
        exact hXr
      have HX0 := Lib.hid hX0
      clear hXr hX0 hla
      go_wp2_with fail
      go_ret
      exact ⟨HL.out.but, .inl ⟨by rw [HX0.out]; exact HL.out.rd.ok, by rw [HX0.out]; exact HL.out.rd, p, c, by rw [HX0.out]; rfl, by rw [HX0.out]; exact HL.out.own⟩⟩
theorem more_eq (j : Nat) (l : List Int) (T : List Tok) (r : Rd) : moreQ (j + 1) l T r = if namedO (next T r) = true then moreQ j (l ++ [(varF r (next T r)).1]) T (varF r (next T r)).2 else (l, r) := by
  show (if namedO (next T r) = true then seq (Pa.look varF) fun x => moreQ j (l ++ [x]) else ret l) T r = _
  rw [if_app]
  rfl
theorem vars_size : ∀ (k : Nat) (l : List Int) (T : List Tok) (r : Rd), (varsQ k l T r).1.length = l.length + k
  | 0, _, _, _ => rfl
  | k + 1, l, T, r => by
    rw [vars_eq, vars_size k]
    simp
    omega
set_option maxHeartbeats 4000000 in
theorem from_any (K k : Nat) (hk : k ≤ 10) (h : PAt w g n bl ol cl nb pv m cv T len r) (hm : m ≤ 1000000) (hK : n < K) (hn : n ≤ 10000) :
    Calls Tryz.prog 101 #[.pointer (some ⟨g, 0, none⟩), .int .i64 (k : Int)] w (Ends w (fun i => i = g) g n bl ol cl nb pv m cv T len (fromQ K k T r) (Row w (fromQ K k T r).1)) := by
  have VS := Lib.hid (vars_any k hk h hm)
  obtain ⟨X, hX⟩ : ∃ X, X = fromQ K k T r := ⟨_, rfl⟩
  rw [← hX]
  rw [show fromQ K k T r = moreQ K (varsQ k [] T r).1 T (varsQ k [] T r).2 from rfl] at hX
  have hsz := vars_size k [] T r
  obtain ⟨y, hy⟩ : ∃ y, y = varsQ k [] T r := ⟨_, rfl⟩
  rw [← hy] at VS hX hsz
  obtain ⟨l0, r0⟩ := y
  have HX := Lib.hid hX
  have HSZ := Lib.hid hsz
  have HTY := Lib.hid h.ty
  clear hX hy h hsz
  go_enter Tryz.func101, Tryz.ntmps101
  go_wp2_with fail
  refine VS.out.mono ?_
  rintro e w1 ⟨hB, ⟨hw, hP, p0, c0, rfl, ho⟩ | ⟨hw, rfl⟩⟩
  rotate_left
  · have HG := Lib.hid (ends_no (T := T) (len := len) (n := n) (bl := bl) (ol := ol) (cl := cl) (base := nb) (pv := pv) (m := m) (cv := cv) (g := g) (x := X) (V := Row w X.1) hB ((tame_more K l0).after HX.out hw).1)
    rw [((tame_more K l0).after HX.out hw).2] at HG
    unfold gone at HG ⊢
    clear hw hB
    go_wp2_with fail
    exact ⟨rfl, HG.out⟩
  have HL0 := Lib.hid (show LAt w w1 g n bl ol cl nb pv m cv T len (.slice p0 l0.length c0) l0 r0 from ⟨hP, ho, hB⟩)
  clear hB hw hP ho
  go_wp2_with fail
  go_loopw [5] (fun vs wr => ∃ (j : Nat) (l : List Int) (rr : Rd) (p : Option Addr) (c : Nat), vs = .slice p l.length c ∧ n < j + rr.at_ ∧ l.length ≤ 20 + rr.at_ ∧ X = moreQ j l T rr ∧ LAt w wr g n bl ol cl nb pv m cv T len (.slice p l.length c) l rr) (fun _ wr => n - tookOf wr g)
  case atStart => exact ⟨K, l0, r0, p0, c0, rfl, by omega, by have := HSZ.out; simp at this; omega, HX.out, HL0.out⟩
  case round =>
    obtain ⟨j, l, rr, p, c, rfl, hnj, hll, hXr, hla⟩ := hrel
    have HL := Lib.hid hla
    have htp := hla.rd.top
    have HTK := Lib.hid (took_at hla.rd)
    obtain ⟨j', rfl⟩ : ∃ j', j = j' + 1 := ⟨j - 1, by omega⟩
    rw [more_eq] at hXr
    have IN := Lib.hid (isname_any hla.rd)
    obtain ⟨b, hb⟩ : ∃ b, b = namedO (next T rr) := ⟨_, rfl⟩
    rw [← hb] at IN hXr
    have HXR := Lib.hid hXr
    clear hXr hla hb
    cases b
    · have hXr := HXR.out
      rw [if_neg (by simp)] at hXr
      have HX0 := Lib.hid hXr
      clear hXr
      go_wp2_with fail
      refine IN.out.mono ?_
      rintro e w2 ⟨rfl, hB⟩
      have HL2 := Lib.hid (HL.out.below hB)
      clear hB
      go_wp2_with fail
      go_ret
      exact ⟨HL2.out.but, .inl ⟨by rw [HX0.out]; exact HL2.out.rd.ok, by rw [HX0.out]; exact HL2.out.rd, p, c, by rw [HX0.out]; rfl, by rw [HX0.out]; exact HL2.out.own⟩⟩
    · have hXr := HXR.out
      rw [if_pos rfl] at hXr
      have hzf := varF_few (r := rr) (o := next T rr) (by rw [← (nm_of_owns HL.out.rd.nm).1]; exact hm)
      have hwent := varF_went rr (next T rr)
      obtain ⟨x, hx⟩ : ∃ x, x = varF rr (next T rr) := ⟨_, rfl⟩
      rw [← hx] at hXr hzf hwent
      obtain ⟨z, r2⟩ := x
      have HXI := Lib.hid hx
      have HZF := Lib.hid hzf
      have HX1 := Lib.hid hXr
      have HWE := Lib.hid hwent
      have hl6 : l.length ≤ 100000 := by omega
      clear hx hzf hXr hwent
      go_wp2_with fail
      refine IN.out.mono ?_
      rintro e w2 ⟨rfl, hB⟩
      have HL2 := Lib.hid (HL.out.below hB)
      have VX := Lib.hid (var_any HL2.out.rd hm)
      rw [← HXI.out] at VX
      clear hB
      go_wp2_with fail
      refine VX.out.mono ?_
      rintro e w3 ⟨hB, ⟨hw, hP, rfl⟩ | ⟨hw, rfl⟩⟩
      · have HL3 := Lib.hid (show LAt w w3 g n bl ol cl nb pv m cv T len (.slice p l.length c) l r2 from HL2.out.moved hP hB)
        have HL4 := Lib.hid (HL3.out.below ((Below.refl _ w3).alloc (Nat.le_refl _) (.cells #[.int .i64 z] 3)))
        have HCN := Lib.hid (show (w3.alloc (.cells #[.int .i64 z] 3)).cell? ⟨w3.heap.size, 0, none⟩ = some (.int .i64 z) by go_simp)
        have HS := Lib.hid (show w.heap.size ≤ (w3.alloc (.cells #[.int .i64 z] 3)).heap.size from HL4.out.but.size)
        have HON := Lib.hid (show rr.at_ < r2.at_ from HWE.out.on.resolve_left (by simp only at hw; rw [hw]; simp))
        clear hB hw hP
        go_wp2_with (at_builtin; refine put_list rfl _ _ rfl rfl rfl HL4.out.own HCN.out HZF.out hl6 HS.out rfl ?_; intro p' cap w5 hP; have HL5 := Lib.hid (HL4.out.put hP); clear hP)
        go_roundw
        case rel => exact ⟨j', l ++ [z], r2, p', cap, by simp, by have := HON.out; omega, by have := HON.out; simp only [List.length_append, List.length_cons, List.length_nil]; omega, HX1.out, by rw [List.length_append]; exact HL5.out⟩
        case measure =>
          have h1 := HON.out
          have h2 := HL5.out.rd.top
          rw [took_at HL5.out.rd, HTK.out]
          omega
      · have HG := Lib.hid (ends_no (T := T) (len := len) (n := n) (bl := bl) (ol := ol) (cl := cl) (base := nb) (pv := pv) (m := m) (cv := cv) (g := g) (x := X) (V := Row w X.1) (HL2.out.but.trans hB (fun i _ e => e)) ((tame_more j' (l ++ [z])).after HX1.out hw).1)
        rw [((tame_more j' (l ++ [z])).after HX1.out hw).2] at HG
        unfold gone at HG ⊢
        clear hw hB
        go_wp2_with fail
        exact ⟨rfl, HG.out⟩
theorem restN_eq (k j : Nat) (l : List Int) (T : List Tok) (r : Rd) : restN k (j + 1) l T r = if l.length < k then restN k j (l ++ [(number T r).1]) T (number T r).2 else if (hasF tShut r (next T r)).1 = true then (l, (hasF tShut r (next T r)).2) else restN k j (l ++ [(number T (hasF tShut r (next T r)).2).1]) T (number T (hasF tShut r (next T r)).2).2 := by
  show (if l.length < k then seq number fun x => restN k j (l ++ [x]) else seq (Pa.look (hasF tShut)) fun b => if b = true then ret l else seq number fun x => restN k j (l ++ [x])) T r = _
  rw [if_app]
  split
  · rfl
  · show (if (hasF tShut r (next T r)).1 = true then ret l else seq number fun x => restN k j (l ++ [x])) T (hasF tShut r (next T r)).2 = _
    rw [if_app]
    split <;> rfl
set_option maxHeartbeats 8000000 in
theorem nums_any (K k : Nat) (_ : k ≤ 10) (h : PAt w g n bl ol cl nb pv m cv T len r) (hv : ∀ t ∈ T, t.value ≤ 2000000000000) (hK : n < K) (hn : n ≤ 10000) :
    Calls Tryz.prog 100 #[.pointer (some ⟨g, 0, none⟩), .int .i64 (k : Int)] w (Ends w (fun i => i = g) g n bl ol cl nb pv m cv T len (numsQ K k T r) (Row w (numsQ K k T r).1)) := by
  have WX := Lib.hid (want_any ⟨#[91]⟩ (by decide) h)
  rw [show txt ⟨#[91]⟩ = tOpen from rfl] at WX
  obtain ⟨X, hX⟩ : ∃ X, X = numsQ K k T r := ⟨_, rfl⟩
  rw [← hX]
  rw [show numsQ K k T r = restN k K [] T (mustF tOpen r (next T r)).2 from rfl] at hX
  obtain ⟨y, hy⟩ : ∃ y, y = mustF tOpen r (next T r) := ⟨_, rfl⟩
  rw [← hy] at WX hX
  obtain ⟨u0, r0⟩ := y
  have HX := Lib.hid hX
  clear hX hy h
  go_enter Tryz.func100, Tryz.ntmps100
  go_wp2_with fail
  refine WX.out.mono ?_
  rintro e w1 ⟨hB, ⟨hw, hP, rfl⟩ | ⟨hw, rfl⟩⟩
  rotate_left
  · have HG := Lib.hid (ends_no (T := T) (len := len) (n := n) (bl := bl) (ol := ol) (cl := cl) (base := nb) (pv := pv) (m := m) (cv := cv) (g := g) (x := X) (V := Row w X.1) hB ((tame_restN k K []).after HX.out hw).1)
    rw [((tame_restN k K []).after HX.out hw).2] at HG
    unfold gone at HG ⊢
    clear hw hB
    go_wp2_with fail
    exact ⟨rfl, HG.out⟩
  have HL0 := Lib.hid (show LAt w w1 g n bl ol cl nb pv m cv T len (.slice none 0 0) [] r0 from ⟨hP, ownsP_nil _ _ _ _ _, hB⟩)
  clear hB hw hP
  go_wp2_with fail
  go_loopw [5] (fun vs wr => ∃ (j : Nat) (l : List Int) (rr : Rd) (p : Option Addr) (c : Nat), vs = .slice p l.length c ∧ n < j + rr.at_ ∧ l.length ≤ 20 + rr.at_ ∧ X = restN k j l T rr ∧ LAt w wr g n bl ol cl nb pv m cv T len (.slice p l.length c) l rr) (fun _ wr => n - tookOf wr g)
  case atStart => exact ⟨K, [], r0, none, 0, rfl, by omega, by simp, HX.out, HL0.out⟩
  case round =>
    obtain ⟨j, l, rr, p, c, rfl, hnj, hll, hXr, hla⟩ := hrel
    have HL := Lib.hid hla
    have htp := hla.rd.top
    have HTK := Lib.hid (took_at hla.rd)
    obtain ⟨j', rfl⟩ : ∃ j', j = j' + 1 := ⟨j - 1, by omega⟩
    rw [restN_eq] at hXr
    have hl6 : l.length ≤ 100000 := by omega
    by_cases hlk : l.length < k
    · rw [if_pos hlk] at hXr
      have hlki : (l.length : Int) < (k : Int) := by omega
      have hld : decide ((l.length : Int) < (k : Int)) = true := decide_eq_true hlki
      have hwent := number_went T rr
      have hzf := number_few (r := rr) hv
      have NX := Lib.hid (number_any hla.rd hv)
      obtain ⟨x, hx⟩ : ∃ x, x = number T rr := ⟨_, rfl⟩
      rw [← hx] at hXr hzf hwent NX
      obtain ⟨z, r2⟩ := x
      have HZF := Lib.hid (show Fit z by unfold Fit; simp only at hzf; omega)
      have HX1 := Lib.hid hXr
      have HWE := Lib.hid hwent
      clear hx hzf hXr hwent hla
      go_wp2_with fail
      refine NX.out.mono ?_
      rintro e w3 ⟨hB, ⟨hw, hP, rfl⟩ | ⟨hw, rfl⟩⟩
      · have HL3 := Lib.hid (show LAt w w3 g n bl ol cl nb pv m cv T len (.slice p l.length c) l r2 from HL.out.moved hP hB)
        have HL4 := Lib.hid (HL3.out.below ((Below.refl _ w3).alloc (Nat.le_refl _) (.cells #[.int .i64 z] 3)))
        have HCN := Lib.hid (show (w3.alloc (.cells #[.int .i64 z] 3)).cell? ⟨w3.heap.size, 0, none⟩ = some (.int .i64 z) by go_simp)
        have HS := Lib.hid (show w.heap.size ≤ (w3.alloc (.cells #[.int .i64 z] 3)).heap.size from HL4.out.but.size)
        have HON := Lib.hid (show rr.at_ < r2.at_ from HWE.out.on.resolve_left (by simp only at hw; rw [hw]; simp))
        clear hB hw hP
        go_wp2_with (at_builtin; refine put_list rfl _ _ rfl rfl rfl HL4.out.own HCN.out HZF.out hl6 HS.out rfl ?_; intro p' cap w5 hP; have HL5 := Lib.hid (HL4.out.put hP); clear hP)
        go_roundw
        case rel => exact ⟨j', l ++ [z], r2, p', cap, by simp, by have := HON.out; omega, by have := HON.out; simp only [List.length_append, List.length_cons, List.length_nil]; omega, HX1.out, by rw [List.length_append]; exact HL5.out⟩
        case measure =>
          have h1 := HON.out
          have h2 := HL5.out.rd.top
          rw [took_at HL5.out.rd, HTK.out]
          omega
      · have HG := Lib.hid (ends_no (T := T) (len := len) (n := n) (bl := bl) (ol := ol) (cl := cl) (base := nb) (pv := pv) (m := m) (cv := cv) (g := g) (x := X) (V := Row w X.1) (HL.out.but.trans hB (fun i _ e => e)) ((tame_restN k j' (l ++ [z])).after HX1.out hw).1)
        rw [((tame_restN k j' (l ++ [z])).after HX1.out hw).2] at HG
        unfold gone at HG ⊢
        clear hw hB
        go_wp2_with fail
        exact ⟨rfl, HG.out⟩
    · rw [if_neg hlk] at hXr
      have hlki : ¬ ((l.length : Int) < (k : Int)) := by omega
      have hlke : (k : Int) ≤ (l.length : Int) := by omega
      have hld : decide ((l.length : Int) < (k : Int)) = false := decide_eq_false hlki
      have SX := Lib.hid (took_any ⟨#[93]⟩ (by decide) hla.rd)
      rw [show txt ⟨#[93]⟩ = tShut from rfl] at SX
      obtain ⟨xs, hxs⟩ : ∃ xs, xs = hasF tShut rr (next T rr) := ⟨_, rfl⟩
      rw [← hxs] at SX hXr
      have hoff : xs.1 = false → xs.2 = rr := fun e => by rw [hxs] at e ⊢; exact has_off e
      obtain ⟨b, rq⟩ := xs
      simp only at SX hXr hoff
      have HXR := Lib.hid hXr
      clear hxs hXr hla
      cases b
      · obtain rfl := hoff rfl
        have hXr := HXR.out
        rw [if_neg (by simp)] at hXr
        have hwent := number_went T rq
        have hzf := number_few (r := rq) hv
        obtain ⟨x, hx⟩ : ∃ x, x = number T rq := ⟨_, rfl⟩
        rw [← hx] at hXr hzf hwent
        obtain ⟨z, r2⟩ := x
        have HXI := Lib.hid hx
        have HZF := Lib.hid (show Fit z by unfold Fit; simp only at hzf; omega)
        have HX1 := Lib.hid hXr
        have HWE := Lib.hid hwent
        clear hx hzf hXr hwent hoff
        go_wp2_with fail
        refine SX.out.mono ?_
        rintro e w2 ⟨rfl, hP2, hM2⟩
        have HL2 := Lib.hid (show LAt w w2 g n bl ol cl nb pv m cv T len (.slice p l.length c) l rq from HL.out.moved hP2 (mbut hM2))
        have NX := Lib.hid (number_any HL2.out.rd hv)
        rw [← HXI.out] at NX
        clear hP2 hM2
        go_wp2_with fail
        refine NX.out.mono ?_
        rintro e w3 ⟨hB, ⟨hw, hP, rfl⟩ | ⟨hw, rfl⟩⟩
        · have HL3 := Lib.hid (show LAt w w3 g n bl ol cl nb pv m cv T len (.slice p l.length c) l r2 from HL2.out.moved hP hB)
          have HL4 := Lib.hid (HL3.out.below ((Below.refl _ w3).alloc (Nat.le_refl _) (.cells #[.int .i64 z] 3)))
          have HCN := Lib.hid (show (w3.alloc (.cells #[.int .i64 z] 3)).cell? ⟨w3.heap.size, 0, none⟩ = some (.int .i64 z) by go_simp)
          have HS := Lib.hid (show w.heap.size ≤ (w3.alloc (.cells #[.int .i64 z] 3)).heap.size from HL4.out.but.size)
          have HON := Lib.hid (show rq.at_ < r2.at_ from HWE.out.on.resolve_left (by simp only at hw; rw [hw]; simp))
          clear hB hw hP
          go_wp2_with (at_builtin; refine put_list rfl _ _ rfl rfl rfl HL4.out.own HCN.out HZF.out hl6 HS.out rfl ?_; intro p' cap w5 hP; have HL5 := Lib.hid (HL4.out.put hP); clear hP)
          go_roundw
          case rel => exact ⟨j', l ++ [z], r2, p', cap, by simp, by have := HON.out; omega, by have := HON.out; simp only [List.length_append, List.length_cons, List.length_nil]; omega, HX1.out, by rw [List.length_append]; exact HL5.out⟩
          case measure =>
            have h1 := HON.out
            have h2 := HL5.out.rd.top
            rw [took_at HL5.out.rd, HTK.out]
            omega
        · have HG := Lib.hid (ends_no (T := T) (len := len) (n := n) (bl := bl) (ol := ol) (cl := cl) (base := nb) (pv := pv) (m := m) (cv := cv) (g := g) (x := X) (V := Row w X.1) (HL2.out.but.trans hB (fun i _ e => e)) ((tame_restN k j' (l ++ [z])).after HX1.out hw).1)
          rw [((tame_restN k j' (l ++ [z])).after HX1.out hw).2] at HG
          unfold gone at HG ⊢
          clear hw hB
          go_wp2_with fail
          exact ⟨rfl, HG.out⟩
      · have hXr := HXR.out
        rw [if_pos rfl] at hXr
        have HX0 := Lib.hid hXr
        clear hXr hoff
        go_wp2_with fail
        refine SX.out.mono ?_
        rintro e w2 ⟨rfl, hP2, hM2⟩
        have HL2 := Lib.hid (show LAt w w2 g n bl ol cl nb pv m cv T len (.slice p l.length c) l rq from HL.out.moved hP2 (mbut hM2))
        clear hP2 hM2
        go_wp2_with fail
        go_ret
        exact ⟨HL2.out.but, .inl ⟨by rw [HX0.out]; exact HL2.out.rd.ok, by rw [HX0.out]; exact HL2.out.rd, p, c, by rw [HX0.out]; rfl, by rw [HX0.out]; exact HL2.out.own⟩⟩
end
end Go.Proofs.YtkgieaoahijheaaGreatDoor.Pp
namespace Go.Proofs.YtkgieaoahijheaaGreatDoor.Pp
open Go.RowKit
open Sc (Tok Cells str noTok)
open Pa
set_option maxRecDepth 100000

section
variable {w0 w w' : World} {F : Nat → Prop} {g n bl ol cl nb : Nat} {pv : Option Addr} {m cv : Nat} {T : List Tok} {len : Nat} {B base lo : Nat} {c : PCon} {r : Rd} {u1 u2 u3 v : Value} {L : List Int}
theorem took_no (s : ByteArray) (hs : txt s ≠ []) (hne : textO (next T r) ≠ txt s) (h : PAt w g n bl ol cl nb pv m cv T len r) :
    Calls Tryz.prog 60 #[.pointer (some ⟨g, 0, none⟩), .string s] w fun e w' => e = .returned (.bool false) ∧ PAt w' g n bl ol cl nb pv m cv T len r ∧ But (fun i => i = g) w w' :=
  (took_any s hs h).mono fun e w' ⟨he, hP, hM⟩ => by
    have e0 : hasF (txt s) r (next T r) = (false, r) := by unfold hasF; rw [if_neg hne]
    rw [e0] at he hP
    exact ⟨he, hP, mbut hM⟩
theorem took_yes (s : ByteArray) (hs : txt s ≠ []) (heq : textO (next T r) = txt s) (h : PAt w g n bl ol cl nb pv m cv T len r) :
    Calls Tryz.prog 60 #[.pointer (some ⟨g, 0, none⟩), .string s] w fun e w' => e = .returned (.bool true) ∧ PAt w' g n bl ol cl nb pv m cv T len (step1 r) ∧ But (fun i => i = g) w w' :=
  (took_any s hs h).mono fun e w' ⟨he, hP, hM⟩ => by
    have e0 : hasF (txt s) r (next T r) = (true, step1 r) := by unfold hasF; rw [if_pos heq]
    rw [e0] at he hP
    exact ⟨he, hP, mbut hM⟩
theorem has_yes {α : Type} {s : Txt} {A B : Rx α} {T : List Tok} {r : Rd} (h : textO (next T r) = s) : (seq (Pa.look (hasF s)) fun b => if b = true then A else B) T r = A T (step1 r) := by
  show (if (hasF s r (next T r)).1 = true then A else B) T (hasF s r (next T r)).2 = _
  unfold hasF
  rw [if_pos h]
  rfl
theorem has_no {α : Type} {s : Txt} {A B : Rx α} {T : List Tok} {r : Rd} (h : textO (next T r) ≠ s) : (seq (Pa.look (hasF s)) fun b => if b = true then A else B) T r = B T r := by
  show (if (hasF s r (next T r)).1 = true then A else B) T (hasF s r (next T r)).2 = _
  unfold hasF
  rw [if_neg h]
  rfl
theorem conQ1 {K : Nat} (h : textO (next T r) = tProduct) : conQ K T r = (seq (varsQ 3 []) fun l => ret { conOf 2 with vars := l }) T (step1 r) := has_yes h
theorem conQ2 {K : Nat} (h : textO (next T r) = tIff) : conQ K T r = (seq (varsQ 1 []) fun l => sumQ K { conOf 3 with vars := l }) T (step1 r) := by
  unfold conQ
  rw [has_no (by rw [h]; decide)]
  exact has_yes h
theorem conQ3 {K : Nat} (h : textO (next T r) = tElement) : conQ K T r = (seq (varsQ 2 []) fun l => tableQ K 1 { conOf 4 with vars := l }) T (step1 r) := by
  unfold conQ
  rw [has_no (by rw [h]; decide), has_no (by rw [h]; decide)]
  exact has_yes h
theorem conQ4 {K : Nat} (h : textO (next T r) = tDifferent) : conQ K T r = (seq (fromQ K 2) fun l => ret { conOf 5 with vars := l }) T (step1 r) := by
  unfold conQ
  rw [has_no (by rw [h]; decide), has_no (by rw [h]; decide), has_no (by rw [h]; decide)]
  exact has_yes h
theorem conQ5 {K : Nat} (h : textO (next T r) = tTable) : conQ K T r = (seq (fromQ K 1) fun l => tableQ K 0 { conOf 6 with vars := l }) T (step1 r) := by
  unfold conQ
  rw [has_no (by rw [h]; decide), has_no (by rw [h]; decide), has_no (by rw [h]; decide), has_no (by rw [h]; decide)]
  exact has_yes h
theorem conQ6 {K : Nat} (h1 : textO (next T r) ≠ tProduct) (h2 : textO (next T r) ≠ tIff) (h3 : textO (next T r) ≠ tElement) (h4 : textO (next T r) ≠ tDifferent) (h5 : textO (next T r) ≠ tTable) : conQ K T r = sumQ K (conOf 1) T r := by
  unfold conQ
  rw [has_no h1, has_no h2, has_no h3, has_no h4, has_no h5]
/-- the constraint's names are given -/
theorem KAt.giveVars (h : KAt w0 w F g n bl ol cl nb pv m cv T len B base c r u1 (.slice none 0 0) (.slice none 0 0)) (ho : OwnsP numP 1 3 lo w v L) (hlo : base ≤ lo) (h0 : w0.heap.size ≤ lo) : KAt w0 (w.setCell ⟨B, 1, none⟩ v) F g n bl ol cl nb pv m cv T len B base { c with vars := L } r v (.slice none 0 0) (.slice none 0 0) := by
  have hown : Own3 w base { c with vars := L } v (.slice none 0 0) (.slice none 0 0) := ⟨ho.low hlo, h.own.o2, h.own.o3, fun k _ e => by simp [Value.ownBlock] at e, fun k _ e => by simp [Value.ownBlock] at e, fun k e => by simp [Value.ownBlock] at e⟩
  exact ⟨h.store.1, hown.set h.box.kind, h.box.set1 v, h.store.2.2.1, h.fg, h.fb, fun k e => .inr (Nat.le_trans h0 (ho.lt k e).1), h.f2, h.f3, h.store.2.2.2⟩
/-- its numbers are -/
theorem KAt.giveNums (h : KAt w0 w F g n bl ol cl nb pv m cv T len B base c r u1 (.slice none 0 0) (.slice none 0 0)) (ho : OwnsP numP 1 3 lo w v L) (h1 : ∀ k, u1.ownBlock = some k → k < lo) (hlo : base ≤ lo) (h0 : w0.heap.size ≤ lo) : KAt w0 (w.setCell ⟨B, 5, none⟩ v) F g n bl ol cl nb pv m cv T len B base { c with nums := L } r u1 (.slice none 0 0) v := by
  have hown : Own3 w base { c with nums := L } u1 (.slice none 0 0) v := ⟨h.own.o1, h.own.o2, ho.low hlo, fun k _ e => by simp [Value.ownBlock] at e, fun k e e' => by have := h1 k e; have := (ho.lt k e').1; omega, fun k e => by simp [Value.ownBlock] at e⟩
  exact ⟨h.store.1, hown.set h.box.kind, h.box.set5 v, h.store.2.2.1, h.fg, h.fb, h.f1, h.f2, fun k e => .inr (Nat.le_trans h0 (ho.lt k e).1), h.store.2.2.2⟩
/-- a constraint is handed back -/
def ConE (w : World) (c : PCon) (w' : World) (e : Ending) : Prop := ∃ u1 u2 u3 : Value, e = .returned (.agg #[.int .i64 c.kind, u1, u2, .int .i64 c.rel, .int .i64 c.const, u3]) ∧ Own3 w' w.heap.size c u1 u2 u3
/-- a constraint in a variable of its own, and the variable of what is handed back -/
structure CAt (w0 w : World) (g n bl ol cl nb : Nat) (pv : Option Addr) (m cv : Nat) (T : List Tok) (len : Nat) (c : PCon) (r : Rd) (u1 u2 u3 : Value) : Prop where
  k : KAt w0 w (fun i => i = g) g n bl ol cl nb pv m cv T len (w0.heap.size + 1) (w0.heap.size + 2) c r u1 u2 u3
  res : Box6 w w0.heap.size 0 (.slice none 0 0) (.slice none 0 0) 0 0 (.slice none 0 0)
theorem CAt.moved {r' : Rd} (h : CAt w0 w g n bl ol cl nb pv m cv T len c r u1 u2 u3) (hR : PAt w' g n bl ol cl nb pv m cv T len r') (hM : But (fun i => i = g) w w') : CAt w0 w' g n bl ol cl nb pv m cv T len c r' u1 u2 u3 := ⟨h.k.moved hR hM, box6_but h.res hM h.k.rd.ty⟩
theorem res_set {j : Nat} {x : Value} (h : Box6 w w0.heap.size 0 (.slice none 0 0) (.slice none 0 0) 0 0 (.slice none 0 0)) : Box6 (w.setCell ⟨w0.heap.size + 1, j, none⟩ x) w0.heap.size 0 (.slice none 0 0) (.slice none 0 0) 0 0 (.slice none 0 0) :=
  h.same (Below.heap_setCell w ⟨w0.heap.size + 1, j, none⟩ x _ (by simp))
theorem CAt.setKind {k : Int} (h : CAt w0 w g n bl ol cl nb pv m cv T len c r u1 u2 u3) : CAt w0 (w.setCell ⟨w0.heap.size + 1, 0, none⟩ (.int .i64 k)) g n bl ol cl nb pv m cv T len { c with kind := k } r u1 u2 u3 := ⟨h.k.setKind, res_set h.res⟩
theorem CAt.giveVars (h : CAt w0 w g n bl ol cl nb pv m cv T len c r u1 (.slice none 0 0) (.slice none 0 0)) (ho : OwnsP numP 1 3 lo w v L) (hlo : w0.heap.size + 2 ≤ lo) : CAt w0 (w.setCell ⟨w0.heap.size + 1, 1, none⟩ v) g n bl ol cl nb pv m cv T len { c with vars := L } r v (.slice none 0 0) (.slice none 0 0) :=
  ⟨h.k.giveVars ho hlo (by omega), res_set h.res⟩
theorem CAt.giveNums (h : CAt w0 w g n bl ol cl nb pv m cv T len c r u1 (.slice none 0 0) (.slice none 0 0)) (ho : OwnsP numP 1 3 lo w v L) (h1 : ∀ k, u1.ownBlock = some k → k < lo) (hlo : w0.heap.size + 2 ≤ lo) : CAt w0 (w.setCell ⟨w0.heap.size + 1, 5, none⟩ v) g n bl ol cl nb pv m cv T len { c with nums := L } r u1 (.slice none 0 0) v :=
  ⟨h.k.giveNums ho h1 hlo (by omega), res_set h.res⟩
theorem CAt.tight (h : CAt w0 w g n bl ol cl nb pv m cv T len c r u1 u2 u3) : KAt w w (fun k => k = g ∨ k = w0.heap.size + 1 ∨ w0.heap.size + 2 ≤ k) g n bl ol cl nb pv m cv T len (w0.heap.size + 1) (w0.heap.size + 2) c r u1 u2 u3 :=
  ⟨h.k.rd, h.k.own, h.k.box, But.refl _ _, .inl rfl, .inl (.inr (.inl rfl)), fun k e => .inl (.inr (.inr (h.k.own.o1.lt k e).1)), fun k e => .inl (.inr (.inr (h.k.own.o2.lt k e).1)), fun k e => .inl (.inr (.inr (h.k.own.o3.lt k e).1)), h.k.low⟩
theorem tight_but (h : But (fun i => i = g) w0 w) (hB : But (fun k => k = g ∨ k = w0.heap.size + 1 ∨ w0.heap.size + 2 ≤ k) w w') : But (fun i => i = g) w0 w' := h.trans hB (fun i hi e => e.resolve_right (by omega))
theorem CAt.back {c' : PCon} {r' : Rd} {y1 y2 : Value} (h : CAt w0 w g n bl ol cl nb pv m cv T len c r u1 u2 u3) (hk : KAt w w' (fun k => k = g ∨ k = w0.heap.size + 1 ∨ w0.heap.size + 2 ≤ k) g n bl ol cl nb pv m cv T len (w0.heap.size + 1) (w0.heap.size + 2) c' r' y1 y2 u3) : CAt w0 w' g n bl ol cl nb pv m cv T len c' r' y1 y2 u3 := by
  have hg : w0.heap.size ≠ g := fun e => kinds_apart h.res.kind h.k.rd.ty (by decide) e
  refine ⟨⟨hk.rd, hk.own, hk.box, tight_but h.k.but hk.but, rfl, h.k.fb, fun k e => .inr (by have := (hk.own.o1.lt k e).1; omega), fun k e => .inr (by have := (hk.own.o2.lt k e).1; omega), h.k.f3, hk.low⟩, h.res.same (hk.but.block _ h.res.lt (by omega))⟩
theorem CAt.kindVars {k : Int} (h : CAt w0 w g n bl ol cl nb pv m cv T len c r (.slice none 0 0) (.slice none 0 0) (.slice none 0 0)) (ho : OwnsP numP 1 3 lo w v L) (hlo : w0.heap.size + 2 ≤ lo) : CAt w0 ((w.setCell ⟨w0.heap.size + 1, 0, none⟩ (.int .i64 k)).setCell ⟨w0.heap.size + 1, 1, none⟩ v) g n bl ol cl nb pv m cv T len { c with kind := k, vars := L } r v (.slice none 0 0) (.slice none 0 0) :=
  (h.setKind (k := k)).giveVars (OwnsP.set ho h.k.box.kind (by decide)) hlo
/-- what is handed back -/
theorem CAt.ends {x0 x1 x2 x3 x4 x5 : Value} (h : CAt w0 w g n bl ol cl nb pv m cv T len c r u1 u2 u3) : PAt ((((((w.setCell ⟨w0.heap.size, 0, none⟩ x0).setCell ⟨w0.heap.size, 1, none⟩ x1).setCell ⟨w0.heap.size, 2, none⟩ x2).setCell ⟨w0.heap.size, 3, none⟩ x3).setCell ⟨w0.heap.size, 4, none⟩ x4).setCell ⟨w0.heap.size, 5, none⟩ x5) g n bl ol cl nb pv m cv T len r ∧
    Own3 ((((((w.setCell ⟨w0.heap.size, 0, none⟩ x0).setCell ⟨w0.heap.size, 1, none⟩ x1).setCell ⟨w0.heap.size, 2, none⟩ x2).setCell ⟨w0.heap.size, 3, none⟩ x3).setCell ⟨w0.heap.size, 4, none⟩ x4).setCell ⟨w0.heap.size, 5, none⟩ x5) w0.heap.size c u1 u2 u3 ∧
    But (fun i => i = g) w0 ((((((w.setCell ⟨w0.heap.size, 0, none⟩ x0).setCell ⟨w0.heap.size, 1, none⟩ x1).setCell ⟨w0.heap.size, 2, none⟩ x2).setCell ⟨w0.heap.size, 3, none⟩ x3).setCell ⟨w0.heap.size, 4, none⟩ x4).setCell ⟨w0.heap.size, 5, none⟩ x5) := by
  have one : ∀ (W : World) (j : Nat) (x : Value), ((∃ cs, W.heap[w0.heap.size]? = some (.cells cs 38)) ∧ PAt W g n bl ol cl nb pv m cv T len r ∧ Own3 W w0.heap.size c u1 u2 u3 ∧ But (fun i => i = g) w0 W) →
      ((∃ cs, (W.setCell ⟨w0.heap.size, j, none⟩ x).heap[w0.heap.size]? = some (.cells cs 38)) ∧ PAt (W.setCell ⟨w0.heap.size, j, none⟩ x) g n bl ol cl nb pv m cv T len r ∧ Own3 (W.setCell ⟨w0.heap.size, j, none⟩ x) w0.heap.size c u1 u2 u3 ∧ But (fun i => i = g) w0 (W.setCell ⟨w0.heap.size, j, none⟩ x)) := fun W j x ⟨a, b, c', d⟩ =>
    ⟨by
      obtain ⟨cs, e⟩ := a
      refine ⟨cs.setIfInBounds j x, ?_⟩
      simp only [World.setCell, Array.getElem?_modify, e]
      rfl, b.put a (by decide) (by decide) (by decide), c'.set a, d.trans (G := fun i => i = w0.heap.size) (But.set ⟨w0.heap.size, j, none⟩ x fun _ => rfl) (fun i hi (e : i = w0.heap.size) => by omega)⟩
  exact (one _ 5 x5 (one _ 4 x4 (one _ 3 x3 (one _ 2 x2 (one _ 1 x1 (one _ 0 x0 ⟨h.res.kind, h.k.rd, h.k.own.low (by omega), h.k.but⟩)))))).2
theorem cat_new (h : PAt w g n bl ol cl nb pv m cv T len r) : CAt w ((w.alloc (.cells #[.int .i64 0, .slice none 0 0, .slice none 0 0, .int .i64 0, .int .i64 0, .slice none 0 0] 38)).alloc (.cells #[.int .i64 0, .slice none 0 0, .slice none 0 0, .int .i64 0, .int .i64 0, .slice none 0 0] 38)) g n bl ol cl nb pv m cv T len (conOf 0) r (.slice none 0 0) (.slice none 0 0) (.slice none 0 0) := by
  have b1 := (Below.refl _ w).alloc (Nat.le_refl _) (.cells #[.int .i64 0, .slice none 0 0, .slice none 0 0, .int .i64 0, .int .i64 0, .slice none 0 0] 38)
  have b2 := (Below.refl _ (w.alloc (.cells #[.int .i64 0, .slice none 0 0, .slice none 0 0, .int .i64 0, .int .i64 0, .slice none 0 0] 38))).alloc (Nat.le_refl _) (.cells #[.int .i64 0, .slice none 0 0, .slice none 0 0, .int .i64 0, .int .i64 0, .slice none 0 0] 38)
  have x2 := Box6.new (w.alloc (.cells #[.int .i64 0, .slice none 0 0, .slice none 0 0, .int .i64 0, .int .i64 0, .slice none 0 0] 38)) 0 (.slice none 0 0) (.slice none 0 0) 0 0 (.slice none 0 0)
  have x3 : Box6 ((w.alloc (.cells #[.int .i64 0, .slice none 0 0, .slice none 0 0, .int .i64 0, .int .i64 0, .slice none 0 0] 38)).alloc (.cells #[.int .i64 0, .slice none 0 0, .slice none 0 0, .int .i64 0, .int .i64 0, .slice none 0 0] 38)) (w.heap.size + 1) 0 (.slice none 0 0) (.slice none 0 0) 0 0 (.slice none 0 0) := by simpa using x2
  refine ⟨⟨(h.below b1).below b2, own3_nil _ _ _, x3, (But.below b1).trans (G := fun _ => False) (But.below b2) (fun _ _ e => e.elim), rfl, .inr (by omega), fun k e => by simp [Value.ownBlock] at e, fun k e => by simp [Value.ownBlock] at e, fun k e => by simp [Value.ownBlock] at e, by simp⟩, (Box6.new w 0 (.slice none 0 0) (.slice none 0 0) 0 0 (.slice none 0 0)).below b2⟩
end
end Go.Proofs.YtkgieaoahijheaaGreatDoor.Pp
namespace Go.Proofs.YtkgieaoahijheaaGreatDoor.Pp
open Go.RowKit
open Sc (Tok Cells str noTok)
open Pa
set_option maxRecDepth 100000

section
variable {w w' : World} {g n bl ol cl nb : Nat} {pv : Option Addr} {m cv : Nat} {T : List Tok} {len : Nat} {r : Rd}
set_option maxHeartbeats 8000000 in
theorem con_product (K : Nat) (h : PAt w g n bl ol cl nb pv m cv T len r) (_ : ∀ t ∈ T, t.value ≤ 2000000000000) (hm : m ≤ 1000000) (_ : n < K) (_ : n ≤ 9000) (ht : textO (next T r) = tProduct) :
    Calls Tryz.prog 82 #[.pointer (some ⟨g, 0, none⟩)] w (Ends w (fun i => i = g) g n bl ol cl nb pv m cv T len (conQ K T r) (ConE w (conQ K T r).1)) := by
  obtain ⟨X, hX⟩ : ∃ X, X = conQ K T r := ⟨_, rfl⟩
  rw [← hX]
  rw [conQ1 ht] at hX
  have HX := Lib.hid hX
  have HT := Lib.hid ht
  have HC := Lib.hid (cat_new h)
  clear h hX ht
  go_enter Tryz.func82, Tryz.ntmps82
  go_wp2_with fail
  refine (took_yes ⟨#[112, 114, 111, 100, 117, 99, 116]⟩ (by decide) HT.out HC.out.k.rd).mono ?_
  rintro e wy ⟨rfl, hP, hB⟩
  have HY := Lib.hid (show CAt w wy g n bl ol cl nb pv m cv T len (conOf 0) (step1 r) (.slice none 0 0) (.slice none 0 0) (.slice none 0 0) from HC.out.moved hP hB)
  clear hP hB
  have VX := Lib.hid (vars_any 3 (by decide) HY.out.k.rd hm)
  rw [show ((3 : Nat) : Int) = 3 from rfl] at VX
  have HS0 := Lib.hid (show w.heap.size + 2 ≤ wy.heap.size from HY.out.k.low)
  obtain ⟨y, hy⟩ : ∃ y, y = varsQ 3 [] T (step1 r) := ⟨_, rfl⟩
  have HXY := Lib.hid (show X = ret { conOf 2 with vars := y.1 } T y.2 by rw [HX.out, hy]; rfl)
  rw [← hy] at VX
  clear hy
  obtain ⟨L, r2⟩ := y
  simp only at HXY
  go_wp2_with fail
  refine VX.out.mono ?_
  rintro e w2 ⟨hB, ⟨hw, hP, p1, c1, rfl, ho⟩ | ⟨hw, rfl⟩⟩
  rotate_left
  · have HG := Lib.hid (ends_no (T := T) (len := len) (n := n) (bl := bl) (ol := ol) (cl := cl) (base := nb) (pv := pv) (m := m) (cv := cv) (g := g) (x := X) (V := ConE w X.1) (HY.out.k.but.trans hB (fun i _ e => e)) ((tame_ret { conOf 2 with vars := L }).after HXY.out hw).1)
    rw [((tame_ret { conOf 2 with vars := L }).after HXY.out hw).2] at HG
    unfold gone at HG ⊢
    clear hw hB
    go_wp2_with fail
    exact ⟨rfl, HG.out⟩
  have HV0 := Lib.hid (show CAt w w2 g n bl ol cl nb pv m cv T len (conOf 0) r2 (.slice none 0 0) (.slice none 0 0) (.slice none 0 0) from HY.out.moved hP hB)
  have HV := Lib.hid (show CAt w ((w2.setCell ⟨w.heap.size + 1, 0, none⟩ (.int .i64 2)).setCell ⟨w.heap.size + 1, 1, none⟩ (.slice p1 L.length c1)) g n bl ol cl nb pv m cv T len { conOf 2 with vars := L } r2 (.slice p1 L.length c1) (.slice none 0 0) (.slice none 0 0) from HV0.out.kindVars ho HS0.out)
  have b0 := HV0.out.k.box.cell 0 rfl
  have f0 := HV0.out.k.box.frozen 0
  have b1 := HV0.out.k.box.cell 1 rfl
  have f1 := HV0.out.k.box.frozen 1
  have HOL := Lib.hid ho
  clear hB hw hP ho
  have HXE := Lib.hid (show X = ({ conOf 2 with vars := L }, r2) from HXY.out)
  have b0 := HV.out.k.box.cell 0 rfl
  have b1 := HV.out.k.box.cell 1 rfl
  have b2 := HV.out.k.box.cell 2 rfl
  have b3 := HV.out.k.box.cell 3 rfl
  have b4 := HV.out.k.box.cell 4 rfl
  have b5 := HV.out.k.box.cell 5 rfl
  have q0 := HV.out.res.cell 0 rfl
  have g0 := HV.out.res.frozen 0
  have q1 := HV.out.res.cell 1 rfl
  have g1 := HV.out.res.frozen 1
  have q2 := HV.out.res.cell 2 rfl
  have g2 := HV.out.res.frozen 2
  have q3 := HV.out.res.cell 3 rfl
  have g3 := HV.out.res.frozen 3
  have q4 := HV.out.res.cell 4 rfl
  have g4 := HV.out.res.frozen 4
  have q5 := HV.out.res.cell 5 rfl
  have g5 := HV.out.res.frozen 5
  have HEX := Lib.hid (show X = ({ conOf 2 with vars := L }, r2) from HXE.out)
  (try simp only [conOf] at b0 b1 b2 b3 b4 b5)
  go_wp2_with fail
  (try simp only [Exit.inBlock, Exit.then])
  refine bodyPost_ret (results_con rfl _ _ w.heap.size (.int .i64 2) (.slice p1 L.length c1) (.slice none 0 0) (.int .i64 0) (.int .i64 0) (.slice none 0 0) rfl ?c0a ?c1a ?c2a ?c3a ?c4a ?c5a) rfl ?resta
  case c0a => go_simp
  case c1a => go_simp
  case c2a => go_simp
  case c3a => go_simp
  case c4a => go_simp
  case c5a => go_simp
  case resta =>
    obtain ⟨e1, e2, e3⟩ := HV.out.ends (x0 := .int .i64 2) (x1 := (.slice p1 L.length c1)) (x2 := (.slice none 0 0)) (x3 := .int .i64 0) (x4 := .int .i64 0) (x5 := (.slice none 0 0))
    exact ⟨e3, .inl ⟨by rw [HEX.out]; exact HV.out.k.rd.ok, by rw [HEX.out]; exact e1, (.slice p1 L.length c1), (.slice none 0 0), (.slice none 0 0), by rw [HEX.out]; rfl, by rw [HEX.out]; exact e2⟩⟩
end
end Go.Proofs.YtkgieaoahijheaaGreatDoor.Pp
