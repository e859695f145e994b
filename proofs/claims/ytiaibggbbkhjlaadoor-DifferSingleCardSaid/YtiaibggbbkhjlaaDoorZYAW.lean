/-
  What Right of the document's answers for models answers, at every constraint that can be read.
  What Right of the document's answers for steps answers: the kind is one of some, each domain may be, and the constraint may.
  What slices.IndexFunc and slices.ContainsFunc answer of domains, and what package linear asks of constraint and domains first.
-/
import Derived.Test.YtiaibggbbkhjlaaDoorZMRight
import Derived.Test.YtiaibggbbkhjlaaDoorZYAU
import Derived.Test.YtiaibggbbkhjlaaDoorZJMem
import Derived.Test.YtiaibggbbkhjlaaDoorZYAP
import Derived.Test.YtiaibggbbkhjlaaDoorZPRight
namespace Go.Proofs.YtiaibggbbkhjlaaDoor
open Go.RowKit
set_option maxRecDepth 100000

theorem rrcon_any {w : World} {k r t : Int} {v1 v2 v3 : Value} {c : PCon} (vars : Int) (hv : Fit vars) (h : rCon w [.int .i64 k, v1, v2, .int .i64 r, .int .i64 t, v3] c) (hs : Short 1000 c) :
    Calls Tryd.prog 36 #[.agg #[.int .i64 k, v1, v2, .int .i64 r, .int .i64 t, v3], .int .i64 vars] w fun e w' => e = .returned (.bool (rightC c vars)) ∧ Below w.heap.size w w' := by
  obtain ⟨u1, u2, u3, e, ⟨f1, f2, f3⟩, ⟨p1, b1, o1, c1, l1, e1, hc1, h1⟩, ⟨p2, b2, o2, c2, l2, e2, _, h2⟩, ⟨p3, b3, o3, c3, l3, e3, _, h3⟩⟩ := h
  subst e1 e2 e3
  simp only [List.cons.injEq, and_true, Value.int.injEq, true_and] at e
  obtain ⟨rfl, rfl, rfl, rfl, rfl, rfl⟩ := e
  exact rr_cells p1 p2 p3 b1 o1 c1 l1 b2 o2 c2 l2 b3 o3 c3 l3 c vars w h1 h2 h3 (by rw [h1.long]; exact hs.1) (by rw [h2.long]; exact hs.2.1) (by rw [h3.long]; exact hs.2.2) hv f1 f2 f3
end Go.Proofs.YtiaibggbbkhjlaaDoor
namespace Go.Proofs.YtiaibggbbkhjlaaDoor.St
open Go.RowKit
set_option maxRecDepth 100000

theorem six_at (w : World) (v0 v1 v2 v3 v4 v5 : Value) (t : TypeId) : ∀ j u, [v0, v1, v2, v3, v4, v5][j]? = some u → (w.alloc (.cells #[v0, v1, v2, v3, v4, v5] t)).cell? ⟨w.heap.size, j, none⟩ = some u := fun j u h => by
  match j, h with
  | 0, h => simp at h; subst h; simp
  | 1, h => simp at h; subst h; simp
  | 2, h => simp at h; subst h; simp
  | 3, h => simp at h; subst h; simp
  | 4, h => simp at h; subst h; simp
  | 5, h => simp at h; subst h; simp
/-- a number among those ahead of a place -/
def inK (K : List Int) (x : Int) (j : Nat) : Bool := (K.take j).contains x
theorem inK_succ {K : List Int} {x : Int} {j : Nat} (h : j < K.length) : inK K x (j + 1) = (inK K x j || (K.getD j 0 == x)) := by
  unfold inK
  rw [List.take_succ_eq_append_getElem h, List.contains_eq_any_beq, List.contains_eq_any_beq, List.any_append]
  have e : K.getD j 0 = K[j] := by simp [List.getD, List.getElem?_eq_getElem h]
  rw [e]
  simp [Bool.beq_comm]
def mayTo (L : List (List Int × Nat)) (j : Nat) : Bool := (L.take j).all fun d => Dm.mayL d.1 d.2
theorem mayTo_succ {L : List (List Int × Nat)} {j : Nat} (h : j < L.length) : mayTo L (j + 1) = (mayTo L j && Dm.mayL (L.getD j ([], 0)).1 (L.getD j ([], 0)).2) := by
  unfold mayTo
  rw [List.take_succ_eq_append_getElem h, List.all_append]
  simp [List.getD, List.getElem?_eq_getElem h]
/-- may a constraint of some kinds, and domains, be? -/
noncomputable def rightS (c : PCon) (L : List (List Int × Nat)) (K : List Int) : Bool := (inK K c.kind K.length && mayTo L L.length) && rightC c L.length

set_option maxHeartbeats 4000000 in
theorem rsright_any {w : World} {k r t : Int} {v1 v2 v3 v vk : Value} {c : PCon} {L : List (List Int × Nat)} {K : List Int} (hc : rCon w [.int .i64 k, v1, v2, .int .i64 r, .int .i64 t, v3] c) (hs : Short 1000 c) (h : Slc rDom 2 w v L) (hn : L.length ≤ 1000) (hm : ∀ d ∈ L, d.1.length ≤ 1000) (hk : Dm.Reads w vk K) (hK : K.length ≤ 100) :
    Calls Tryd.prog 27 #[.agg #[.int .i64 k, v1, v2, .int .i64 r, .int .i64 t, v3], v, vk] w fun e w' => e = .returned (.bool (rightS c L K)) ∧ Below w.heap.size w w' := by
  obtain ⟨p, b, off, cc, len, rfl, _, hss⟩ := h
  obtain ⟨pk, bk, ok, ck, rfl, hpk, hck⟩ := Dm.reads_shape hk
  have ek : k = c.kind := by
    obtain ⟨_, _, _, e, _⟩ := hc
    simp only [List.cons.injEq, Value.int.injEq, true_and] at e
    exact e.1
  have hl := hss.long
  have hp := hss.at_
  have hlen : len ≤ 1000 := by omega
  have HL := Lib.hid hl
  have HS := Lib.hid hss
  have HM := Lib.hid hm
  have HC := Lib.hid hck
  have HE := Lib.hid ek
  have RX := Lib.hid (fun u (hb : Below w.heap.size w u) => rrcon_any (w := u) (L.length : Int) (by constructor <;> omega) (rCon_stays _ _ _ _ hb hc) hs)
  obtain ⟨n, hn2⟩ : ∃ n, n = K.length := ⟨_, rfl⟩
  obtain ⟨R, hR⟩ : ∃ R, R = rightS c L K := ⟨_, rfl⟩
  rw [← hR]
  have HR := Lib.hid hR
  rw [← hn2] at hpk hK ⊢
  have HN := Lib.hid hn2
  rw [← hl] at RX
  obtain ⟨W0, hW0⟩ : ∃ W0, W0 = w.alloc (.cells #[.int .i64 k, v1, v2, .int .i64 r, .int .i64 t, v3] 24) := ⟨_, rfl⟩
  have HB0 := Lib.hid (show Below w.heap.size w W0 by rw [hW0]; exact new_below _ _)
  have HQ0 := Lib.hid (show ∀ j u, [Value.int .i64 k, v1, v2, .int .i64 r, .int .i64 t, v3][j]? = some u → W0.cell? ⟨w.heap.size, j, none⟩ = some u by rw [hW0]; exact six_at _ _ _ _ _ _ _ _)
  have HW := Lib.hid hW0
  clear hss hm hck ek hR hn2 hl hn hc hs hk hW0
  go_enter Tryd.func27, Tryd.ntmps27
  go_wp2_with fail
  rw [← HW.out]
  go_loopw [7, 8] (fun is i wr => ∃ (j q : Nat), j ≤ n ∧ i = .int .i64 j ∧ is = .bool (inK K c.kind j) ∧ wr = W0.drewN q) (fun _ i _ => n - (intOf i).toNat)
  case atStart => exact ⟨0, 0, by omega, rfl, rfl, rfl⟩
  case round =>
    obtain ⟨j, q, hj, rfl, rfl, rfl⟩ := hrel
    by_cases hlt : j < n
    · obtain rfl := hpk (by omega)
      have hjK : j < K.length := by have := HN.out; omega
      have cK := cell_below HB0.out (HC.out j hjK)
      have cQ := HQ0.out 0 _ rfl
      have hs2 := inK_succ (x := c.kind) hjK
      have d5 : (j : Int) < (n : Int) := by omega
      obtain ⟨y, hy⟩ : ∃ y, y = K.getD j 0 := ⟨_, rfl⟩
      rw [← hy] at cK hs2
      rw [← HE.out] at hs2
      have HS2 := Lib.hid hs2
      clear hy hs2 hjK
      rw [← HE.out]
      cases hb : inK K k j
      · rw [hb] at HS2
        go_wp2
        go_quiet (fail)
        go_wp2_with fail
        go_roundw
        case rel => exact ⟨j + 1, _, by omega, by go_num, by rw [HS2.out]; rfl, rfl⟩
        case measure => simp [intOf]; omega
      · rw [hb] at HS2
        go_wp2
        go_quiet (fail)
        go_wp2_with fail
        go_roundw
        case rel => exact ⟨j + 1, _, by omega, by go_num, by rw [HS2.out]; rfl, rfl⟩
        case measure => simp [intOf]; omega
    · have d6 : ¬ ((j : Int) < (n : Int)) := by omega
      have hj2 : j = K.length := by have := HN.out; omega
      have HI := Lib.hid (show inK K c.kind j = inK K c.kind K.length by rw [hj2])
      obtain ⟨B1, hB1⟩ : ∃ B1, B1 = inK K c.kind j := ⟨_, rfl⟩
      rw [← hB1]
      rw [← hB1] at HI
      obtain ⟨wa, hwa⟩ : ∃ wa, wa = W0.drewN q := ⟨_, rfl⟩
      rw [← hwa]
      have HA := Lib.hid (show Below W0.heap.size W0 wa by rw [hwa]; exact below_drewN (Below.refl _ W0))
      have H0 := Lib.hid (show mayTo L 0 = true from rfl)
      clear hB1 hwa hj2
      go_wp2_with fail
      go_loopw [7, 9] (fun is i wr => ∃ (j : Nat), j ≤ len ∧ i = .int .i64 j ∧ is = .bool (B1 && mayTo L j) ∧ Below W0.heap.size W0 wr) (fun _ i _ => len - (intOf i).toNat)
      case atStart => exact ⟨0, by omega, rfl, by rw [H0.out, Bool.and_true], HA.out⟩
      case round =>
        rename_i wr
        obtain ⟨m, hm, rfl, rfl, hB⟩ := hrel
        have HB := Lib.hid hB
        clear hB
        by_cases hlt2 : m < len
        · obtain rfl := hp (by omega)
          have hlL : m < L.length := by have := HL.out; omega
          have hs3 := mayTo_succ hlL
          have d7 : (m : Int) < (len : Int) := by omega
          obtain ⟨u, c0, c1, hrd, hx, _⟩ := dom_at (HS.out.below rDom_stays (below_two HB0.out HB.out)) hlt2
          have hmk : (L.getD m ([], 0)).1.length ≤ 1000 := HM.out _ (by rw [List.getD_eq_getElem?_getD, List.getElem?_eq_getElem hlL]; exact List.getElem_mem hlL)
          obtain ⟨d, hd⟩ : ∃ d, d = L.getD m ([], 0) := ⟨_, rfl⟩
          rw [← hd] at c1 hrd hx hs3 hmk
          obtain ⟨xs, x⟩ := d
          have LX := Lib.hid (Dm.rmay_any (Dm.reads_of_readsN hrd) (Nat.le_trans hmk (by decide)) x hx)
          obtain ⟨g, hg⟩ : ∃ g, g = Dm.mayL xs x := ⟨_, rfl⟩
          obtain ⟨A, hA⟩ : ∃ A, A = (B1 && mayTo L m) := ⟨_, rfl⟩
          have HS3 := Lib.hid (show (B1 && mayTo L (m + 1)) = (A && g) by rw [hs3, hA, hg, Bool.and_assoc])
          rw [← hg] at LX
          rw [← hA]
          clear hs3 hA hg hrd hmk hd hlL
          cases A
          · go_wp2_with fail
            go_roundw
            case rel => exact ⟨m + 1, by omega, by go_num, by rw [HS3.out]; rfl, HB.out⟩
            case measure => simp [intOf]; omega
          · go_wp2_with fail
            refine LX.out.mono ?_
            rintro e w7 ⟨rfl, hB7⟩
            have HB7 := Lib.hid (below_two HB.out hB7)
            clear hB7
            go_wp2_with fail
            go_roundw
            case rel => exact ⟨m + 1, by omega, by go_num, by rw [HS3.out]; rfl, HB7.out⟩
            case measure => simp [intOf]; omega
        · have d6 : ¬ ((m : Int) < (len : Int)) := by omega
          have hm2 : m = L.length := by have := HL.out; omega
          have HJ := Lib.hid (show R = ((B1 && mayTo L m) && rightC c (len : Int)) by rw [HR.out, rightS, HI.out, hm2, HL.out])
          obtain ⟨A, hA⟩ : ∃ A, A = (B1 && mayTo L m) := ⟨_, rfl⟩
          rw [← hA] at HJ ⊢
          have q0 := cell_below HB.out (HQ0.out 0 _ rfl)
          have q1 := cell_below HB.out (HQ0.out 1 _ rfl)
          have q2 := cell_below HB.out (HQ0.out 2 _ rfl)
          have q3 := cell_below HB.out (HQ0.out 3 _ rfl)
          have q4 := cell_below HB.out (HQ0.out 4 _ rfl)
          have q5 := cell_below HB.out (HQ0.out 5 _ rfl)
          have RY := Lib.hid (RX.out wr (below_two HB0.out HB.out))
          obtain ⟨g, hg⟩ : ∃ g, g = rightC c (len : Int) := ⟨_, rfl⟩
          rw [← hg] at RY HJ
          clear hA hm2 hg
          cases A
          · go_wp2_with fail
            go_ret
            exact ⟨by rw [HJ.out]; rfl, below_two HB0.out HB.out⟩
          · go_wp2_with fail
            refine RY.out.mono ?_
            rintro e w7 ⟨rfl, hB7⟩
            have HB7 := Lib.hid (below_two HB.out hB7)
            clear hB7
            go_wp2_with fail
            go_ret
            exact ⟨by rw [HJ.out]; rfl, below_two HB0.out HB7.out⟩
end Go.Proofs.YtiaibggbbkhjlaaDoor.St
namespace Go.Proofs.YtiaibggbbkhjlaaDoor.St
open Go.RowKit
set_option maxRecDepth 100000

theorem dom_at2 {w : World} {p : Option Addr} {b off len : Nat} {L : List (List Int × Nat)} (h : SliceOf rDom 2 w p b off len L) {k : Nat} (hk : k < len) :
    ∃ (x : List Int × Nat) (u : Value), L[k]? = some x ∧ (w.cell? ⟨b, off + k * 2, none⟩ = some u ∧ w.cell? ⟨b, off + k * 2 + 1, none⟩ = some (.int .u64 x.2)) ∧ rDom w [u, .int .u64 x.2] x := by
  have hk' : k < L.length := by have := h.long; omega
  obtain ⟨cs, h1, h2, u, rfl, h3, h4, h5⟩ := h.cell k _ (List.getElem?_eq_getElem hk')
  exact ⟨_, u, List.getElem?_eq_getElem hk', ⟨by have := h2 0 (by omega); simpa using this, by have := h2 1 (by omega); simpa using this⟩, u, rfl, h3, h4, h5⟩
theorem rDom_parts {w : World} {u : Value} {n : Nat} {x : List Int × Nat} (h : rDom w [u, .int .u64 n] x) : Dm.ReadsN w u x.1 ∧ x.2 < 18446744073709551616 ∧ n = x.2 := by
  obtain ⟨u', e, h1, h2, _⟩ := h
  simp only [List.cons.injEq, Value.int.injEq, true_and, and_true] at e
  obtain ⟨rfl, e⟩ := e
  exact ⟨h1, h2, by omega⟩
theorem rDom_shape {w : World} {u : Value} {n : Nat} {x : List Int × Nat} (h : rDom w [u, .int .u64 n] x) : ∃ (p : Option Addr) (l c : Nat), u = .slice p l c := by
  obtain ⟨p, n, c, e⟩ := Dm.reads_slice (Dm.reads_of_readsN (rDom_parts h).1)
  exact ⟨p, _, c, e⟩

set_option maxHeartbeats 400000 in
theorem indexM_cells (g : Nat) (hE : Enters Tryd.prog g) (env : Array Value) (f : List Int × Nat → Bool) (p : Option Addr) (b off c len : Nat) (L : List (List Int × Nat)) (w : World) (h : SliceOf rDom 2 w p b off len L) (hl : len ≤ 1000000)
    (hf : ∀ (u : World) (x : List Int × Nat) (v1 : Value), Below w.heap.size w u → x ∈ L → rDom u [v1, .int .u64 x.2] x → Calls Tryd.prog g (#[.agg #[v1, .int .u64 x.2]] ++ env) u fun e w' => e = .returned (.bool (f x)) ∧ Below u.heap.size u w') :
    Calls Tryd.prog 42 #[.slice p len c, .func (.func g) #[] env] w fun e w' => ∃ z : Int, e = .returned (.int .i64 z) ∧ decide (0 ≤ z) = L.any f ∧ -1 ≤ z ∧ Below w.heap.size w w' := by
  have HX := Lib.hid h
  have hp := h.at_
  have HN := Lib.hid h.long
  have HF := Lib.hid hf
  have HE := Lib.hid hE
  obtain ⟨R, hR⟩ : ∃ R, R = L.any f := ⟨_, rfl⟩
  rw [← hR]
  have HR := Lib.hid hR
  have HS := Lib.hid (show R = (L.drop 0).any f by rw [hR]; simp)
  clear h hf hE hR
  go_enter Tryd.func42, Tryd.ntmps42
  go_wp2
  go_loopw [8] (fun i wr => ∃ k : Nat, k ≤ len ∧ i = .int .i64 k ∧ R = (L.drop k).any f ∧ Below w.heap.size w wr) (fun i _ => len - (intOf i).toNat)
  case atStart => exact ⟨0, by omega, rfl, HS.out, Below.refl _ _⟩
  case round =>
    obtain ⟨k, hk, rfl, hrel, hB⟩ := hrel
    by_cases hlt : k < len
    · obtain rfl := hp (by omega)
      obtain ⟨x, u, ex, ⟨a0, a1⟩, hx⟩ := dom_at2 (HX.out.below rDom_stays hB) hlt
      obtain ⟨p1, l1, c1, rfl⟩ := rDom_shape hx
      have hstep := hrel.trans (any_at f ex)
      have C := Lib.hid (HF.out wr x _ hB (List.mem_of_getElem? ex) hx)
      have HB := Lib.hid hB
      generalize x.2 = xk at a1 C
      cases hfx : f x
      · rw [hfx] at C hstep
        have NX := Lib.hid (hstep.trans (Bool.false_or _))
        clear hstep hrel hB ex hx hfx
        go_wp2_with fail
        simp only [HE.out _ _]
        refine C.out.mono ?_
        rintro e w2 ⟨rfl, hB2⟩
        have HB2 := Lib.hid (HB.out.trans (hB2.mono HB.out.size))
        clear hB2
        go_wp2_with fail
        go_roundw
        case rel => exact ⟨k + 1, by omega, by go_num, NX.out, HB2.out⟩
        case measure => simp [intOf]; omega
      · rw [hfx] at C hstep
        have key : R = true := hstep.trans (Bool.true_or _)
        subst key
        clear hstep hrel hB ex hx hfx
        go_wp2_with fail
        simp only [HE.out _ _]
        refine C.out.mono ?_
        rintro e w2 ⟨rfl, hB2⟩
        have HB2 := Lib.hid (HB.out.trans (hB2.mono HB.out.size))
        clear hB2
        go_wp2_with fail
        go_ret
        exact ⟨_, rfl, by simp, by omega, HB2.out⟩
    · have key : R = false := hrel.trans (any_end f (by rw [← HN.out]; omega))
      subst key
      have HB := Lib.hid hB
      clear hrel hB
      go_wp2_with fail
      go_ret
      exact ⟨_, rfl, by simp, by omega, HB.out⟩
set_option maxHeartbeats 400000 in
theorem hasM_any (g : Nat) (hE : Enters Tryd.prog g) (env : Array Value) (f : List Int × Nat → Bool) (p : Option Addr) (b off c len : Nat) (L : List (List Int × Nat)) (w : World) (h : SliceOf rDom 2 w p b off len L) (hl : len ≤ 1000000)
    (hf : ∀ (u : World) (x : List Int × Nat) (v1 : Value), Below w.heap.size w u → x ∈ L → rDom u [v1, .int .u64 x.2] x → Calls Tryd.prog g (#[.agg #[v1, .int .u64 x.2]] ++ env) u fun e w' => e = .returned (.bool (f x)) ∧ Below u.heap.size u w') :
    Calls Tryd.prog 22 #[.slice p len c, .func (.func g) #[] env] w fun e w' => e = .returned (.bool (L.any f)) ∧ Below w.heap.size w w' := by
  have C := Lib.hid (indexM_cells g hE env f p b off c len L w h hl hf)
  clear hf hE h
  obtain ⟨R, hR⟩ : ∃ R, R = L.any f := ⟨_, rfl⟩
  rw [← hR] at C ⊢
  clear hR hl
  go_enter Tryd.func22, Tryd.ntmps22
  go_wp2_with fail
  refine C.out.mono ?_
  rintro e w2 ⟨z, rfl, hz, hz1, hB⟩
  have HZ := Lib.hid hz
  have HB := Lib.hid hB
  clear hB hz
  cases R
  · have d : decide (0 ≤ z) = false := HZ.out
    go_wp2_with fail
    go_ret
    exact ⟨rfl, HB.out⟩
  · have d : decide (0 ≤ z) = true := HZ.out
    go_wp2_with fail
    go_ret
    exact ⟨rfl, HB.out⟩

section
variable {u : World} {v1 : Value} {x : List Int × Nat} (hr : rDom u [v1, .int .u64 x.2] x) (hm : x.1.length ≤ 1000)
include hr hm

end

/-- may a constraint of this package, and domains, be? -/
noncomputable def rightP (c : PCon) (L : List (List Int × Nat)) : Bool := (decide (c.kind = 1 ∨ c.kind = 3) && rightC c L.length) && !(L.any fun d => !Dm.mayL d.1 d.2)
end Go.Proofs.YtiaibggbbkhjlaaDoor.St
