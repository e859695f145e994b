/-
  What Keep of the document's answers answers, at every domain and every list of numbers.
-/
import Derived.Test.YtiaibggbbkhjlaaDoorZYAL
import Derived.Test.YtiaibggbbkhjlaaDoorZYAM
namespace Go.Proofs.YtiaibggbbkhjlaaDoor.Dm
open Go.RowKit
set_option maxRecDepth 100000

/-- a list of numbers behind another one, as one step of a region -/
theorem step_append_ints {w : World} {ops : Array Oper} {o : Oper} {a : Act} {K : Act → World → Prop} {Q : Exit → Act → World → Prop} {E : Prop} (hgd : o.guard = none) (s x : Operand)
    (ho : o.op = .call { callee := .builtin .append, args := #[s, x], argTypes := #[22, 22] }) (base : Nat) (v u : Value) (xs ys : List Int) (hs : a.eval s = v) (hx : a.eval x = u)
    (hown : OwnsI w base v xs) (hu : ReadsN w u ys) (hlen : xs.length + ys.length ≤ 100000) (hbase : base ≤ w.heap.size)
    (h : ∀ v' w', OwnsI w' base v' (xs ++ ys) → w.grownBy w' v.ownBlock → K (a.put o.dst v') w') : if Region.wanted o (yielded ops a.tmps) = true then Oper.wp Tryd.prog o a w K Q else E := by
  have hw : Region.wanted o (yielded ops a.tmps) = true := by simp [Region.wanted, hgd]
  rw [if_pos hw]
  obtain ⟨i0, hi, hz0, hz1, hz2⟩ := info_parts info3
  rcases hu with ⟨rfl, rfl⟩ | ⟨ad, c, rfl, rfl⟩ | ⟨b, off, c, rfl, hcell⟩
  · have hrun := run_append_owned_none (P := Tryd.prog) (w := w) base 22 o.type 3 i0 1 Tryd.underlying22 hi v xs.length _ hown
    unfold Oper.wp
    simp [execOp, ho, resolve, invoke, builtin, hs, hx, hrun, Result.andThen]
    exact h v w (by rw [List.append_nil]; exact hown) (grown_refl w _)
  · refine wp_append_own w s x 22 ho base 3 i0 (.int .i64 0) 1 8 Tryd.underlying22 hi hz0 hz1 hz2 rfl (by decide) v xs.length _ hs hown ad 0 c [] hx (by simp) (fun j z hj => by simp at hj) (fun z hz => by simp at hz) ?_ (by omega) hbase ?_
    · unfold maxLen
      omega
    · intro v' w' h1 h2 _
      refine h v' w' ?_ h2
      rw [List.append_nil]
      simpa [OwnsI] using h1
  · refine wp_append_own w s x 22 ho base 3 i0 (.int .i64 0) 1 8 Tryd.underlying22 hi hz0 hz1 hz2 rfl (by decide) v xs.length _ hs hown ⟨b, off, none⟩ ys.length c (ys.map (Value.int .i64)) hx (by simp) ?_ ?_ ?_ (by omega) hbase ?_
    · intro j z hj
      rw [List.getElem?_map] at hj
      by_cases hlt : j < ys.length
      · have := hcell j hlt
        rw [List.getElem?_eq_getElem hlt] at hj
        simp only [Option.map_some, Option.some.injEq] at hj
        rw [addr_add, this, ← hj]
        simp [hlt]
      · rw [List.getElem?_eq_none (by omega)] at hj
        simp at hj
    · intro z hz
      obtain ⟨y, _, rfl⟩ := List.mem_map.1 hz
      rfl
    · unfold maxLen
      omega
    · intro v' w' h1 h2 _
      refine h v' w' ?_ h2
      unfold OwnsI
      rw [List.length_append, List.map_append]
      exact h1

theorem range_below {u u' : World} {b o : Nat} {cs : List Value} (h : u.rangeAt b o cs) (hb : Below u.heap.size u u') : u'.rangeAt b o cs := fun j v hv => cell_below hb (h j v hv)
theorem heldK {W0 u u' : World} {p0 : Addr} {a0 : Value} {b o : Nat} {cs : List Value} (h : u.cell? p0 = some a0 ∧ u.rangeAt b o cs ∧ Below W0.heap.size W0 u) (hb : Below u.heap.size u u') :
    u'.cell? p0 = some a0 ∧ u'.rangeAt b o cs ∧ Below W0.heap.size W0 u' := ⟨cell_below hb h.1, range_below h.2.1 hb, below_two h.2.2 hb⟩
theorem heldK_set {W0 u : World} {p0 : Addr} {a0 y0 y1 : Value} {b o r : Nat} {cs : List Value} (h : u.cell? p0 = some a0 ∧ u.rangeAt b o cs ∧ Below W0.heap.size W0 u) (h0 : p0.block ≠ r) (h1 : b ≠ r) (hr : W0.heap.size ≤ r) :
    ((u.setCell ⟨r, 0, none⟩ y0).setCell ⟨r, 1, none⟩ y1).cell? p0 = some a0 ∧ ((u.setCell ⟨r, 0, none⟩ y0).setCell ⟨r, 1, none⟩ y1).rangeAt b o cs ∧ Below W0.heap.size W0 ((u.setCell ⟨r, 0, none⟩ y0).setCell ⟨r, 1, none⟩ y1) :=
  ⟨cell_set (cell_set h.1 h0) h0, fun j v hv => cell_set (cell_set (h.2.1 j v hv) h1) h1, (h.2.2.setCell hr _).setCell hr _⟩
theorem heldKb {W0 u : World} {p0 : Addr} {a0 : Value} {b o : Nat} {cs : List Value} (h : u.cell? p0 = some a0 ∧ u.rangeAt b o cs ∧ Below W0.heap.size W0 u) : Below W0.heap.size W0 u := h.2.2
theorem range_new (u : World) (cs : List Value) (t : TypeId) (k : Nat) (hk : k = u.heap.size) : (u.alloc (.cells cs.toArray t)).rangeAt k 0 cs := fun j v hv => by
  subst hk
  have : (u.alloc (.cells cs.toArray t)).cell? ⟨u.heap.size, j, none⟩ = cs.toArray[j]? := by simp
  rw [Nat.zero_add, this]
  simpa using hv

theorem set_new (u : World) (D : Array Value) (t : TypeId) (k n : Nat) (v : Value) : ((u.alloc (.cells D t)).drewN n).setCell ⟨u.heap.size, k, none⟩ v = (u.drewN n).alloc (.cells (D.setIfInBounds k v) t) := by
  have h : (u.alloc (.cells D t)).setCell ⟨u.heap.size, k, none⟩ v = u.alloc (.cells (D.setIfInBounds k v) t) := by go_simp
  show ((u.alloc (.cells D t)).setCell ⟨u.heap.size, k, none⟩ v).drewN n = _
  rw [h]
  rfl

/-- a yes for each of the first i places that is left, and whose value is in the list; of place i for the first k of the list alone -/
def ynP (xs ls : List Int) (x i k j : Nat) : Bool := (decide (j < i) && (x.testBit j && decide (xs.getD j 0 ∈ ls))) || (decide (j = i) && (x.testBit i && decide (xs.getD i 0 ∈ ls.take k)))
theorem yn_start (xs ls : List Int) (x j : Nat) : ynP xs ls x 0 0 j = false := by simp [ynP]
theorem yn_hit {xs ls : List Int} {x i k : Nat} (hk : k < ls.length) (he : ls.getD k 0 = xs.getD i 0) (hb : x.testBit i = true) (j : Nat) : (if j = i then true else ynP xs ls x i k j) = ynP xs ls x i (k + 1) j := by
  unfold ynP
  by_cases e : j = i
  · subst e
    have := (take_mem_succ hk (xs.getD j 0)).2 (.inr he.symm)
    simp only [hb, decide_eq_true this]
    simp
  · simp [e]
theorem yn_miss {xs ls : List Int} {x i k : Nat} (hk : k < ls.length) (h : ls.getD k 0 = xs.getD i 0 → x.testBit i = false) (j : Nat) : ynP xs ls x i k j = ynP xs ls x i (k + 1) j := by
  unfold ynP
  by_cases e : j = i
  · subst e
    cases hb : x.testBit j
    · simp
    · have h1 : ¬ ls.getD k 0 = xs.getD j 0 := fun he => by rw [h he] at hb; simp at hb
      have h2 : (xs.getD j 0 ∈ ls.take (k + 1)) ↔ xs.getD j 0 ∈ ls.take k := by
        rw [take_mem_succ hk]
        constructor
        · rintro (h3 | h3)
          · exact h3
          · exact absurd h3.symm h1
        · exact .inl
      simp only [decide_eq_decide.2 h2]
  · simp [e]
theorem yn_next (xs ls : List Int) (x i j : Nat) : ynP xs ls x i ls.length j = ynP xs ls x (i + 1) 0 j := by
  unfold ynP
  rw [List.take_length]
  by_cases e : j = i
  · subst e
    simp
  · have h1 : (j < i + 1) = (j < i) := by simp; omega
    simp [e, h1]
theorem yn_end {xs ls : List Int} {x : Nat} : B.mk 64 (ynP xs ls x xs.length 0) = keepN xs x (fun y => decide (y ∈ ls)) := by
  refine B.mk_congr fun k _ => ?_
  unfold ynP
  cases x.testBit k <;> simp

set_option maxRecDepth 100000 in
set_option maxHeartbeats 8000000 in
theorem rkeep_any {w : World} {v s : Value} {xs ls : List Int} (hr : ReadsN w v xs) (hls : Reads w s ls) (hm : xs.length ≤ 1000) (hml : ls.length ≤ 1000) (x : Nat) (hx : x < 18446744073709551616) :
    Calls Tryd.prog 45 #[.agg #[v, .int .u64 x], s] w fun e w' => ∃ r, e = .returned r ∧ DomAt w.heap.size (keepX xs x) (keepL xs x (fun y => decide (y ∈ ls))) r w' ∧ Below w.heap.size w w' := by
  have hM := fun u (hb : Below w.heap.size w u) => rmay_any (reads_below (reads_of_readsN hr) hb) (Nat.le_trans hm (by decide)) x hx
  have HRN := Lib.hid hr
  obtain ⟨p, b, off, c, rfl, hp, hc⟩ := reads_shape (reads_of_readsN hr)
  obtain ⟨p', b', off', c', rfl, hp', hc'⟩ := reads_shape hls
  obtain ⟨W0, hW0⟩ : ∃ W0, W0 = (w.alloc (.cells #[.slice p xs.length c, .int .u64 x] 66)).alloc (.cells #[.slice none 0 0, .int .u64 0] 66) := ⟨_, rfl⟩
  have hB0 : Below w.heap.size w W0 := by rw [hW0]; exact below_two (below_alloc0 _ _) (below_alloc0 _ _)
  have q0 : W0.cell? ⟨w.heap.size, 0, none⟩ = some (.slice p xs.length c) ∧ W0.cell? ⟨w.heap.size, 1, none⟩ = some (.int .u64 x) := by
    rw [hW0]
    exact ⟨cell_below (below_alloc0 _ _) (new_two0 _ _ _ _).1, cell_below (below_alloc0 _ _) (new_two0 _ _ _ _).2⟩
  have hd : W0.cell? ⟨w.heap.size + 1, 0, none⟩ = some (.slice none 0 0) ∧ W0.cell? ⟨w.heap.size + 1, 1, none⟩ = some (.int .u64 0) ∧ W0.frozen? ⟨w.heap.size + 1, 0, none⟩ = false ∧ W0.frozen? ⟨w.heap.size + 1, 1, none⟩ = false := by
    rw [hW0]
    exact new_two _ _ _ _ _ (by simp)
  have hsz : W0.heap.size = w.heap.size + 2 := by rw [hW0]; simp
  have MA := Lib.hid (hM W0 hB0)
  have HX := Lib.hid hc
  have HY := Lib.hid hc'
  have HB := Lib.hid hB0
  have HQ := Lib.hid q0
  have HD := Lib.hid hd
  have HW := Lib.hid hW0
  have HSZ := Lib.hid hsz
  obtain ⟨len, hlen⟩ : ∃ len : Nat, len = xs.length := ⟨_, rfl⟩
  obtain ⟨n, hn⟩ : ∃ n : Nat, n = ls.length := ⟨_, rfl⟩
  rw [← hlen] at MA HW HQ HRN hp hm ⊢
  rw [← hn] at hp' hml ⊢
  have HN := Lib.hid hlen
  have HN' := Lib.hid hn
  clear hr hls hM hc hc' hW0 hB0 q0 hd hsz hlen hn
  cases hmay : mayL xs x
  · rw [hmay] at MA
    have HR : Hid (keepX xs x = [] ∧ keepL xs x (fun y => decide (y ∈ ls)) = 0) := by simp [keepX, keepL, hmay]; trivial
    clear hmay hp hp'
    go_enter Tryd.func45, Tryd.ntmps45
    go_wp2_with fail
    rw [← HW.out]
    refine MA.out.mono ?_
    rintro e w1 ⟨rfl, hB⟩
    have HB1 := Lib.hid (below_two HB.out hB)
    have d0 := cell_below hB HD.out.1
    have d1 := cell_below hB HD.out.2.1
    have f0 := frozen_below hB HD.out.1 HD.out.2.2.1
    have f1 := frozen_below hB HD.out.2.1 HD.out.2.2.2
    clear hB
    go_wp2_with fail
    (try simp only [Exit.inBlock, Exit.then])
    refine bodyPost_ret (results_rdom rfl _ _ (w.heap.size + 1) (.slice none 0 0) (.int .u64 0) rfl ?c0a ?c1a) rfl ?resta
    case c0a => go_simp
    case c1a => go_simp
    refine ⟨_, rfl, ?_, (HB1.out.setCell (Nat.le_succ _) _).setCell (Nat.le_succ _) _⟩
    rw [HR.out.1, HR.out.2]
    exact dom_zero _ _
  · rw [hmay] at MA
    have HR : Hid (keepX xs x = xs ∧ keepL xs x (fun y => decide (y ∈ ls)) = B.mk 64 (ynP xs ls x xs.length 0)) := by
      rw [yn_end]
      simp [keepX, keepL, hmay]
      trivial
    have h64 : len ≤ 64 := by have h1 := (may_iff.1 hmay).1; have h2 := HN.out; omega
    obtain ⟨Z, hZ, hz⟩ := B.zero_ops
    have HZ := Lib.hid hZ
    clear hmay hZ
    go_enter Tryd.func45, Tryd.ntmps45
    go_wp2_with fail
    rw [← HW.out]
    refine MA.out.mono ?_
    rintro e w1 ⟨rfl, hB⟩
    have HB1 := Lib.hid (below_two HB.out hB)
    have HQ1 := Lib.hid (And.intro (cell_below hB HQ.out.1) (cell_below hB HQ.out.2))
    have HD1 := Lib.hid (And.intro (cell_below hB HD.out.1) (And.intro (cell_below hB HD.out.2.1) (And.intro (frozen_below hB HD.out.1 HD.out.2.2.1) (frozen_below hB HD.out.2.1 HD.out.2.2.2))))
    have HZ1 : Hid (w.heap.size + 1 < w1.heap.size) := by
      have h1 := hB.size
      have h2 := HSZ.out
      exact Nat.lt_of_lt_of_le (by omega) h1
    clear hB
    go_upto_region 3 with fail
    refine hz rfl rfl rfl rfl rfl rfl rfl rfl ?_
    clear hz
    have k0 := cell_below (below_alloc0 w1 (.cells Z 84)) HQ1.out.1
    have k1 := cell_below (below_alloc0 w1 (.cells Z 84)) HQ1.out.2
    go_wp2_with fail
    clear k0 k1
    go_loopw [6, 7] (fun l i wr => ∃ (k q : Nat) (C : Array Value), k ≤ len ∧ i = .int .i64 k ∧ l = .int .u64 (x / 2 ^ k : Nat) ∧ wr = (w1.drewN q).alloc (.cells C 84) ∧ Hid (B.Yn C (ynP xs ls x k 0))) (fun _ i _ => len - (intOf i).toNat)
    case atStart => exact ⟨0, 0, Z, by omega, rfl, by simp, rfl, Lib.hid (B.yn_congr HZ.out fun j _ => (yn_start xs ls x j).symm)⟩
    case round =>
      obtain ⟨k, q, C, hk, rfl, rfl, rfl, HC⟩ := hrel
      have hub : ∀ q (o : Obj), Below w1.heap.size w1 ((w1.drewN q).alloc o) := fun q o => below_two (below_drewN (n := q) (Below.refl _ w1)) (below_alloc0 _ _)
      have HUB := Lib.hid hub
      by_cases hlt : k < len
      · obtain rfl := hp (by omega)
        have hlx : k < xs.length := by have := HN.out; omega
        have hd : x / 2 ^ k < 18446744073709551616 := Nat.lt_of_le_of_lt (Nat.div_le_self _ _) hx
        have hdd : x / 2 ^ k / 2 = x / 2 ^ (k + 1) := by rw [Nat.div_div_eq_div_mul, Nat.pow_succ]
        have hbit : x.testBit k = decide (x / 2 ^ k % 2 = 1) := Nat.testBit_eq_decide_div_mod_eq
        have hcx := HX.out k hlx
        obtain ⟨y, ey⟩ : ∃ y, y = xs.getD k 0 := ⟨_, rfl⟩
        rw [← ey] at hcx
        have CX := Lib.hid (cell_below HB1.out hcx)
        have EY := Lib.hid ey
        have E := Lib.hid hdd
        have EB := Lib.hid hbit
        obtain ⟨t, et⟩ : ∃ t, t = x / 2 ^ k := ⟨_, rfl⟩
        rw [← et] at hd E EB ⊢
        have d5 : (k : Int) < (len : Int) := by omega
        have d8 : (k : Int) < 64 := by omega
        have k0 := cell_below (hub q (.cells C 84)) HQ1.out.1
        clear hub hcx ey hdd hbit et hlx
        go_wp2_with fail
        clear k0
        go_loopw [8] (fun i wq => ∃ (j q2 : Nat) (D : Array Value), j ≤ n ∧ i = .int .i64 j ∧ wq = (w1.drewN q2).alloc (.cells D 84) ∧ Hid (B.Yn D (ynP xs ls x k j))) (fun i _ => n - (intOf i).toNat)
        case atStart => exact ⟨0, q, C, by omega, rfl, rfl, HC⟩
        case round =>
          obtain ⟨j, q2, D, hj, rfl, rfl, HC⟩ := hrel
          by_cases hjn : j < n
          · obtain rfl := hp' (by omega)
            have hlj : j < ls.length := by have := HN'.out; omega
            have hcl := HY.out j hlj
            obtain ⟨z, ez⟩ : ∃ z, z = ls.getD j 0 := ⟨_, rfl⟩
            rw [← ez] at hcl
            have cl := cell_below (HUB.out q2 (.cells D 84)) (cell_below HB1.out hcl)
            have cx := cell_below (HUB.out q2 (.cells D 84)) CX.out
            have k0 := cell_below (HUB.out q2 (.cells D 84)) HQ1.out.1
            have hcd := HC.out.2 k (by omega)
            have HIT := Lib.hid (yn_hit (xs := xs) (x := x) (i := k) hlj)
            have MISS := Lib.hid (yn_miss (xs := xs) (x := x) (i := k) hlj)
            rw [← EY.out, ← ez] at HIT MISS
            have d6 : (j : Int) < (n : Int) := by omega
            clear hcl ez hlj
            by_cases hzy : z = y
            · by_cases ht : t % 2 = 1
              · have hbt : x.testBit k = true := by rw [EB.out]; simpa using ht
                have NX := Lib.hid (B.yn_congr (B.yn_on HC.out k (by omega) true) fun i _ => HIT.out hzy hbt i)
                have d7 : ((t : Int) % 2) = 1 := by omega
                clear hbt HIT MISS
                subst hzy
                obtain ⟨u, hu⟩ : ∃ u, u = w1.drewN q2 := ⟨_, rfl⟩
                have hs : w1.heap.size = u.heap.size := by rw [hu]; rfl
                rw [← hu] at cl cx k0 ⊢
                rw [hs]
                have HU := Lib.hid hu
                clear hu hs
                go_wp2
                go_quiet (fail)
                go_wp2_with fail
                obtain rfl := HU.out
                go_roundw
                case rel => exact ⟨j + 1, q2 + nq, _, by omega, by go_num, by rw [← World.drewN_drewN]; exact set_new _ _ _ _ _ _, NX⟩
                case measure => simp [intOf]; omega
              · have hbt : x.testBit k = false := by rw [EB.out]; simpa using ht
                have NX := Lib.hid (B.yn_congr HC.out fun i _ => MISS.out (fun _ => hbt) i)
                have d7 : (((t : Int) % 2) == 1) = false := by rw [beq_eq_false_iff_ne]; omega
                clear hbt HIT MISS
                subst hzy
                go_wp2
                go_quiet (fail)
                go_wp2_with fail
                go_roundw
                case rel => exact ⟨j + 1, q2 + nq, _, by omega, by go_num, by rw [← World.drewN_drewN]; rfl, NX⟩
                case measure => simp [intOf]; omega
            · have NX := Lib.hid (B.yn_congr HC.out fun i _ => MISS.out (fun h => absurd h hzy) i)
              have d7 : (z == y) = false := by rw [beq_eq_false_iff_ne]; exact hzy
              clear HIT MISS
              go_wp2
              go_quiet (fail)
              go_wp2_with fail
              go_roundw
              case rel => exact ⟨j + 1, q2 + nq, _, by omega, by go_num, by rw [← World.drewN_drewN]; rfl, NX⟩
              case measure => simp [intOf]; omega
          · have ej : j = ls.length := by have := HN'.out; omega
            have NX := Lib.hid (show B.Yn D (ynP xs ls x (k + 1) 0) from B.yn_congr HC.out fun i _ => by rw [ej]; exact yn_next xs ls x k i)
            clear ej HC
            go_wp2_with fail
            go_roundw
            case rel => exact ⟨k + 1, q2, D, by omega, by go_num, by rw [← E.out]; simp, rfl, NX⟩
            case measure => simp [intOf]; omega
      · have ek : k = xs.length := by have := HN.out; omega
        rw [ek] at HC
        obtain ⟨cs, rfl⟩ : ∃ cs, C = List.toArray cs := ⟨C.toList, by simp⟩
        have SE := Lib.hid (B.set_any cs.toArray _ HC.out)
        obtain ⟨WR, hWR⟩ : ∃ WR, WR = (w1.drewN q).alloc (.cells cs.toArray 84) := ⟨_, rfl⟩
        have hbR : Below w1.heap.size w1 WR := by rw [hWR]; exact hub q _
        have hrg : WR.rangeAt w1.heap.size 0 cs := by rw [hWR]; exact range_new (w1.drewN q) cs _ _ rfl
        have H0 := Lib.hid (And.intro (cell_below hbR HQ1.out.1) (And.intro hrg (below_two HB1.out hbR)))
        have HBR := Lib.hid hbR
        have hu72 := Tryd.underlying84
        have hi72 : (Tryd.prog.info? 84).map (·.size) = some cs.length := by
          have := HC.out.1
          simp at this
          rw [this]
          exact B.info37
        have k0 := cell_below hbR HQ1.out.1
        have N0 : Hid (w.heap.size ≠ w.heap.size + 1) := Nat.ne_of_lt (Nat.lt_succ_self _)
        have N1 : Hid (w1.heap.size ≠ w.heap.size + 1) := Nat.ne_of_gt HZ1.out
        have RN := Lib.hid (readsN_below HRN.out (below_two HB1.out hbR))
        rw [← hWR]
        clear hub hbR hrg hWR hp hp' ek HC HX HY
        go_wp2_with fail
        go_region_held3 (fun w' => w'.cell? ⟨w.heap.size, 0, none⟩ = some (.slice p len c) ∧ w'.rangeAt w1.heap.size 0 cs ∧ Below w.heap.size w w')
          (first | exact heldK (by assumption) (below_alloc0 _ _) | exact heldK H0.out hBA | exact heldK_set (by assumption) N0.out N1.out (Nat.le_succ _) | exact heldK H0.out (below_drewN (n := 1) (Below.refl _ _)))
          (first
            | (refine step_append_ints rfl _ _ rfl WR.heap.size _ _ [] xs rfl rfl (World.ownsRow_made WR.drew #[] 0 (Nat.le_refl _) (by decide) rfl) (readsN_below RN.out (below_two (below_drewN (n := 1) (Below.refl _ _)) (below_alloc0 _ _))) (by simp; have := HN.out; omega) (by simp) ?_; intro v2 w2 ho2 hg2; obtain ⟨p2, n2, c2, rfl⟩ := reads_slice (reads_of_owns ho2); have hBA : Below WR.heap.size WR w2 := (below_two (below_drewN (n := 1) (Below.refl WR.heap.size WR)) (below_alloc0 _ _)).grown hg2 (by simp) (fun j e => by have e' := Option.some.inj e; simp at e'; omega); have HO2 := Lib.hid ho2; have HBA := Lib.hid hBA)
            | (go_at_call 59; refine (SE.out _).mono ?_; rintro e w3 ⟨rfl, rfl⟩; have d0 := cell_below (below_two HBR.out (below_two HBA.out (below_alloc0 w2 (.cells cs.toArray 84)))) HD1.out.1; have d1 := cell_below (below_two HBR.out (below_two HBA.out (below_alloc0 w2 (.cells cs.toArray 84)))) HD1.out.2.1; have f0 := frozen_below (below_two HBR.out (below_two HBA.out (below_alloc0 w2 (.cells cs.toArray 84)))) HD1.out.1 HD1.out.2.2.1; have f1 := frozen_below (below_two HBR.out (below_two HBA.out (below_alloc0 w2 (.cells cs.toArray 84)))) HD1.out.2.1 HD1.out.2.2.2))
        have hH := heldKb (W0 := w) (by assumption)
        have HH := Lib.hid hH
        clear hH
        go_wp2_with fail
        (try simp only [Exit.inBlock, Exit.then])
        refine bodyPost_ret (results_rdom rfl _ _ (w.heap.size + 1) (.slice p2 n2 c2) (.int .u64 (B.mk 64 (ynP xs ls x xs.length 0) : Nat)) rfl ?c0b ?c1b) rfl ?restb
        case c0b => go_simp
        case c1b => go_simp
        have hlt1 : w.heap.size + 1 < WR.heap.size := Nat.lt_of_lt_of_le HZ1.out HBR.out.size
        refine ⟨_, rfl, ⟨_, by rw [HR.out.2], ?_⟩, HH.out⟩
        rw [HR.out.1]
        exact owns_low (ownsRow_setCell_below (ownsRow_setCell_below (owns_below HO2.out (below_alloc0 _ _)) hlt1 _) hlt1 _) (by omega)
end Go.Proofs.YtiaibggbbkhjlaaDoor.Dm
