/-
  What Right, In, Size, Place and Same of the document's answers answer, at every list of spans that can be read.
  Models that may be, as plain data; sizes of domains in memory.
  What follows of texts of models: what stands ahead of a wrong place is right; blanks change nothing; what is no model has a place within the text. Nothing of the program.
-/
import Derived.Test.YtfkakdpppejehaaGreatZYBC
import Derived.Test.YtfkakdpppejehaaGreatZYAH
import Derived.Test.YtfkakdpppejehaaGreatZPRight
import Derived.Test.YtfkakdpppejehaaGreatZGNum
namespace Go.Proofs.YtfkakdpppejehaaGreat
open Go.RowKit


/-- as RightRel, with the last end -/
def RRel (L : List (Int × Int)) (k : Nat) : Prop :=
  ∃ z, RightRel L k z ∧ (k = 0 ∧ z = -1048576 ∨ 0 < k ∧ z = (L.getD (k - 1) (0, 0)).2 + 2)

set_option maxHeartbeats 1000000 in
theorem rright_cells (p : Option Addr) (b off c len : Nat) (L : List (Int × Int)) (hl : len = L.length) (w : World) (hm : len ≤ 1000000) (hp : 0 < len → p = some ⟨b, off, none⟩) (hx : Cells w b off L) :
    Calls Tryz.prog 62 #[.slice p len c] w fun e w' => e = .returned (.bool (rightL L)) ∧ Below w.heap.size w w' := by
  have HX := Lib.hid hx
  have HN := Lib.hid hl
  have HS := Lib.hid (show RRel L 0 from ⟨_, ⟨rfl, by omega, by omega⟩, .inl ⟨rfl, rfl⟩⟩)
  obtain ⟨R, hR⟩ : ∃ R, R = rightL L := ⟨_, rfl⟩
  rw [← hR]
  have HR := Lib.hid hR
  clear hx hl hR
  go_enter Tryz.func62, Tryz.ntmps62
  go_wp2
  go_loopw [3] (fun i wr => ∃ k : Nat, k ≤ len ∧ i = .int .i64 k ∧ RRel L k ∧ Below w.heap.size w wr) (fun i _ => len - (intOf i).toNat)
  case atStart => exact ⟨0, by omega, rfl, HS.out, Below.refl _ w⟩
  case round =>
    obtain ⟨k, hk, rfl, hrel, hB⟩ := hrel
    by_cases hlt : k < len
    · obtain rfl := hp (by omega)
      have hlx : k < L.length := by have := HN.out; omega
      obtain ⟨c0, c1⟩ := HX.out k hlx
      have c0 := cell_below hB c0
      have c1 := cell_below hB c1
      have hd := drop_cons hlx
      obtain ⟨x, ex⟩ : ∃ x, x = (L.getD k (0, 0)).1 := ⟨_, rfl⟩
      obtain ⟨y, ey⟩ : ∃ y, y = (L.getD k (0, 0)).2 := ⟨_, rfl⟩
      rw [← ex] at c0
      rw [← ey] at c1
      obtain ⟨z, hz, hz2⟩ := hrel
      have key : rightL L = (decide (z ≤ x) && decide (x ≤ y) && decide (y ≤ 1048576) && rightF (y + 2) (L.drop (k + 1))) := by
        rw [hz.1, hd, rightF, ex, ey]
      have HK := Lib.hid key
      have hzz := hz.2
      have HB := Lib.hid (fun n => below_drewN (n := n) hB)
      have HY := Lib.hid ey
      by_cases h1 : x < -1048576
      · clear ex ey hd hlx hB hz key hz2
        go_wp2
        go_quiet (fail)
        go_wp2_with fail
        go_ret
        exact ⟨by rw [HR.out, HK.out, decide_eq_false (by omega)]; rfl, HB.out _⟩
      · have d1 : decide (x < -1048576) = false := decide_eq_false h1
        by_cases h2 : 1048576 < y
        · clear ex ey hd hlx hB hz key hz2
          go_wp2
          go_quiet (fail)
          go_wp2_with fail
          go_ret
          exact ⟨by rw [HR.out, HK.out, decide_eq_false (p := y ≤ 1048576) (by omega)]; simp, HB.out _⟩
        · have d2 : decide (1048576 < y) = false := decide_eq_false h2
          by_cases h3 : y < x
          · clear ex ey hd hlx hB hz key hz2
            go_wp2
            go_quiet (fail)
            go_wp2_with fail
            go_ret
            exact ⟨by rw [HR.out, HK.out, decide_eq_false (p := x ≤ y) (by omega)]; simp, HB.out _⟩
          · have d3 : decide (y < x) = false := decide_eq_false h3
            have ky : ∀ (h : z ≤ x), RRel L (k + 1) := fun h => ⟨y + 2, ⟨by rw [HK.out, decide_eq_true h, decide_eq_true (p := x ≤ y) (by omega), decide_eq_true (p := y ≤ 1048576) (by omega)]; simp, by omega, by omega⟩, .inr ⟨by omega, by rw [ey]; simp⟩⟩
            have KY := Lib.hid ky
            cases k with
            | zero =>
              have hz0 : z ≤ x := by omega
              have d4 : decide ((0 : Int) < ((0 : Nat) : Int)) = false := rfl
              have d5 : (0 : Int) < (len : Int) := by omega
              have c0 : wr.cell? ⟨b, off, none⟩ = some (.int .i64 x) := by simpa using c0
              have c1 : wr.cell? ⟨b, off + 1, none⟩ = some (.int .i64 y) := by simpa using c1
              clear ex ey hd hlx hB hz key hz2 ky
              go_wp2
              go_quiet (fail)
              go_wp2
              go_quiet (fail)
              go_wp2_with fail
              go_roundw
              case rel => exact ⟨0 + 1, by omega, by go_num, KY.out hz0, HB.out _⟩
              case measure => simp [intOf]; omega
            | succ j =>
              have e1 : z = (L.getD j (0, 0)).2 + 2 := by
                rcases hz2 with h | h
                · omega
                · simpa using h.2
              have c2 := cell_below hB (HX.out j (by omega)).2
              obtain ⟨t, et⟩ : ∃ t, t = (L.getD j (0, 0)).2 := ⟨_, rfl⟩
              rw [← et] at c2 e1
              have d4 : (0 : Int) < ((j + 1 : Nat) : Int) := by omega
              have d5 : (j : Int) < (len : Int) := by omega
              by_cases h4 : x - t < 2
              · clear ex ey hd hlx hB hz key hz2 ky et
                go_wp2
                go_quiet (fail)
                go_wp2
                go_quiet (fail)
                go_wp2_with fail
                go_ret
                exact ⟨by rw [HR.out, HK.out, decide_eq_false (by omega)]; rfl, below_drewN (HB.out _)⟩
              · have d6 : decide (x - t < 2) = false := decide_eq_false h4
                clear ex ey hd hlx hB hz key hz2 ky et
                go_wp2
                go_quiet (fail)
                go_wp2
                go_quiet (fail)
                go_wp2_with fail
                go_roundw
                case rel => exact ⟨j + 1 + 1, by omega, by go_num, KY.out (by omega), HB.out _⟩
                case measure => simp [intOf]; omega
    · obtain ⟨z, hz, _⟩ := hrel
      have hd : L.drop k = [] := drop_end (by have := HN.out; omega)
      have key : rightL L = true := by rw [hz.1, hd]; rfl
      have HK := Lib.hid key
      have HB := Lib.hid hB
      clear hz hB key hd hp
      go_wp2
      go_ret
      exact ⟨by rw [HR.out, HK.out]; rfl, HB.out⟩

theorem rright_any {w : World} {v : Value} {L : List (Int × Int)} (h : Sees w v L) (hm : L.length ≤ 1000000) :
    Calls Tryz.prog 62 #[v] w fun e w' => e = .returned (.bool (rightL L)) ∧ Below w.heap.size w w' := by
  obtain ⟨p, b, off, c, rfl, hp, hx⟩ := h
  exact rright_cells p b off c _ L rfl w hm hp hx

set_option maxHeartbeats 1000000 in
theorem rsize_cells (p : Option Addr) (b off c len : Nat) (L : List (Int × Int)) (hl : len = L.length) (w : World) (hm : len ≤ 1000000) (hp : 0 < len → p = some ⟨b, off, none⟩) (hx : Cells w b off L) :
    Calls Tryz.prog 37 #[.slice p len c] w fun e w' => e = .returned (.int .i64 (if rightL L = true then sizeL L else 0)) ∧ Below w.heap.size w w' := by
  have hc : ∀ wr, Below w.heap.size w wr → Calls Tryz.prog 62 #[.slice p len c] wr fun e w' => e = .returned (.bool (rightL L)) ∧ Below wr.heap.size wr w' := fun wr h => rright_cells p b off c len L hl wr hm hp (cells_below hx h)
  by_cases h0 : len = 0
  · have e0 : L = [] := List.eq_nil_of_length_eq_zero (by omega)
    subst e0 h0
    clear hc hp hx hl
    go_enter Tryz.func37, Tryz.ntmps37
    go_wp2
    go_loopw [3, 4] (fun a i wr => a = .int .i64 0 ∧ i = .int .i64 0 ∧ wr = w) (fun _ _ _ => 0)
    case atStart => exact ⟨rfl, rfl, rfl⟩
    case round =>
      obtain ⟨rfl, rfl, rfl⟩ := hrel
      go_wp2_with fail
      go_ret
      exact ⟨rfl, Below.refl _ _⟩
  · cases hR : rightL L
    · rw [hR] at hc
      rw [if_neg (by simp)]
      have C := Lib.hid hc
      have hpos : 0 < len := by omega
      clear hc hR hl hx hp h0
      go_enter Tryz.func37, Tryz.ntmps37
      go_wp2
      go_loopw [3, 4] (fun a i wr => a = .int .i64 0 ∧ i = .int .i64 0 ∧ wr = w) (fun _ _ _ => 0)
      case atStart => exact ⟨rfl, rfl, rfl⟩
      case round =>
        obtain ⟨rfl, rfl, rfl⟩ := hrel
        go_wp2_with fail
        refine (C.out _ (Below.refl _ _)).mono ?_
        rintro e w1 ⟨rfl, hB⟩
        have HB := Lib.hid hB
        clear hB
        go_wp2_with fail
        go_ret
        exact ⟨rfl, HB.out⟩
    · rw [hR] at hc
      rw [if_pos rfl]
      have hbd := size_most hR
      have HS := Lib.hid (show SizeRel L 0 0 from ⟨by simp, by omega, _, rest_start hR⟩)
      obtain ⟨R, eR⟩ : ∃ R, R = sizeL L := ⟨_, rfl⟩
      rw [← eR] at hbd ⊢
      have HR := Lib.hid eR
      have C := Lib.hid hc
      have HX := Lib.hid hx
      have HN := Lib.hid hl
      clear hc hR hl hx eR h0
      go_enter Tryz.func37, Tryz.ntmps37
      go_wp2
      go_loopw [3, 4] (fun v i wr => ∃ k : Nat, k ≤ len ∧ i = .int .i64 k ∧ ∃ n, v = .int .i64 n ∧ SizeRel L k n ∧ Below w.heap.size w wr) (fun _ i _ => len - (intOf i).toNat)
      case atStart => exact ⟨0, by omega, rfl, 0, rfl, HS.out, Below.refl _ w⟩
      case round =>
        obtain ⟨k, hk, rfl, n, rfl, hrel, hB⟩ := hrel
        by_cases hlt : k < len
        · obtain rfl := hp (by omega)
          have hlx : k < L.length := by have := HN.out; omega
          obtain ⟨x, ex⟩ : ∃ x, x = (L.getD k (0, 0)).1 := ⟨_, rfl⟩
          obtain ⟨y, ey⟩ : ∃ y, y = (L.getD k (0, 0)).2 := ⟨_, rfl⟩
          have hon := size_on hrel hlx ex ey
          obtain ⟨q1, q2, z, q3⟩ := hrel
          obtain ⟨_, g1, g2, g3, g4, g5⟩ := rest_on q3 hlx ex ey
          have hn : n + (y - x + 1) ≤ R := by rw [HR.out, hon.1]; omega
          have HO := Lib.hid hon
          have HE := Lib.hid (And.intro ex ey)
          have HB := Lib.hid hB
          clear ex ey hB q1 q3 hon
          go_wp2_with fail
          refine (C.out _ HB.out).mono ?_
          rintro e w1 ⟨rfl, hB1⟩
          have hB2 := below_two HB.out hB1
          obtain ⟨c0, c1⟩ := HX.out k hlx
          have c0 := cell_below hB2 c0
          have c1 := cell_below hB2 c1
          rw [← HE.out.1] at c0
          rw [← HE.out.2] at c1
          have d5 : (k : Int) < (len : Int) := by omega
          have HB2 := Lib.hid (fun n => below_drewN (n := n) hB2)
          clear hB1 hB2
          go_wp2
          go_quiet (fail)
          go_wp2_with fail
          go_roundw
          case rel => exact ⟨k + 1, by omega, by go_num, n + (y - x + 1), by go_num, HO.out, HB2.out _⟩
          case measure => simp [intOf]; omega
        · have hd : L.drop k = [] := drop_end (by have := HN.out; omega)
          have key : R = n := by rw [HR.out, hrel.1, hd, sizeL]; omega
          have HB := Lib.hid hB
          subst key
          clear hrel hB hd hp
          go_wp2
          go_ret
          exact ⟨rfl, HB.out⟩

theorem rsize_any {w : World} {v : Value} {L : List (Int × Int)} (h : Sees w v L) (hm : L.length ≤ 1000000) :
    Calls Tryz.prog 37 #[v] w fun e w' => e = .returned (.int .i64 (if rightL L = true then sizeL L else 0)) ∧ Below w.heap.size w w' := by
  obtain ⟨p, b, off, c, rfl, hp, hx⟩ := h
  exact rsize_cells p b off c _ L rfl w hm hp hx
end Go.Proofs.YtfkakdpppejehaaGreat
namespace Go.Proofs.YtfkakdpppejehaaGreat
open Go.RowKit
set_option maxRecDepth 100000

def szL (L : List (Int × Int)) : Int := if rightL L = true then sizeL L else 0
theorem sz_low (L : List (Int × Int)) : 0 ≤ szL L ∧ szL L ≤ 2097153 := by
  unfold szL
  by_cases h : rightL L = true
  · rw [if_pos h]
    exact size_most h
  · rw [if_neg h]
    omega
theorem sees_of {w : World} {v : Value} {L : List (Int × Int)} (h : Slc rSpan 2 w v L) : Sees w v L := by
  obtain ⟨p, b, off, c, len, rfl, _, hs⟩ := h
  have hl := hs.long
  subst hl
  exact ⟨p, b, off, c, rfl, hs.at_, fun k hk => span_at hs hk⟩
theorem psize_any {w : World} {v : Value} {L : List (Int × Int)} (h : Slc rSpan 2 w v L) (hm : L.length ≤ 1000000) :
    Calls Tryz.prog 76 #[v] w fun e w' => e = .returned (.int .i64 (szL L)) ∧ Below w.heap.size w w' := size_any (sees_of h) hm
theorem rfsize_any {w : World} {v : Value} {L : List (Int × Int)} (h : Slc rSpan 2 w v L) (hm : L.length ≤ 1000000) :
    Calls Tryz.prog 37 #[v] w fun e w' => e = .returned (.int .i64 (szL L)) ∧ Below w.heap.size w w' := rsize_any (sees_of h) hm

def bigM (m : PModel) : Bool := decide (8 < m.blocks.length) || (decide (16 < m.goal.length) || (m.blocks.any (fun b => decide (16 < b.cons.length)) || decide (16 < (varsL m.blocks).length)))
def formM (m : PModel) : Bool := decide (m.blocks.length = 0) || m.blocks.any (fun b => decide (b.vars.length = 0))
def nameM (m : PModel) : Bool := (varsL m.blocks).any (fun d => !nameL d.name)
def names (L : List PDecl) : List (List UInt8) := L.map (·.name)
/-- do two of the first n have one name? -/
def TwiceTo (ns : List (List UInt8)) (n : Nat) : Prop := ∃ i j, j < i ∧ i < n ∧ ns.getD i [] = ns.getD j []
open Classical in
noncomputable def twiceM (m : PModel) : Bool := decide (TwiceTo (names (varsL m.blocks)) (names (varsL m.blocks)).length)
def domD (d : PDecl) : Bool := decide (szL d.dom < 1) || decide (64 < szL d.dom)
def domM (m : PModel) : Bool := (varsL m.blocks).any domD
noncomputable def wrongL (L : List PCon) (n : Nat) : Bool := L.any (fun c => !rightC c (n : Int))
noncomputable def conF (n : Nat) : List PBlock → Bool
  | [] => false
  | b :: r => wrongL b.cons (n + b.vars.length) || conF (n + b.vars.length) r
noncomputable def conM (m : PModel) : Bool := conF 0 m.blocks || wrongL m.goal (varsL m.blocks).length
/-- the first of some errors -/
def firstF : List (Bool × Int) → Int
  | [] => 0
  | (b, e) :: r => if b = true then e else firstF r
noncomputable def faultsM (m : PModel) : List (Bool × Int) := [(bigM m, 5), (formM m, 2), (nameM m, 7), (twiceM m, 8), (domM m, 1), (conM m, 12)]
noncomputable def checkM (m : PModel) : Int := firstF (faultsM m)

/-- the lists of a model are short -/
structure Few (m : PModel) : Prop where
  blocks : m.blocks.length ≤ 1000
  vars : ∀ b ∈ m.blocks, b.vars.length ≤ 1000
  wheres : ∀ b ∈ m.blocks, b.cons.length ≤ 1000 ∧ ∀ c ∈ b.cons, Short 1000 c
  goal : m.goal.length ≤ 1000 ∧ ∀ c ∈ m.goal, Short 1000 c
  decls : ∀ b ∈ m.blocks, ∀ d ∈ b.vars, d.name.length ≤ 1000 ∧ d.dom.length ≤ 1000
  few : (varsL m.blocks).length ≤ 1000
theorem vars_most (bs : List PBlock) (h : ∀ x ∈ bs, x.vars.length ≤ 30) : (varsL bs).length ≤ bs.length * 30 := by
  induction bs with
  | nil => simp [varsL]
  | cons x r ih =>
    have h1 := h x (by simp)
    have h2 := ih fun y hy => h y (by simp [hy])
    have e : varsL (x :: r) = x.vars ++ varsL r := by simp [varsL]
    rw [e, List.length_append, List.length_cons]
    omega
theorem short_up {c : PCon} (h : Short 150 c) : Short 1000 c := ⟨by have := h.1; omega, by have := h.2.1; omega, by have := h.2.2; omega⟩
theorem few_of {m : PModel} (h : largeB m = false) : Few m := by
  simp only [largeB, Bool.or_eq_false_iff, decide_eq_false_iff_not, List.any_eq_false] at h
  obtain ⟨h1, h2, h3⟩ := h
  have hb : ∀ b ∈ m.blocks, ¬ 30 < b.vars.length ∧ consB b.cons = false ∧ ∀ d ∈ b.vars, ¬ longD d = true := fun b hb => by
    have := h3 b hb
    rw [Bool.not_eq_true] at this
    simpa only [longB, Bool.or_eq_false_iff, decide_eq_false_iff_not, List.any_eq_false] using this
  have hd : ∀ b ∈ m.blocks, ∀ d ∈ b.vars, d.name.length ≤ 1000 ∧ d.dom.length ≤ 1000 := fun b q d r => by
    have := (hb b q).2.2 d r
    simp [longD] at this
    omega
  have hv : ∀ b ∈ m.blocks, b.vars.length ≤ 30 := fun b q => by have := (hb b q).1; omega
  have ht := vars_most m.blocks hv
  exact ⟨by omega, fun b q => by have := hv b q; omega, fun b q => ⟨by have := (cons_short (hb b q).2.1).1; omega, fun c hc => short_up ((cons_short (hb b q).2.1).2 c hc)⟩, ⟨by have := (cons_short h2).1; omega, fun c hc => short_up ((cons_short h2).2 c hc)⟩, hd, by omega⟩
theorem Few.decl {m : PModel} (h : Few m) : ∀ d ∈ varsL m.blocks, d.name.length ≤ 1000 ∧ d.dom.length ≤ 1000 := fun d hd => by
  obtain ⟨b, hb, hd⟩ := List.mem_flatMap.1 hd
  exact h.decls b hb d hd
theorem twice_yes {ns : List (List UInt8)} {n i j : Nat} (hj : j < i) (hi : i < n) (e : ns.getD i [] = ns.getD j []) : TwiceTo ns n := ⟨i, j, hj, hi, e⟩
theorem names_get {L : List PDecl} {k : Nat} {d : PDecl} (h : L[k]? = some d) : (names L).getD k [] = d.name := by
  simp [names, h]
theorem dom_is (d : PDecl) : domD d = (decide (szL d.dom = 0) || decide (64 < szL d.dom)) := by
  have := (sz_low d.dom).1
  unfold domD
  congr 1
  exact decide_eq_decide.2 (by omega)
theorem totals {bs : List PBlock} {k : Nat} {x : PBlock} (h : bs[k]? = some x) : (varsL (bs.take (k + 1))).length = (varsL (bs.take k)).length + x.vars.length := by
  obtain ⟨hk, e⟩ := List.getElem?_eq_some_iff.1 h
  rw [vars_drop (x := x) (by rw [← e]; exact List.drop_eq_getElem_cons hk), List.length_append]
theorem con_at_k {bs : List PBlock} {n k : Nat} {x : PBlock} (h : bs[k]? = some x) : conF n (bs.drop k) = (wrongL x.cons (n + x.vars.length) || conF (n + x.vars.length) (bs.drop (k + 1))) := by
  obtain ⟨hk, e⟩ := List.getElem?_eq_some_iff.1 h
  rw [List.drop_eq_getElem_cons hk, conF, e]
end Go.Proofs.YtfkakdpppejehaaGreat
namespace Go.Proofs.YtfkakdpppejehaaGreat.Pa
open Sc (Tok scanL)

/-- a model, or a place and what is wrong -/
inductive Out where
  | model (m : PModel)
  | err (p : Nat) (e : Int)
/-- the place of token number n, or the text's length -/
def placeT (T : List Tok) (len n : Nat) : Nat := match T[n]? with
  | some t => t.at_
  | none => len
open Classical in
noncomputable def outT (T : List Tok) (len : Nat) (q : PModel × Rd) : Out :=
  if q.2.wrong = true ∨ q.2.at_ < T.length then .err (placeT T len q.2.at_) 2
  else match q.2.bad with
    | some p => .err p 7
    | none => if checkM q.1 = 0 then .model q.1 else .err 0 (checkM q.1)
noncomputable def parseT (K : Nat) (T : List Tok) (len : Nat) : Out := outT T len (bodyR K T start)
noncomputable def parseL (K : Nat) (s : List UInt8) : Out := match scanL 0 s with
  | .bad p e => .err p e
  | .ok T => parseT K T s.length

/- cut off ahead of a token -/
theorem body_top (K : Nat) (T : List Tok) : (bodyR K T start).2.at_ ≤ T.length := (fine_body K).top T start (Nat.zero_le _)
theorem take_same {T : List Tok} {n i : Nat} (h : i < n) : (T.take n)[i]? = T[i]? := by rw [List.getElem?_take, if_pos h]
theorem cut_at {K : Nat} {T : List Tok} {n : Nat} (hn : n ≤ (bodyR K T start).2.at_) : (bodyR K (T.take n) start).2.at_ = n := by
  have h1 := body_top K (T.take n)
  rw [List.length_take] at h1
  apply Classical.byContradiction
  intro hne
  have h2 : (bodyR K (T.take n) start).2.at_ < n := by omega
  have e := (fine_body K).loc (T.take n) T n start (fun i hi => take_same hi) h2
  rw [e] at hn
  omega
theorem cut_wrong {K : Nat} {T : List Tok} {n : Nat} (hn : n < (bodyR K T start).2.at_) : (bodyR K (T.take n) start).2.wrong = true := by
  have h1 := cut_at (Nat.le_of_lt hn)
  cases hw : (bodyR K (T.take n) start).2.wrong
  · exfalso
    have hb : ∀ U, bodyR K U start = ((mostR K U start).1, (mustF tSemi (mostR K U start).2 (next U (mostR K U start).2)).2) := fun U => rfl
    have hs : textO (next (T.take n) (mostR K (T.take n) start).2) = tSemi := Classical.byContradiction fun hs => by
      rw [hb] at hw
      simp [mustF, hs, fail1] at hw
    have ha : (mostR K (T.take n) start).2.at_ + 1 = n := by
      rw [hb] at h1
      simpa [mustF, hs, step1] using h1
    have e := (fine_most K).loc (T.take n) T n start (fun i hi => take_same hi) (by omega)
    have en : next T (mostR K (T.take n) start).2 = next (T.take n) (mostR K (T.take n) start).2 := by
      unfold next
      rw [take_same (by omega)]
    have eb : bodyR K T start = bodyR K (T.take n) start := by rw [hb, hb, e, en]
    rw [eb, h1] at hn
    omega
  · rfl
/-- cut off there, or ahead of that -/
theorem cut_out {K : Nat} {T : List Tok} {n len : Nat} (hn : n ≤ (bodyR K T start).2.at_) (hw : (bodyR K (T.take n) start).2.wrong = true) : parseT K (T.take n) len = .err len 2 := by
  have h1 := cut_at hn
  have h2 := Nat.le_trans hn (body_top K T)
  unfold parseT outT
  rw [if_pos (.inl hw), h1]
  unfold placeT
  rw [List.getElem?_eq_none_iff.2 (by rw [List.length_take]; omega)]

/- models of tokens have blocks, and their blocks variables -/
def Rs {α : Type} (P : Rx α) (φ : α → Prop) : Prop := ∀ T r, φ (P T r).1
theorem rs_ret {α : Type} {a : α} {φ : α → Prop} (h : φ a) : Rs (ret a) φ := fun _ _ => h
theorem rs_seq {α β : Type} {m : Rx α} {f : α → Rx β} {φ : α → Prop} {χ : β → Prop} (hm : Rs m φ) (hf : ∀ a, φ a → Rs (f a) χ) : Rs (seq m f) χ := fun T r => hf _ (hm T r) T _
theorem rs_any {α : Type} (P : Rx α) : Rs P (fun _ => True) := fun _ _ => trivial
theorem rs_if {α : Type} {c : Prop} [Decidable c] {P Q : Rx α} {φ : α → Prop} (hP : Rs P φ) (hQ : Rs Q φ) : Rs (if c then P else Q) φ := by split <;> assumption
theorem rs_decls (K : Nat) : ∀ (n : Nat) (l : List PDecl), (n ≠ 0 ∨ l ≠ []) → Rs (declsR K n l) (fun r => r ≠ [])
  | 0, l, h => rs_ret (h.resolve_left (by omega))
  | n + 1, l, _ => rs_seq (rs_any _) fun s _ => rs_seq (rs_any _) fun _ _ => rs_seq (rs_any _) fun dom _ => rs_seq (rs_any _) fun _ _ => rs_seq (rs_any _) fun _ _ => rs_if (rs_decls K n _ (.inr (by simp))) (rs_ret (by simp))
theorem rs_block {K : Nat} (hK : K ≠ 0) : Rs (blockR K) (fun b => b.vars ≠ []) :=
  rs_seq (rs_any _) fun _ _ => rs_seq (rs_any _) fun _ _ => rs_seq (rs_decls K K [] (.inl hK)) fun _ hv => rs_seq (rs_any _) fun _ _ => rs_seq (rs_any _) fun _ _ => rs_seq (rs_any _) fun _ _ => rs_ret hv
theorem rs_blocks {K : Nat} (hK : K ≠ 0) : ∀ (n : Nat) (l : List PBlock), (n ≠ 0 ∨ l ≠ []) → (∀ b ∈ l, b.vars ≠ []) → Rs (blocksR K n l) (fun r => r ≠ [] ∧ ∀ b ∈ r, b.vars ≠ [])
  | 0, l, h, hl => rs_ret ⟨h.resolve_left (by omega), hl⟩
  | n + 1, l, _, hl => rs_seq (rs_block hK) fun b hb =>
    have hl2 : ∀ x ∈ l ++ [b], x.vars ≠ [] := fun x hx => by
      rcases List.mem_append.1 hx with q | q
      · exact hl x q
      · obtain rfl := List.mem_singleton.1 q
        exact hb
    rs_seq (rs_any _) fun _ _ => rs_if (rs_blocks hK n _ (.inr (by simp)) hl2) (rs_ret ⟨by simp, hl2⟩)
theorem rs_body {K : Nat} (hK : K ≠ 0) : Rs (bodyR K) (fun m => m.blocks ≠ [] ∧ ∀ b ∈ m.blocks, b.vars ≠ []) :=
  rs_seq (rs_seq (rs_blocks hK K [] (.inl hK) (by simp)) (χ := fun m => m.blocks ≠ [] ∧ ∀ b ∈ m.blocks, b.vars ≠ []) fun bs h => rs_seq (rs_any _) fun _ _ => rs_seq (rs_any _) fun g _ => rs_ret h) fun m h => rs_seq (rs_any _) fun _ _ => rs_ret h
theorem check_form {m : PModel} (h1 : m.blocks ≠ []) (h2 : ∀ b ∈ m.blocks, b.vars ≠ []) : checkM m ≠ 2 := by
  have hf : formM m = false := by
    unfold formM
    rw [Bool.or_eq_false_iff]
    refine ⟨decide_eq_false fun e => h1 (List.eq_nil_of_length_eq_zero e), List.any_eq_false.2 fun b hb => ?_⟩
    have := h2 b hb
    simpa using this
  unfold checkM faultsM
  simp only [firstF, hf]
  cases bigM m <;> cases nameM m <;> cases twiceM m <;> cases domM m <;> cases conM m <;> simp
/-- of a whole text nothing is wrong with its form -/
theorem out_whole {K : Nat} (hK : K ≠ 0) {T : List Tok} {len : Nat} {p : Nat} (hw : (bodyR K T start).2.wrong = false) (ha : (bodyR K T start).2.at_ = T.length) : parseT K T len ≠ .err p 2 := by
  unfold parseT outT
  rw [if_neg (by rw [hw, ha]; simp)]
  cases (bodyR K T start).2.bad with
  | some q => simp
  | none =>
    have hc := rs_body hK T start
    have := check_form hc.1 hc.2
    simp only
    split
    · simp
    · simp [this]

/- places -/
theorem bad_at {K : Nat} {T : List Tok} {B p : Nat} (hT : ∀ t ∈ T, t.at_ ≤ B) (h : (bodyR K T start).2.bad = some p) : p ≤ B := (fine_body K).bd T start B hT (fun p h => by cases h) p h
theorem err_place {K : Nat} {T : List Tok} {len p : Nat} {e : Int} (hT : ∀ t ∈ T, t.at_ ≤ len) (h : parseT K T len = .err p e) : p ≤ len := by
  unfold parseT outT at h
  split at h
  · simp only [Out.err.injEq] at h
    rw [← h.1]
    unfold placeT
    split
    · rename_i t ht
      exact hT t (List.mem_of_getElem? ht)
    · exact Nat.le_refl _
  · split at h
    · rename_i q hq
      simp only [Out.err.injEq] at h
      rw [← h.1]
      exact bad_at hT hq
    · split at h
      · cases h
      · simp only [Out.err.injEq] at h
        omega
theorem model_may {K : Nat} {T : List Tok} {len : Nat} {m : PModel} (h : parseT K T len = .model m) : checkM m = 0 := by
  unfold parseT outT at h
  split at h
  · cases h
  · split at h
    · cases h
    · split at h
      · rename_i hc
        cases h
        exact hc
      · cases h

/- tokens that differ in places alone -/
/-- the same model, or the same fault -/
def Out.like : Out → Out → Prop
  | .model m, .model n => m = n
  | .err _ e, .err _ f => e = f
  | _, _ => False
theorem like_out {K : Nat} {T U : List Tok} {len len' : Nat} (h : T.map key = U.map key) : (parseT K T len).like (parseT K U len') := by
  obtain ⟨e1, e2⟩ := (fine_body K).like T U start start h ⟨rfl, rfl, rfl, rfl⟩
  have hl : T.length = U.length := by
    have := congrArg List.length h
    simpa using this
  unfold parseT outT
  rw [← e2.wrong, ← e2.at_, ← hl, ← e1]
  split
  · exact rfl
  · have hb := e2.bad
    cases h1 : (bodyR K T start).2.bad <;> cases h2 : (bodyR K U start).2.bad <;> rw [h1, h2] at hb <;> simp at hb ⊢
    · split <;> exact rfl
    · exact rfl

end Go.Proofs.YtfkakdpppejehaaGreat.Pa
