/-
  Lists of data that a call makes, element by element; a list behind another one. Nothing of the program.
  What Vars of the document's answers answers, at every model that can be read.
  What Name of the document's answers answers, at every text.
  What puts out tokens: a builder of texts that a call has made, and what parts the next token from it; what such a call leaves as it is.
-/
import Derived.Test.YtkgieaoahijheaaGreatDoorZYAA
import Derived.Laws.AppendOwnNone
import Derived.Lib.Strings
import Derived.Lib.LaidTab
namespace Go.Proofs.YtkgieaoahijheaaGreatDoor
open Go.RowKit
set_option maxRecDepth 100000

/-- v is a slice in memory behind W0 (elements of type e, of n cells), whose elements read as L in W0 -/
def OwnsOf {α : Type} (R : Reader α) (n : Nat) (e : TypeId) (W0 w : World) (v : Value) (L : List α) : Prop :=
  ∃ cs : List Value, w.ownsRow W0.heap.size e n v L.length cs ∧ cs.length = L.length * n ∧ ∀ (k : Nat) (a : α), L[k]? = some a → ∃ c : List Value, c.length = n ∧ (∀ j, j < n → cs[k * n + j]? = c[j]?) ∧ R W0 c a
theorem ownsOf_nil {α : Type} (R : Reader α) (n : Nat) (e : TypeId) (W0 w : World) : OwnsOf R n e W0 w (.slice none 0 0) ([] : List α) := ⟨[], World.ownsRow_nil _ _ _ _, by simp, fun k a h => by simp at h⟩
theorem ownsOf_made {α : Type} (R : Reader α) (n : Nat) (e : TypeId) (W0 w : World) (h : W0.heap.size ≤ w.heap.size) : OwnsOf R n e W0 (w.alloc (.cells #[] e)) (.slice (some ⟨w.heap.size, 0, none⟩) 0 0) ([] : List α) :=
  ⟨[], World.ownsRow_made w #[] 0 h (by unfold maxLen; omega) (by simp), by simp, fun k a h => by simp at h⟩
theorem OwnsOf.shape {α : Type} {R : Reader α} {n : Nat} {e : TypeId} {W0 w : World} {v : Value} {L : List α} (h : OwnsOf R n e W0 w v L) : ∃ (p : Option Addr) (cap : Nat), v = .slice p L.length cap := by
  obtain ⟨cs, h1, _⟩ := h
  rcases h1.2 with ⟨rfl, hl⟩ | ⟨g, cap, cur, rfl, hb, hg, hn, hc, hs, ht⟩
  · exact ⟨none, 0, by rw [hl]⟩
  · exact ⟨_, cap, rfl⟩
theorem OwnsOf.below {α : Type} {R : Reader α} {n : Nat} {e : TypeId} {W0 w w' : World} {v : Value} {L : List α} (h : OwnsOf R n e W0 w v L) (hB : Below w.heap.size w w') : OwnsOf R n e W0 w' v L := by
  obtain ⟨cs, h1, h2⟩ := h
  exact ⟨cs, owns_below h1 hB, h2⟩
theorem OwnsOf.lt {α : Type} {R : Reader α} {n : Nat} {e : TypeId} {W0 w : World} {v : Value} {L : List α} (h : OwnsOf R n e W0 w v L) : ∀ k, v.ownBlock = some k → W0.heap.size ≤ k ∧ k < w.heap.size := by
  obtain ⟨cs, h1, _⟩ := h
  exact h1.lt
/-- such a list reads as it is -/
theorem OwnsOf.slc {α : Type} {R : Reader α} (hR : R.Stays) {n : Nat} {e : TypeId} {W0 w : World} {v : Value} {L : List α} (h : OwnsOf R n e W0 w v L) (hB : Below W0.heap.size W0 w) : Slc R n w v L := by
  obtain ⟨cs, h1, h2, h3⟩ := h
  have h0 := h1
  rcases h1.2 with ⟨rfl, hl⟩ | ⟨g, cap, cur, rfl, hb, hg, hn, hc, hs, ht⟩
  · exact ⟨none, 0, 0, 0, 0, rfl, ⟨fun _ => rfl, Nat.le_refl _⟩, hl.symm, fun h => by omega, fun k a ha => by
      have := (List.getElem?_eq_some_iff.1 ha).1
      omega⟩
  · refine ⟨_, g, 0, cap, L.length, rfl, ⟨(fun h => by cases h), hn⟩, rfl, fun _ => rfl, fun k a ha => ?_⟩
    have hk := (List.getElem?_eq_some_iff.1 ha).1
    obtain ⟨c, c1, c2, c3⟩ := h3 k a ha
    refine ⟨c, c1, fun j hj => ?_, hR W0 w c a hB c3⟩
    have hlt : k * n + j < L.length * n := by
      have := Nat.mul_le_mul_right n (Nat.succ_le_of_lt hk)
      rw [Nat.succ_mul] at this
      omega
    rw [Nat.zero_add, h0.cellAt (k * n + j) hlt, c2 j hj]

/-- an element's cells are one cell each -/
def Reader.One {α : Type} (R : Reader α) : Prop := ∀ (w : World) (cs : List Value) (a : α), R w cs a → ∀ u ∈ cs, u.oneCell' = true

/-- the cells of a slice that can be read, as a list -/
theorem cells_list {α : Type} {R : Reader α} {n : Nat} {w : World} {p : Option Addr} {b off len : Nat} {M : List α} (h : SliceOf R n w p b off len M) (h1 : R.One) :
    ∃ cs : List Value, cs.length = len * n ∧ (∀ j u, cs[j]? = some u → w.cell? ⟨b, off + j, none⟩ = some u) ∧ (∀ u ∈ cs, u.oneCell' = true) ∧
      ∀ (k : Nat) (a : α), M[k]? = some a → ∃ c : List Value, c.length = n ∧ (∀ j, j < n → cs[k * n + j]? = c[j]?) ∧ R w c a := by
  have hall : ∀ j, j < len * n → ∃ u, w.cell? ⟨b, off + j, none⟩ = some u ∧ u.oneCell' = true := fun j hj => by
    have hn : 0 < n := Nat.pos_of_ne_zero fun e => by subst e; simp at hj
    have hk : j / n < len := Nat.div_lt_of_lt_mul (by rw [Nat.mul_comm]; exact hj)
    have hkM : j / n < M.length := by rw [← h.long]; exact hk
    obtain ⟨c, c1, c2, c3⟩ := h.cell (j / n) _ (List.getElem?_eq_getElem hkM)
    have hm := Nat.mod_lt j hn
    have e := c2 (j % n) hm
    have e2 : off + j / n * n + j % n = off + j := by
      have := Nat.div_add_mod j n
      rw [Nat.mul_comm] at this
      omega
    rw [e2, List.getElem?_eq_getElem (by omega)] at e
    exact ⟨_, e, h1 _ _ _ c3 _ (List.getElem_mem _)⟩
  refine ⟨(List.range (len * n)).map fun j => (w.cell? ⟨b, off + j, none⟩).getD (.int .i64 0), by simp, fun j u hj => ?_, fun u hu => ?_, fun k a ha => ?_⟩
  · have hl : j < len * n := by simpa using (List.getElem?_eq_some_iff.1 hj).1
    obtain ⟨v, hv, _⟩ := hall j hl
    simp [hl, hv] at hj
    rw [hv, hj]
  · obtain ⟨j, hj, rfl⟩ := List.mem_map.1 hu
    obtain ⟨v, hv, ho⟩ := hall j (List.mem_range.1 hj)
    rw [hv]
    exact ho
  · obtain ⟨c, c1, c2, c3⟩ := h.cell k a ha
    refine ⟨c, c1, fun j hj => ?_, c3⟩
    have hk : k < len := by
      have := (List.getElem?_eq_some_iff.1 ha).1
      rw [h.long]; exact this
    have hlt : k * n + j < len * n := by
      have := Nat.mul_le_mul_right n (Nat.succ_le_of_lt hk)
      rw [Nat.succ_mul] at this
      omega
    have e := c2 j hj
    have hc : c[j]? = some c[j] := List.getElem?_eq_getElem (by omega)
    rw [hc, Nat.add_assoc] at e
    rw [hc]
    simp [hlt, e]
theorem add_plain' (b off j : Nat) : (⟨b, off, none⟩ : Addr).add j = ⟨b, off + j, none⟩ := by
  unfold Addr.add
  split <;> simp_all

/-- the cells of two lists, one behind the other, read as both -/
def OwnsRowNews {α : Type} (cs ms : List Value) (L M : List α) (n : Nat) (R : Reader α) (W0 : World) : Prop :=
  ∀ (k : Nat) (a : α), (L ++ M)[k]? = some a → ∃ c : List Value, c.length = n ∧ (∀ j, j < n → (cs ++ ms)[k * n + j]? = c[j]?) ∧ R W0 c a

/-- a list that came in, behind one that the call makes -/
theorem append_of {α : Type} {R : Reader α} (hR : R.One) {w W0 : World} {ops : Array Oper} {rest : List Oper} {o : Oper} {a : Act} {Q : Exit → Act → World → Prop} (hgd : o.guard = none) (s x : Operand) (t e : TypeId) (n by_ : Nat) (i0 : TypeInfo) (z : Value)
    (ht : Tryz.prog.underlying t = some (.slice e)) (hi : Tryz.prog.info? e = some i0) (hz0 : i0.zero = some z) (hz1 : i0.size = n) (hz2 : i0.bytes = by_) (hzc : z.cells.size = n) (hpos : 0 < n) (hby2 : by_ ≤ 128)
    (ho : o.op = .call { callee := .builtin .append, args := #[s, x], argTypes := #[t, t] }) (v : Value) (p : Option Addr) (b off c len : Nat) (L M : List α) (hs : a.eval s = v) (hx : a.eval x = .slice p len c)
    (hown : OwnsOf R n e W0 w v L) (hM : SliceOf R n W0 p b off len M) (hp : p = none → c = 0) (hB : Below W0.heap.size W0 w) (hlen : L.length + len ≤ 1000000) (hbase : W0.heap.size ≤ w.heap.size)
    (h : ∀ v' w', OwnsOf R n e W0 w' v' (L ++ M) → w.grownBy w' v.ownBlock → wpList Tryz.prog ops Q rest (a.put o.dst v') w') : wpList Tryz.prog ops Q (o :: rest) a w := by
  have hML : M.length = len := hM.long.symm
  obtain ⟨cs, h1, h2, h3⟩ := hown
  obtain ⟨ms, m1, m2, m3, m4⟩ := cells_list hM hR
  have hnew : OwnsRowNews cs ms L M n R W0 := fun k a ha => by
    by_cases hk : k < L.length
    · rw [List.getElem?_append_left hk] at ha
      obtain ⟨c, c1, c2, c3⟩ := h3 k a ha
      refine ⟨c, c1, fun j hj => ?_, c3⟩
      have hlt : k * n + j < cs.length := by
        rw [h2]
        have := Nat.mul_le_mul_right n (Nat.succ_le_of_lt hk)
        rw [Nat.succ_mul] at this
        omega
      rw [List.getElem?_append_left hlt, c2 j hj]
    · rw [List.getElem?_append_right (by omega)] at ha
      obtain ⟨c, c1, c2, c3⟩ := m4 _ a ha
      refine ⟨c, c1, fun j hj => ?_, c3⟩
      have hge : L.length * n ≤ k * n := Nat.mul_le_mul_right n (by omega)
      rw [List.getElem?_append_right (by rw [h2]; omega), ← c2 j hj]
      congr 1
      rw [h2, Nat.sub_mul]
      omega
  by_cases h0 : len = 0
  · have hM0 : M = [] := List.eq_nil_of_length_eq_zero (by omega)
    have hms0 : ms = [] := List.eq_nil_of_length_eq_zero (by rw [m1, h0]; simp)
    subst hM0
    cases p with
    | none =>
      obtain rfl := hp rfl
      subst h0
      refine wpList_append_own_none hgd s x t ho W0.heap.size e i0 n ht hi v L.length cs hs h1 hx ?_
      exact h v w ⟨cs, by rw [List.append_nil]; exact h1, by rw [List.append_nil]; exact h2, by rw [List.append_nil]; exact h3⟩ ⟨rfl, rfl, rfl, Nat.le_refl _, fun _ _ _ => rfl⟩
    | some ad =>
      subst h0
      refine wpList_append_own w hgd s x t ho W0.heap.size e i0 z n by_ ht hi hz0 hz1 hz2 hzc hpos v L.length cs hs h1 ad 0 c [] hx (by simp) (fun j u hj => by simp at hj) (fun u hu => by simp at hu) (by unfold maxLen; omega) ?_ hbase ?_
      · have : (L.length + 0) * by_ ≤ 1000000 * 128 := Nat.mul_le_mul (by omega) hby2
        omega
      · intro v' w' g1 g2 _
        refine h v' w' ⟨cs, ?_, by rw [List.append_nil]; exact h2, by rw [List.append_nil]; exact h3⟩ g2
        rw [List.append_nil]
        simpa using g1
  · obtain rfl := hM.at_ (by omega)
    refine wpList_append_own w hgd s x t ho W0.heap.size e i0 z n by_ ht hi hz0 hz1 hz2 hzc hpos v L.length cs hs h1 ⟨b, off, none⟩ len c ms hx m1 (fun j u hj => by rw [add_plain']; exact cell_stays hB (m2 j u hj)) m3 (by unfold maxLen; omega) ?_ hbase ?_
    · have : (L.length + len) * by_ ≤ 1000000 * 128 := Nat.mul_le_mul (by omega) hby2
      omega
    · intro v' w' g1 g2 _
      refine h v' w' ⟨cs ++ ms, ?_, ?_, hnew⟩ g2
      · rw [List.length_append, hML]
        exact g1
      · rw [List.length_append, List.length_append, h2, m1, hML, Nat.add_mul]
end Go.Proofs.YtkgieaoahijheaaGreatDoor
namespace Go.Proofs.YtkgieaoahijheaaGreatDoor
open Go.RowKit
set_option maxRecDepth 100000

theorem rDecl_one : rDecl.One := fun w cs a ⟨s, v, h1, _, p, b, off, c, len, h3, _, _⟩ u hu => by
  subst h1 h3
  simp at hu
  rcases hu with rfl | rfl <;> rfl
theorem info48 : (Tryz.prog.info? 45).map (fun i => (i.zero, i.size, i.bytes)) = some (some (.agg #[.string ⟨#[]⟩, .slice none 0 0]), 2, 40) := by kernel_rfl

theorem vars_drop {bs : List PBlock} {k : Nat} {x : PBlock} (e : bs.drop k = x :: bs.drop (k + 1)) : varsL (bs.take (k + 1)) = varsL (bs.take k) ++ x.vars := by
  have hk : k < bs.length := by
    have := congrArg List.length e
    rw [List.length_drop, List.length_cons] at this
    omega
  rw [List.drop_eq_getElem_cons hk] at e
  simp only [List.cons.injEq, and_true] at e
  rw [List.take_add_one, List.getElem?_eq_getElem hk, e]
  simp [varsL]
theorem vars_few (bs : List PBlock) (h : ∀ x ∈ bs, x.vars.length ≤ 1000) : (varsL bs).length ≤ bs.length * 1000 := by
  induction bs with
  | nil => simp [varsL]
  | cons x r ih =>
    have h1 := h x (by simp)
    have h2 := ih fun y hy => h y (by simp [hy])
    have e : varsL (x :: r) = x.vars ++ varsL r := by simp [varsL]
    rw [e, List.length_append, List.length_cons]
    omega

theorem vars_to (bs : List PBlock) (k : Nat) : (varsL (bs.take k)).length ≤ (varsL bs).length := by
  have e : varsL bs = varsL (bs.take k) ++ varsL (bs.drop k) := by
    unfold varsL
    rw [← List.flatMap_append, List.take_append_drop]
  rw [e, List.length_append]
  omega
theorem slc_of_ints {w : World} {base : Nat} {v : Value} {xs : List Int} (h : OwnsI w base v xs) (hf : ∀ x ∈ xs, Fit x) : Slc rNum 1 w v xs := by
  have h0 := h
  rcases h.2 with ⟨rfl, hl⟩ | ⟨g, cap, cur, rfl, hb, hg, hn, hc, hs, ht⟩
  · exact ⟨none, 0, 0, 0, 0, rfl, ⟨fun _ => rfl, Nat.le_refl _⟩, hl.symm, fun h => by omega, fun k a ha => by
      have := (List.getElem?_eq_some_iff.1 ha).1
      omega⟩
  · refine ⟨_, g, 0, cap, xs.length, rfl, ⟨(fun h => by cases h), hn⟩, rfl, fun _ => rfl, fun k a ha => ?_⟩
    have hk := (List.getElem?_eq_some_iff.1 ha).1
    refine ⟨[.int .i64 a], rfl, fun j hj => ?_, rfl, hf a (List.mem_of_getElem? ha)⟩
    obtain rfl : j = 0 := by omega
    rw [Nat.zero_add, Nat.mul_one, Nat.add_zero, h0.cellAt k (by omega)]
    simp [ha]
theorem ends_fit : ∀ (bs : List PBlock) (n : Nat), n + bs.length * 1000 ≤ 1000000 → (∀ x ∈ bs, x.vars.length ≤ 1000) → ∀ z ∈ endsF n bs, Fit z
  | [], _, _, _, z, hz => by simp [endsF] at hz
  | x :: r, n, h, hv, z, hz => by
    have hx := hv x (by simp)
    rw [List.length_cons] at h
    rw [endsF, List.mem_cons] at hz
    rcases hz with rfl | hz
    · unfold Fit; omega
    · exact ends_fit r (n + x.vars.length) (by omega) (fun y hy => hv y (by simp [hy])) z hz
end Go.Proofs.YtkgieaoahijheaaGreatDoor
namespace Go.Proofs.YtkgieaoahijheaaGreatDoor
open Go.RowKit
set_option maxRecDepth 100000

abbrev txt (s : ByteArray) : List UInt8 := s.data.toList
theorem txt_size (s : ByteArray) : s.size = (txt s).length := Lib.size_eq s
theorem idx {s : ByteArray} {k : Nat} {c : UInt8} (h : (txt s)[k]? = some c) : ∀ W, (Instr.index 9 (.string s) (.int .i64 (k : Int))).run Tryz.prog W = .ok (.int .u8 (c.toNat : Int)) W := by
  intro W
  obtain ⟨hk, e⟩ := List.getElem?_eq_some_iff.1 h
  have hk2 : k < s.size := by rw [txt_size]; exact hk
  rw [run_index_string W 9 s .i64 (k : Int) Tryz.underlying9, dif_pos ⟨by omega, by omega⟩]
  have e2 : s[(k : Int).toNat]'(by omega) = c := by
    rw [← e]
    rfl
  rw [e2]

def wordsL : List (List UInt8) := [[101, 120, 105, 115, 116, 115], [102, 111, 114, 97, 108, 108], [105, 110], [119, 104, 101, 114, 101], [97, 110, 100], [103, 111, 97, 108], [116, 114, 117, 101], [112, 114, 111, 100, 117, 99, 116], [105, 102, 102], [101, 108, 101, 109, 101, 110, 116], [100, 105, 102, 102, 101, 114, 101, 110, 116], [116, 97, 98, 108, 101]]
/-- may a byte stand at a place of a name? -/
def okAt (i : Nat) (c : UInt8) : Bool := (decide (97 ≤ c.toNat) && decide (c.toNat ≤ 122)) || (!decide (i = 0) && (decide (c.toNat = 95) || (decide (48 ≤ c.toNat) && decide (c.toNat ≤ 57))))
def okFrom (i : Nat) : List UInt8 → Bool
  | [] => true
  | c :: r => okAt i c && okFrom (i + 1) r
def nameL (s : List UInt8) : Bool := !wordsL.contains s && (okFrom 0 s && (decide (1 ≤ s.length) && decide (s.length ≤ 12)))

structure WordsAt (w wr : World) : Prop where
  below : Below w.heap.size w wr
  cell : ∀ k, k < 12 → ∃ q : ByteArray, wr.cell? ⟨w.heap.size, k, none⟩ = some (.string q) ∧ txt q = wordsL.getD k []
theorem words_at (w : World) : WordsAt w (w.alloc (.cells #[.string ⟨#[101, 120, 105, 115, 116, 115]⟩, .string ⟨#[102, 111, 114, 97, 108, 108]⟩, .string ⟨#[105, 110]⟩, .string ⟨#[119, 104, 101, 114, 101]⟩, .string ⟨#[97, 110, 100]⟩, .string ⟨#[103, 111, 97, 108]⟩, .string ⟨#[116, 114, 117, 101]⟩, .string ⟨#[112, 114, 111, 100, 117, 99, 116]⟩, .string ⟨#[105, 102, 102]⟩, .string ⟨#[101, 108, 101, 109, 101, 110, 116]⟩, .string ⟨#[100, 105, 102, 102, 101, 114, 101, 110, 116]⟩, .string ⟨#[116, 97, 98, 108, 101]⟩] 9)) :=
  ⟨(Below.refl _ w).alloc (Nat.le_refl _) _, fun k hk => by
    rw [World.cell?_alloc_mark]
    match k, hk with
    | 0, _ => exact ⟨_, rfl, rfl⟩
    | 1, _ => exact ⟨_, rfl, rfl⟩
    | 2, _ => exact ⟨_, rfl, rfl⟩
    | 3, _ => exact ⟨_, rfl, rfl⟩
    | 4, _ => exact ⟨_, rfl, rfl⟩
    | 5, _ => exact ⟨_, rfl, rfl⟩
    | 6, _ => exact ⟨_, rfl, rfl⟩
    | 7, _ => exact ⟨_, rfl, rfl⟩
    | 8, _ => exact ⟨_, rfl, rfl⟩
    | 9, _ => exact ⟨_, rfl, rfl⟩
    | 10, _ => exact ⟨_, rfl, rfl⟩
    | 11, _ => exact ⟨_, rfl, rfl⟩⟩
theorem words_hit {s : List UInt8} {k : Nat} (hk : k < 12) (h : s = wordsL.getD k []) : wordsL.contains s = true := by
  rw [List.contains_iff_mem, h, List.getD_eq_getElem?_getD, List.getElem?_eq_getElem (show k < wordsL.length from hk)]
  exact List.getElem_mem _
theorem words_miss {s : List UInt8} (h : ∀ j, j < 12 → s ≠ wordsL.getD j []) : wordsL.contains s = false := by
  cases e : wordsL.contains s
  · rfl
  · obtain ⟨j, hj, e⟩ := List.getElem_of_mem (List.contains_iff_mem.1 e)
    have hj2 : j < 12 := hj
    exact absurd (by simp [hj, e]) (h j hj2)
theorem eql_txt (s q : ByteArray) : binOp .eql 9 (.string s) (.string q) = pure (.bool (decide (txt s = txt q))) := by
  rw [binOp_string_eql]
  congr 2
  rw [Lib.toList_data, Lib.toList_data, Bool.eq_iff_iff]
  simp

end Go.Proofs.YtkgieaoahijheaaGreatDoor
namespace Go.Proofs.YtkgieaoahijheaaGreatDoor.Wt
open Go.RowKit
set_option maxRecDepth 100000

/-- the bytes that one token puts, with what parts it from the next one -/
def sepO (t : List UInt8) : List UInt8 := if t = [59] then [59, 10] else t ++ [32]
def putX (l : List (List UInt8)) : List UInt8 := l.flatMap sepO
theorem put_app (a b : List (List UInt8)) : putX (a ++ b) = putX a ++ putX b := by simp [putX]
theorem put_take {l : List (List UInt8)} {k : Nat} {t : List UInt8} (h : l[k]? = some t) : putX (l.take (k + 1)) = putX (l.take k) ++ sepO t := by
  rw [List.take_add_one, h, put_app]
  simp [putX]
theorem put_long {l : List (List UInt8)} (k : Nat) : (putX (l.take k)).length ≤ (putX l).length := by
  have : putX l = putX (l.take k) ++ putX (l.drop k) := by rw [← put_app, List.take_append_drop]
  rw [this, List.length_append]
  omega
/-- what is not written yet of what was put -/
def tailX (X : List UInt8) : List UInt8 := if X.getLast? = some 32 then [32] else []
theorem tail_sp (X : List UInt8) : tailX (X ++ [32]) = [32] := by simp [tailX]
theorem tail_nl (X : List UInt8) : tailX (X ++ [10]) = [] := by simp [tailX]
theorem tail_two (X : List UInt8) : tailX X = [] ∨ tailX X = [32] := by
  unfold tailX
  split
  · exact .inr rfl
  · exact .inl rfl

/-- what a call leaves as it is: all that lies below B, and each block but the builder's, the one of what parts tokens, and rows of bytes -/
structure Kp (B b pb : Nat) (W W' : World) : Prop where
  low : Below B W W'
  keep : ∀ k o, W.heap[k]? = some o → k ≠ b → k ≠ pb → (∀ c fz, o ≠ .cells c TU fz) → W'.heap[k]? = some o
section
variable {B b tb pb : Nat} {W W' W'' : World}
theorem Kp.refl (W : World) : Kp B b pb W W := ⟨Below.refl _ _, fun _ _ h _ _ _ => h⟩
theorem Kp.trans (h : Kp B b pb W W') (k : Kp B b pb W' W'') : Kp B b pb W W'' := ⟨h.low.trans k.low, fun i o hi h1 h2 h3 => k.keep i o (h.keep i o hi h1 h2 h3) h1 h2 h3⟩
theorem Kp.alloc (h : Kp B b pb W W') (hB : B ≤ W'.heap.size) (o : Obj) : Kp B b pb W (W'.alloc o) := ⟨h.low.alloc hB o, fun i q hi h1 h2 h3 => by
  have h4 := h.keep i q hi h1 h2 h3
  exact (Lib.alloc_old W' o i (Array.getElem?_eq_some_iff.1 h4).1).trans h4⟩
theorem Kp.drewN (h : Kp B b pb W W') (n : Nat) : Kp B b pb W (W'.drewN n) := ⟨⟨h.low.os, h.low.tape, h.low.output, h.low.size, h.low.block⟩, h.keep⟩
theorem Kp.write (h : Below B W W') (k : Lib.OthersKept TU (some b) W W') : Kp B b pb W W' := ⟨h, fun i o hi h1 _ h3 => k i o hi (fun e => h1 (Option.some.inj e)) h3⟩
theorem Kp.put (h : Kp B b pb W W') (hB : B ≤ pb) (v : Value) : Kp B b pb W (W'.setCell ⟨pb, 0, none⟩ v) := ⟨h.low.setCell (p := ⟨pb, 0, none⟩) hB v, fun i o hi h1 h2 h3 => by
  rw [Below.heap_setCell _ _ _ _ (fun e => h2 e)]
  exact h.keep i o hi h1 h2 h3⟩
/-- a block of a type that is not the bytes' -/
theorem Kp.row (h : Kp B b pb W W') {k : Nat} {cs : Array Value} {t : TypeId} {fz : Nat × Nat} (hk : W.heap[k]? = some (.cells cs t fz)) (h1 : k ≠ b) (h2 : k ≠ pb) (ht : t ≠ TU) : W'.heap[k]? = some (.cells cs t fz) :=
  h.keep k _ hk h1 h2 fun c f e => by
    simp only [Obj.cells.injEq] at e
    exact ht e.2.1

theorem Kp.ext (h : Below W.heap.size W W') (hB : B ≤ W.heap.size) : Kp B b pb W W' := ⟨h.mono hB, fun i _ hi _ _ _ => (h.block i (Array.getElem?_eq_some_iff.1 hi).1).trans hi⟩
/-- the library's table of powers of ten lies in its variable -/
def Tb (B : Nat) (W : World) : Prop := ∃ g, Tryz.prog.globalNamed "internal/strconv.uint64pow10" = some g ∧ g < B ∧ Lib.TabIs Tryz.prog W "internal/strconv.uint64pow10" .u64 Lib.pow10Tab
theorem Tb.below (h : Tb B W) (hb : Below B W W') : Tb B W' := by
  obtain ⟨g, h1, h2, h3⟩ := h
  refine ⟨g, h1, h2, ?_⟩
  unfold Lib.TabIs World.var? at h3 ⊢
  rw [h1] at h3 ⊢
  simp only [Option.bind_some] at h3 ⊢
  rw [hb.block g h2]
  exact h3
/-- the writer's memory, behind the bytes X -/
structure PutAt (B b tb pb : Nat) (X : List UInt8) (W : World) : Prop where
  bld : ∃ O, X = O ++ tailX X ∧ Lib.IsBuilderF TB TU B b (Lib.byteCells O) W
  part : W.heap[pb]? = some (.cells #[.string ⟨(tailX X).toArray⟩] 9)
  text : W.heap[tb]? = some (.cells #[.pointer (some ⟨b, 0, none⟩)] 47)
  lowp : B ≤ pb
  lowt : B ≤ tb
  lowb : B ≤ b
  size : B ≤ W.heap.size
  bp : b ≠ pb
  tp : tb ≠ pb
  tbb : tb ≠ b
  lt : b < W.heap.size
  ltp : pb < W.heap.size
  tab : Tb B W

theorem bld_ext {bs : List Value} (h : Lib.IsBuilderF TB TU B b bs W) (hb : Below W.heap.size W W') : Lib.IsBuilderF TB TU B b bs W' := by
  have one : ∀ q, Lib.BuilderAtF TB TU B b q bs W → Lib.BuilderAtF TB TU B b q bs W' := by
    rintro q ⟨h1, v, h2, h3, h4⟩
    exact ⟨h1, v, (hb.block b (Array.getElem?_eq_some_iff.1 h2).1).trans h2, h3.kept (row := none) ⟨hb.os, hb.tape, hb.output, hb.size, fun k hk _ => hb.block k hk⟩ (by cases hv : v.ownBlock <;> simp), h4⟩
  exact h.elim (fun q => .inl (one _ q)) fun q => .inr (one _ q)
theorem PutAt.ext {X : List UInt8} (h : PutAt B b tb pb X W) (hb : Below W.heap.size W W') : PutAt B b tb pb X W' := by
  obtain ⟨O, e, hO⟩ := h.bld
  exact ⟨⟨O, e, bld_ext hO hb⟩, (hb.block _ h.ltp).trans h.part, (hb.block _ (Array.getElem?_eq_some_iff.1 h.text).1).trans h.text, h.lowp, h.lowt, h.lowb, Nat.le_trans h.size hb.size, h.bp, h.tp, h.tbb, Nat.lt_of_lt_of_le h.lt hb.size, Nat.lt_of_lt_of_le h.ltp hb.size, h.tab.below (hb.mono h.size)⟩
theorem PutAt.alloc {X : List UInt8} (h : PutAt B b tb pb X W) (o : Obj) : PutAt B b tb pb X (W.alloc o) := h.ext ((Below.refl _ W).alloc (Nat.le_refl _) o)
theorem PutAt.drewN {X : List UInt8} (h : PutAt B b tb pb X W) (n : Nat) : PutAt B b tb pb X (W.drewN n) := h.ext ⟨rfl, rfl, rfl, Nat.le_refl _, fun _ _ => rfl⟩
theorem bld_set {bs : List Value} {x : Value} {cs : Array Value} {t : TypeId} {fz : Nat × Nat} (h : Lib.IsBuilderF TB TU B b bs W) (hp : W.heap[pb]? = some (.cells cs t fz)) (ht : t ≠ TU) (hb : b ≠ pb) : Lib.IsBuilderF TB TU B b bs (W.setCell ⟨pb, 0, none⟩ x) := by
  have one : ∀ q, Lib.BuilderAtF TB TU B b q bs W → Lib.BuilderAtF TB TU B b q bs (W.setCell ⟨pb, 0, none⟩ x) := by
    rintro q ⟨h1, v, h2, h3, h4⟩
    refine ⟨h1, v, (Below.heap_setCell _ _ _ _ (fun e => hb e)).trans h2, ?_, h4⟩
    exact h3.kept (row := some pb) ⟨rfl, rfl, rfl, by simp [World.setCell], fun k _ hk => Below.heap_setCell _ _ _ _ (fun e => hk (by simp [e]))⟩ (Or.inr (Lib.ownBlock_neF h3 hp ht))
  exact h.elim (fun q => .inl (one _ q)) fun q => .inr (one _ q)
theorem eql_str (a b : List UInt8) : binOp .eql 9 (.string ⟨a.toArray⟩) (.string ⟨b.toArray⟩) = pure (.bool (decide (a = b))) := by
  rw [eql_txt]
/-- what one WriteString leaves as it is -/
structure Wr (B b : Nat) (W W' : World) : Prop where
  low : Below B W W'
  oth : Lib.OthersKept TU (some b) W W'
theorem Wr.trans (h : Wr B b W W') (k : Wr B b W' W'') : Wr B b W W'' := ⟨h.low.trans k.low, h.oth.trans k.oth⟩
theorem Wr.kp (h : Wr B b W W') : Kp B b pb W W' := Kp.write h.low h.oth
theorem Wr.row (h : Wr B b W W') {k : Nat} {cs : Array Value} {t : TypeId} {fz : Nat × Nat} (hk : W.heap[k]? = some (.cells cs t fz)) (h1 : k ≠ b) (ht : t ≠ TU) : W'.heap[k]? = some (.cells cs t fz) :=
  h.oth k _ hk (fun e => h1 (Option.some.inj e)) fun c f e => by
    simp only [Obj.cells.injEq] at e
    exact ht e.2.1
/-- what one WriteString does -/
theorem write_put {O : List UInt8} (h : Lib.IsBuilderF TB TU B b (Lib.byteCells O) W) (s : List UInt8) (hl : O.length + s.length ≤ 1000000000000) (hB : B ≤ W.heap.size) :
    Calls Tryz.prog 29 #[.pointer (some ⟨b, 0, none⟩), .string ⟨s.toArray⟩] W fun e w' => e = .returned (.tuple #[.int .i64 s.length, .nilIface]) ∧ Lib.IsBuilderF TB TU B b (Lib.byteCells (O ++ s)) w' ∧ Wr B b W w' := by
  have hs : (⟨s.toArray⟩ : ByteArray).size = s.length := by simp [ByteArray.size]
  refine (write_cells B b _ ⟨s.toArray⟩ W h (by rw [Lib.byteCells_length, hs]; omega) hB).mono ?_
  rintro e w' ⟨rfl, h1, h2, h3⟩
  refine ⟨by rw [hs], .inr ?_, h2, h3⟩
  rw [Lib.byteCells_append]
  exact h1

set_option maxHeartbeats 4000000 in
theorem put_any {X : List UInt8} (H : PutAt B b tb pb X W) (l : List (List UInt8)) (k0 n : Nat) (hn : n = l.length) (hs : W.heap[k0]? = some (.cells (l.map fun s => Value.string ⟨s.toArray⟩).toArray 9)) (h1 : k0 ≠ b) (h2 : k0 ≠ pb) (hX : X.length + (putX l).length ≤ 100000000000) (hl : n ≤ 1000) :
    Calls Tryz.prog 28 #[.slice (some ⟨k0, 0, none⟩) n n, .pointer (some ⟨tb, 0, none⟩), .pointer (some ⟨pb, 0, none⟩)] W fun e w' => e = .returned (.tuple #[]) ∧ PutAt B b tb pb (X ++ putX l) w' ∧ Kp B b pb W w' := by
  have HH := Lib.hid H
  have HN := Lib.hid hn
  have HS := Lib.hid hs
  clear H hn hs
  go_enter Tryz.func28, Tryz.ntmps28
  go_wp2_with fail
  go_loopw [8] (fun i wr => ∃ k : Nat, k ≤ n ∧ i = .int .i64 k ∧ PutAt B b tb pb (X ++ putX (l.take k)) wr ∧ Kp B b pb W wr) (fun i _ => n - (intOf i).toNat)
  case atStart =>
    refine ⟨0, by omega, rfl, ?_, Kp.refl _⟩
    simpa [putX] using HH.out
  case round =>
    obtain ⟨k, hk, rfl, hP, hK⟩ := hrel
    obtain ⟨wo, rfl⟩ : ∃ wo, wo = wr := ⟨_, rfl⟩
    by_cases hlt : k < n
    · have hkl : k < l.length := by have := HN.out; omega
      obtain ⟨t, ht⟩ : ∃ t, l[k]? = some t := ⟨_, List.getElem?_eq_getElem hkl⟩
      have hrow := hK.row HS.out h1 h2 (by decide)
      have hc : wo.cell? ⟨k0, k, none⟩ = some (.string ⟨t.toArray⟩) := by
        rw [cell_of_row wo k0 k _ 9 (0, 0) hrow]
        simp [ht]
      have hc0 : wo.cell? ⟨k0, 0 + k, none⟩ = some (.string ⟨t.toArray⟩) := by rw [Nat.zero_add]; exact hc
      obtain ⟨O, eO, hO⟩ := hP.bld
      obtain ⟨Y, eY⟩ : ∃ Y, Y = X ++ putX (l.take k) := ⟨_, rfl⟩
      rw [← eY] at hP eO
      obtain ⟨p, ep⟩ : ∃ p, p = tailX Y := ⟨_, rfl⟩
      have hpt := hP.text
      have hpp := hP.part
      rw [← ep] at hpp eO
      have x0 : wo.cell? ⟨tb, 0, none⟩ = some (.pointer (some ⟨b, 0, none⟩)) := cell_of_row wo tb 0 _ 47 (0, 0) hpt
      have x1 : wo.cell? ⟨pb, 0, none⟩ = some (.string ⟨p.toArray⟩) := cell_of_row wo pb 0 _ 9 (0, 0) hpp
      have hlen : Y.length + (sepO t).length ≤ 100000000000 := by
        have q1 := put_long (l := l) (k + 1)
        rw [put_take ht, List.length_append] at q1
        rw [eY, List.length_append]
        omega
      have hOl : O.length + p.length = Y.length := by rw [eO]; simp
      have htl : t.length + 1 ≤ (sepO t).length := by
        unfold sepO
        split
        · rename_i e; rw [e]; decide
        · simp
      have C1 := Lib.hid (write_put hO p (by omega) hP.size)
      have HP := Lib.hid hP
      have HK := Lib.hid hK
      have HT := Lib.hid ht
      have EY := Lib.hid eY
      have EO := Lib.hid eO
      have HL := Lib.hid hlen
      have HL2 := Lib.hid hOl
      have HL3 := Lib.hid htl
      have hq := eql_str t [59]
      obtain ⟨q, hqe⟩ : ∃ q, q = decide (t = [59]) := ⟨_, rfl⟩
      rw [← hqe] at hq
      have HQ := Lib.hid hqe
      clear hP hK ht eY eO hO hpt hpp hrow hlen hOl htl ep hkl hqe
      go_wp2_with fail
      refine C1.out.mono ?_
      rintro e w1 ⟨rfl, hO1, hK1⟩
      have hpt := hK1.row HP.out.text HP.out.tbb (by decide)
      have x2 : w1.cell? ⟨tb, 0, none⟩ = some (.pointer (some ⟨b, 0, none⟩)) := cell_of_row w1 tb 0 _ 47 (0, 0) hpt
      rw [← EO.out] at hO1
      have C2 := Lib.hid (write_put hO1 t (by have := HL.out; have := HL3.out; omega) (Nat.le_trans HP.out.size hK1.low.size))
      have HK1 := Lib.hid hK1
      clear hO1 hpt hK1
      go_wp2_with fail
      refine C2.out.mono ?_
      rintro e w2 ⟨rfl, hO2, hK2⟩
      have hK3 := HK1.out.trans hK2
      have hpp := hK3.row HP.out.part (fun e => HP.out.bp e.symm) (by decide)
      have hpt := hK3.row HP.out.text HP.out.tbb (by decide)
      have x3 : w2.cell? ⟨pb, 0, none⟩ = some (.string ⟨(tailX Y).toArray⟩) := cell_of_row w2 pb 0 _ 9 (0, 0) hpp
      have f3 : w2.frozen? ⟨pb, 0, none⟩ = false := frozen_of_row w2 pb 0 _ 9 hpp
      obtain ⟨u, hu⟩ : ∃ u, u = w2.setCell ⟨pb, 0, none⟩ (.string ⟨([32] : List UInt8).toArray⟩) := ⟨_, rfl⟩
      have hO3 : Lib.IsBuilderF TB TU B b (Lib.byteCells (Y ++ t)) u := by rw [hu]; exact bld_set hO2 hpp (by decide) HP.out.bp
      have hK4 : Kp B b pb wo u := by rw [hu]; exact (Wr.kp hK3).put HP.out.lowp _
      have hpu : u.heap[pb]? = some (.cells #[.string ⟨([32] : List UInt8).toArray⟩] 9) := by rw [hu]; simp [World.setCell, Array.getElem?_modify, hpp]
      have htu : u.heap[tb]? = some (.cells #[.pointer (some ⟨b, 0, none⟩)] 47) := by rw [hu, Below.heap_setCell _ _ _ _ (fun e => HP.out.tp e)]; exact hpt
      have x4 : u.cell? ⟨tb, 0, none⟩ = some (.pointer (some ⟨b, 0, none⟩)) := cell_of_row u tb 0 _ 47 (0, 0) htu
      have hsu := Nat.le_trans HP.out.size hK4.low.size
      have C3 := Lib.hid (write_put hO3 [10] (by have := HL.out; have := HL3.out; simp; omega) hsu)
      have PU := Lib.hid hpu
      have TU2 := Lib.hid htu
      have O3 := Lib.hid hO3
      have K4 := Lib.hid hK4
      have x4' := x4
      rw [hu] at x4'
      have HU := Lib.hid hu
      clear hO2 hK2 hK3 hpp hpt hO3 hK4 hpu htu hsu x4 hu
      by_cases hts : t = [59]
      · have hqt : q = true := by rw [HQ.out, hts]; rfl
        have HTS := Lib.hid hts
        clear hts HQ
        subst hqt
        go_wp2_with fail
        rw [show (w2.setCell { block := pb, off := 0 } (Value.string { data := #[32] })) = u from HU.out.symm]
        refine C3.out.mono ?_
        rintro e w4 ⟨rfl, hO5, hK5⟩
        have hpp := hK5.row PU.out (fun e => HP.out.bp e.symm) (by decide)
        have hpt := hK5.row TU2.out HP.out.tbb (by decide)
        have f5 : w4.frozen? ⟨pb, 0, none⟩ = false := frozen_of_row w4 pb 0 _ 9 hpp
        have x5 : w4.cell? ⟨pb, 0, none⟩ = some (.string ⟨([32] : List UInt8).toArray⟩) := cell_of_row w4 pb 0 _ 9 (0, 0) hpp
        have HO5 := Lib.hid hO5
        have HK5 := Lib.hid hK5
        have HPP := Lib.hid hpp
        have HPT := Lib.hid hpt
        clear hO5 hK5 hpp hpt
        go_wp2_with fail
        go_roundw
        case rel =>
          have eX : X ++ putX (l.take (k + 1)) = (Y ++ t) ++ [10] := by rw [put_take HT.out, ← List.append_assoc, ← EY.out, HTS.out]; simp [sepO]
          have hK6 : Kp B b pb wo (w4.setCell ⟨pb, 0, none⟩ (.string ⟨#[]⟩)) := (K4.out.trans HK5.out.kp).put HP.out.lowp _
          refine ⟨k + 1, by omega, rfl, ?_, HK.out.trans hK6⟩
          rw [eX]
          refine ⟨⟨(Y ++ t) ++ [10], by rw [tail_nl]; simp, bld_set HO5.out HPP.out (by decide) HP.out.bp⟩, ?_, ?_, HP.out.lowp, HP.out.lowt, HP.out.lowb, Nat.le_trans HP.out.size hK6.low.size, HP.out.bp, HP.out.tp, HP.out.tbb, Nat.lt_of_lt_of_le HP.out.lt hK6.low.size, Nat.lt_of_lt_of_le HP.out.ltp hK6.low.size, HP.out.tab.below hK6.low⟩
          · rw [tail_nl]
            simp [World.setCell, Array.getElem?_modify, HPP.out]
          · rw [Below.heap_setCell _ _ _ _ (fun e => HP.out.tp e)]
            exact HPT.out
        case measure =>
          simp [intOf]
          omega
      · have hqt : q = false := by rw [HQ.out]; simp [hts]
        have HTS := Lib.hid hts
        clear hts HQ
        subst hqt
        go_wp2_with fail
        rw [show (w2.setCell { block := pb, off := 0 } (Value.string { data := #[32] })) = u from HU.out.symm]
        go_roundw
        case rel =>
          have eX : X ++ putX (l.take (k + 1)) = (Y ++ t) ++ [32] := by rw [put_take HT.out, ← List.append_assoc, ← EY.out, sepO, if_neg HTS.out]; simp
          have hK6 := K4.out
          refine ⟨k + 1, by omega, rfl, ?_, HK.out.trans hK6⟩
          rw [eX]
          refine ⟨⟨Y ++ t, by rw [tail_sp], O3.out⟩, ?_, TU2.out, HP.out.lowp, HP.out.lowt, HP.out.lowb, Nat.le_trans HP.out.size hK6.low.size, HP.out.bp, HP.out.tp, HP.out.tbb, Nat.lt_of_lt_of_le HP.out.lt hK6.low.size, Nat.lt_of_lt_of_le HP.out.ltp hK6.low.size, HP.out.tab.below hK6.low⟩
          rw [tail_sp]
          exact PU.out
        case measure =>
          simp [intOf]
          omega
    · obtain rfl : k = n := by omega
      have e : l.take k = l := by rw [HN.out]; simp
      rw [e] at hP
      clear HN HS hlt hk e
      go_wp2_with fail
      go_end0
      exact ⟨rfl, hP, hK⟩
end
end Go.Proofs.YtkgieaoahijheaaGreatDoor.Wt
