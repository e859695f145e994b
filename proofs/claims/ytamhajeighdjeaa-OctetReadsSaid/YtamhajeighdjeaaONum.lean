/-
  Numbers as rows of bytes, and the mark of bytes, by themselves. Nothing of the program.
-/
namespace Go.Proofs.Ytamhajeighdjeaa

/-- which of four sizes a number has -/
def kind (n : Nat) : Nat := if n < 64 then 0 else if n < 16384 then 1 else if n < 1073741824 then 2 else 3
/-- how many bytes a number has -/
def size (n : Nat) : Nat := if n < 64 then 1 else if n < 16384 then 2 else if n < 1073741824 then 4 else 8
/-- s bytes of n, the highest first -/
def be : Nat → Nat → List Nat
  | 0, _ => []
  | s + 1, n => be s (n / 256) ++ [n % 256]
def num (xs : List Nat) : Nat := xs.foldl (fun a x => 256 * a + x) 0
def Bytes (xs : List Nat) : Prop := ∀ x, x ∈ xs → x < 256

theorem num_nil : num [] = 0 := rfl
theorem num_snoc (xs : List Nat) (x : Nat) : num (xs ++ [x]) = 256 * num xs + x := by simp [num]
theorem num_from : ∀ (xs : List Nat) (a : Nat), xs.foldl (fun a x => 256 * a + x) a = a * 256 ^ xs.length + num xs
  | [], a => by simp [num]
  | x :: r, a => by
    have h1 := num_from r (256 * a + x)
    have h2 := num_from r x
    simp only [num, List.foldl_cons, List.length_cons, Nat.mul_zero, Nat.zero_add] at h1 h2 ⊢
    rw [h1, h2, Nat.pow_succ, Nat.add_mul, Nat.add_assoc]
    congr 1
    rw [Nat.mul_comm 256 a, Nat.mul_assoc, Nat.mul_comm 256]
theorem num_cons (x : Nat) (r : List Nat) : num (x :: r) = x * 256 ^ r.length + num r := by
  have h := num_from r x
  simpa [num] using h
theorem Bytes.tail {x : Nat} {r : List Nat} (h : Bytes (x :: r)) : Bytes r := fun y hy => h y (by simp [hy])
theorem Bytes.head {x : Nat} {r : List Nat} (h : Bytes (x :: r)) : x < 256 := h x (by simp)
theorem Bytes.take {xs : List Nat} (h : Bytes xs) (k : Nat) : Bytes (xs.take k) := fun x hx => h x (List.mem_of_mem_take hx)
theorem Bytes.drop {xs : List Nat} (h : Bytes xs) (k : Nat) : Bytes (xs.drop k) := fun x hx => h x (List.mem_of_mem_drop hx)
theorem Bytes.app {xs ys : List Nat} (h : Bytes xs) (k : Bytes ys) : Bytes (xs ++ ys) := fun x hx => by
  rcases List.mem_append.1 hx with h1 | h1
  · exact h x h1
  · exact k x h1
theorem Bytes.getD {xs : List Nat} (h : Bytes xs) (k : Nat) : xs.getD k 0 < 256 := by
  by_cases hk : k < xs.length
  · have e : xs.getD k 0 = xs[k] := by simp [hk]
    rw [e]
    exact h _ (List.getElem_mem hk)
  · have e : xs.getD k 0 = 0 := by simp [Nat.not_lt.1 hk]
    rw [e]
    omega
theorem num_lt : ∀ {xs : List Nat}, Bytes xs → num xs < 256 ^ xs.length
  | [], _ => by simp [num]
  | x :: r, h => by
    have := num_lt h.tail
    have hx := h.head
    rw [num_cons, List.length_cons, Nat.pow_succ]
    have : x * 256 ^ r.length ≤ 255 * 256 ^ r.length := Nat.mul_le_mul_right _ (by omega)
    omega
theorem be_length : ∀ (s n : Nat), (be s n).length = s
  | 0, _ => rfl
  | s + 1, n => by simp [be, be_length s]
theorem be_bytes : ∀ (s n : Nat), Bytes (be s n)
  | 0, _ => fun x hx => by simp [be] at hx
  | s + 1, n => (be_bytes s _).app (fun x hx => by
      have : x = n % 256 := by simpa using hx
      omega)
theorem be_num_snoc (s : Nat) : ∀ (xs : List Nat), xs.length = s → Bytes xs → be s (num xs) = xs := by
  induction s with
  | zero => intro xs h _; simp [be, List.eq_nil_of_length_eq_zero h]
  | succ s ih =>
    intro xs h hb
    obtain ⟨ys, y, rfl⟩ : ∃ ys y, xs = ys ++ [y] := ⟨xs.dropLast, xs.getLast (by rintro rfl; simp at h), (List.dropLast_concat_getLast _).symm⟩
    have hy : y < 256 := hb y (by simp)
    rw [num_snoc, be, show (256 * num ys + y) / 256 = num ys from by omega, show (256 * num ys + y) % 256 = y from by omega, ih ys (by simpa using h) (fun x hx => hb x (by simp [hx]))]
theorem num_be : ∀ (s n : Nat), num (be s n) = n % 256 ^ s
  | 0, n => by simp [be, num, Nat.mod_one]
  | s + 1, n => by
    rw [be, num_snoc, num_be s, Nat.pow_succ, Nat.mul_comm (256 ^ s) 256, Nat.mod_mul]
    omega
theorem be_cons : ∀ (s n : Nat), be (s + 1) n = (n / 256 ^ s % 256) :: be s n
  | 0, n => by simp [be]
  | s + 1, n => by
    rw [be, be_cons s (n / 256), be, List.cons_append, Nat.div_div_eq_div_mul, Nat.pow_succ, Nat.mul_comm 256]
theorem be_add : ∀ (s n c : Nat), be s (n + c * 256 ^ s) = be s n
  | 0, _, _ => rfl
  | s + 1, n, c => by
    have e : n + c * 256 ^ (s + 1) = n + (c * 256 ^ s) * 256 := by rw [Nat.pow_succ, Nat.mul_assoc]
    rw [e, be, be, Nat.add_mul_div_right _ _ (by decide), Nat.add_mul_mod_self_right, be_add s]
/-- its byte i -/
theorem be_get : ∀ (s n i : Nat), i < s → (be s n).getD i 0 = n / 256 ^ (s - 1 - i) % 256
  | 0, _, _, h => by omega
  | s + 1, n, i, h => by
    rw [be]
    by_cases hi : i < s
    · have e1 : (be s (n / 256) ++ [n % 256]).getD i 0 = (be s (n / 256)).getD i 0 := by
        rw [List.getD_eq_getElem?_getD, List.getD_eq_getElem?_getD, List.getElem?_append_left (by rw [be_length]; exact hi)]
      rw [e1, be_get s _ i hi, Nat.div_div_eq_div_mul, ← Nat.pow_succ']
      congr 3
      omega
    · have e : i = s := by omega
      subst e
      have e1 : (be i (n / 256) ++ [n % 256]).getD i 0 = n % 256 := by
        rw [List.getD_eq_getElem?_getD, List.getElem?_append_right (by rw [be_length]; omega), be_length]
        simp
      rw [e1]
      simp

theorem size_kind (n : Nat) : size n = 2 ^ kind n := by
  unfold size kind
  split
  · rfl
  · split
    · rfl
    · split <;> rfl
theorem kind_le (n : Nat) : kind n ≤ 3 := by
  unfold kind
  split
  · omega
  · split
    · omega
    · split <;> omega
theorem kind_mono {n m : Nat} (h : n ≤ m) : kind n ≤ kind m := by
  unfold kind
  repeat' split
  all_goals omega

/-- how high a number of 2^k bytes may go -/
def room (k : Nat) : Nat := 64 * 256 ^ (2 ^ k - 1)
theorem room_kind {n : Nat} (h : n < 4611686018427387904) : n < room (kind n) := by
  unfold kind room
  split
  · simpa using by assumption
  · split
    · simpa using by assumption
    · split
      · simpa using by assumption
      · simpa using h
/-- a number's bytes -/
def put (n : Nat) : List Nat := be (2 ^ kind n) (n + kind n * room (kind n))
theorem put_length (n : Nat) : (put n).length = 2 ^ kind n := be_length _ _
theorem put_bytes (n : Nat) : Bytes (put n) := be_bytes _ _
theorem pow_pos' (k : Nat) : 2 ^ k = 2 ^ k - 1 + 1 := by have := Nat.pow_pos (n := k) (show 0 < 2 by omega); omega
/-- the first one tells which, all others are the number's -/
theorem put_cons {n : Nat} (h : n < 4611686018427387904) : put n = (n / 256 ^ (2 ^ kind n - 1) + 64 * kind n) :: be (2 ^ kind n - 1) n ∧ n / 256 ^ (2 ^ kind n - 1) < 64 := by
  have hr := room_kind h
  have hk := kind_le n
  unfold put
  generalize kind n = k at hr hk
  have hd : n / 256 ^ (2 ^ k - 1) < 64 := by
    unfold room at hr
    exact (Nat.div_lt_iff_lt_mul (Nat.pow_pos (by decide))).2 hr
  refine ⟨?_, hd⟩
  have e2 : be (2 ^ k) (n + k * room k) = be (2 ^ k - 1 + 1) (n + k * room k) := congrArg (fun s => be s (n + k * room k)) (pow_pos' k)
  rw [e2, be_cons]
  have e : k * room k = (64 * k) * 256 ^ (2 ^ k - 1) := by unfold room; rw [← Nat.mul_assoc, Nat.mul_comm k 64]
  rw [e, be_add, Nat.add_mul_div_right _ _ (Nat.pow_pos (by decide)), Nat.mod_eq_of_lt (by omega)]

/-- the number with which bytes begin, how many bytes it has, and what goes wrong (3: short, 2: form) -/
def take : List Nat → Nat × Nat × Nat
  | [] => (0, 0, 3)
  | x :: r =>
    if r.length + 1 < 2 ^ (x / 64) then (0, 0, 3)
    else if kind (num (x % 64 :: r.take (2 ^ (x / 64) - 1))) = x / 64 then (num (x % 64 :: r.take (2 ^ (x / 64) - 1)), 2 ^ (x / 64), 0)
    else (0, 0, 2)

theorem take_put {n : Nat} (h : n < 4611686018427387904) (rest : List Nat) : take (put n ++ rest) = (n, (put n).length, 0) := by
  obtain ⟨e, hd⟩ := put_cons h
  have hk := kind_le n
  have e1 : (n / 256 ^ (2 ^ kind n - 1) + 64 * kind n) / 64 = kind n := by
    generalize n / 256 ^ (2 ^ kind n - 1) = d at hd
    omega
  have e2 : (n / 256 ^ (2 ^ kind n - 1) + 64 * kind n) % 64 = n / 256 ^ (2 ^ kind n - 1) := by
    generalize n / 256 ^ (2 ^ kind n - 1) = d at hd
    omega
  have e3 : num (n / 256 ^ (2 ^ kind n - 1) :: be (2 ^ kind n - 1) n) = n := by
    rw [num_cons, num_be, be_length, Nat.mul_comm]
    exact Nat.div_add_mod _ _
  have hl : ((be (2 ^ kind n - 1) n) ++ rest).take (2 ^ kind n - 1) = be (2 ^ kind n - 1) n := by
    rw [List.take_append_of_le_length (by rw [be_length]; omega), List.take_of_length_le (by rw [be_length]; omega)]
  rw [put_length, e, List.cons_append, take, e1, e2, hl, e3, if_neg (by rw [List.length_append, be_length]; have := pow_pos' (kind n); omega), if_pos rfl]
theorem take_cut {n : Nat} (h : n < 4611686018427387904) : (take (put n).dropLast).2.2 = 3 := by
  obtain ⟨e, hd⟩ := put_cons h
  have hk := kind_le n
  have e1 : (n / 256 ^ (2 ^ kind n - 1) + 64 * kind n) / 64 = kind n := by
    generalize n / 256 ^ (2 ^ kind n - 1) = d at hd
    omega
  rw [e]
  cases hs : be (2 ^ kind n - 1) n with
  | nil => rfl
  | cons y r =>
    have hl : (be (2 ^ kind n - 1) n).length = 2 ^ kind n - 1 := be_length _ _
    rw [hs] at hl
    rw [List.dropLast_cons_of_ne_nil (by simp), take, e1, if_pos (by
      rw [List.length_dropLast]
      simp only [List.length_cons] at hl ⊢
      have := pow_pos' (kind n)
      omega)]
theorem put_inj {n m : Nat} (hn : n < 4611686018427387904) (hm : m < 4611686018427387904) (h : put n = put m) : n = m := by
  have a := take_put hn []
  have b := take_put hm []
  rw [h] at a
  rw [a] at b
  exact (Prod.mk.inj b).1

theorem take_bad (xs : List Nat) (h : (take xs).2.2 ≠ 0) : (take xs).1 = 0 ∧ (take xs).2.1 = 0 := by
  cases xs with
  | nil => exact ⟨rfl, rfl⟩
  | cons x r =>
    rw [take] at h ⊢
    split at h
    · rename_i h1
      rw [if_pos h1]
      exact ⟨rfl, rfl⟩
    · rename_i h1
      rw [if_neg h1]
      split at h
      · exact absurd rfl h
      · rename_i h2
        rw [if_neg h2]
        exact ⟨rfl, rfl⟩
theorem take_err (xs : List Nat) : (take xs).2.2 = 0 ∨ (take xs).2.2 = 2 ∨ (take xs).2.2 = 3 := by
  cases xs with
  | nil => exact .inr (.inr rfl)
  | cons x r =>
    rw [take]
    split
    · exact .inr (.inr rfl)
    · split
      · exact .inl rfl
      · exact .inr (.inl rfl)
/-- bytes that are a number's are those that Put tells -/
theorem take_good {xs : List Nat} (hb : Bytes xs) (h : (take xs).2.2 = 0) :
    (take xs).1 < 4611686018427387904 ∧ 1 ≤ (take xs).2.1 ∧ (take xs).2.1 ≤ 8 ∧ (take xs).2.1 ≤ xs.length ∧ put (take xs).1 = xs.take (take xs).2.1 := by
  cases xs with
  | nil => exact absurd h (by decide)
  | cons x r =>
    rw [take] at h ⊢
    split at h
    · exact absurd h (by decide)
    · rename_i h1
      rw [if_neg h1]
      split at h
      · rename_i h2
        rw [if_pos h2]
        simp only
        have hx := hb.head
        have hk : x / 64 ≤ 3 := by omega
        generalize hkk : x / 64 = k at h1 h2 hk
        have hp := pow_pos' k
        have hl : (r.take (2 ^ k - 1)).length = 2 ^ k - 1 := by rw [List.length_take]; omega
        have hB : Bytes (x % 64 :: r.take (2 ^ k - 1)) := fun y hy => by
          rcases List.mem_cons.1 hy with rfl | h3
          · omega
          · exact hb.tail y (List.mem_of_mem_take h3)
        have hn : num (x % 64 :: r.take (2 ^ k - 1)) < room k := by
          rw [num_cons, hl]
          have h3 := num_lt (hb.tail.take (2 ^ k - 1))
          rw [hl] at h3
          have h4 : x % 64 * 256 ^ (2 ^ k - 1) ≤ 63 * 256 ^ (2 ^ k - 1) := Nat.mul_le_mul_right _ (by omega)
          unfold room
          omega
        have hroom : room k ≤ 4611686018427387904 := by
          match k, hk with
          | 0, _ => decide
          | 1, _ => decide
          | 2, _ => decide
          | 3, _ => decide
        have h8 : 2 ^ k ≤ 8 := by
          match k, hk with
          | 0, _ => decide
          | 1, _ => decide
          | 2, _ => decide
          | 3, _ => decide
        refine ⟨by omega, by omega, h8, by simp only [List.length_cons]; omega, ?_⟩
        unfold put
        rw [h2]
        have e : num (x % 64 :: r.take (2 ^ k - 1)) + k * room k = num (x :: r.take (2 ^ k - 1)) := by
          rw [num_cons, num_cons, hl]
          unfold room
          have e1 : x = x % 64 + 64 * k := by omega
          have e2 : x * 256 ^ (2 ^ k - 1) = (x % 64 + 64 * k) * 256 ^ (2 ^ k - 1) := congrArg (· * 256 ^ (2 ^ k - 1)) e1
          rw [e2, Nat.add_mul, ← Nat.mul_assoc, Nat.mul_comm k 64]
          omega
        rw [e]
        have e3 : (x :: r).take (2 ^ k) = x :: r.take (2 ^ k - 1) := by
          have : (x :: r).take (2 ^ k) = (x :: r).take (2 ^ k - 1 + 1) := congrArg (fun j => (x :: r).take j) hp
          rw [this, List.take_succ_cons]
        rw [e3]
        refine be_num_snoc _ _ (by rw [List.length_cons, hl]; omega) (fun y hy => ?_)
        rcases List.mem_cons.1 hy with rfl | h3
        · exact hx
        · exact hb.tail y (List.mem_of_mem_take h3)
      · exact absurd h (by decide)

/- marks -/
def mstep (m x : Nat) : Nat := (m ^^^ x) * 1099511628211 % 18446744073709551616
def mark (xs : List Nat) : Nat := xs.foldl mstep 14695981039346656037
theorem mark_snoc (xs : List Nat) (x : Nat) : mark (xs ++ [x]) = mstep (mark xs) x := by
  unfold mark
  rw [List.foldl_append, List.foldl_cons, List.foldl_nil]
theorem mark_lt (xs : List Nat) : mark xs < 18446744073709551616 := by
  by_cases h : xs = []
  · subst h
    unfold mark
    rw [List.foldl_nil]
    decide
  · rw [← List.dropLast_concat_getLast h, mark_snoc]
    unfold mstep
    exact Nat.mod_lt _ (by decide)
theorem xor_lt (m x : Nat) (hm : m < 18446744073709551616) (hx : x < 256) : m ^^^ x < 18446744073709551616 :=
  Nat.xor_lt_two_pow (n := 64) hm (by omega)
theorem mstep_inj {m x y : Nat} (hm : m < 18446744073709551616) (hx : x < 256) (hy : y < 256) (h : mstep m x = mstep m y) : x = y := by
  have key : ∀ a, a < 18446744073709551616 → a * 1099511628211 % 18446744073709551616 * 14886173955864302971 % 18446744073709551616 = a := fun a ha => by omega
  have a := key _ (xor_lt m x hm hx)
  have b := key _ (xor_lt m y hm hy)
  unfold mstep at h
  rw [h, b] at a
  have := congrArg (m ^^^ ·) a
  simpa [← Nat.xor_assoc] using this.symm
end Go.Proofs.Ytamhajeighdjeaa
