/- Plain mathematics of counting the bits of a word by adding neighbours. -/
import Derived.Test.YtngpfondnampjaaDoorMath
namespace Go.Proofs.YtngpfondnampjaaDoor
def ofD (B : Nat) : List Nat → Nat
  | [] => 0
  | d :: r => d + B * ofD B r
def pairs : List Nat → List Nat
  | a :: b :: r => (a + b) :: pairs r
  | _ => []
def mask (w : Nat) : Nat → Nat
  | 0 => 0
  | n + 1 => (2 ^ w - 1) + 2 ^ (w + w) * mask w n
theorem and_split (k a b c d : Nat) (ha : a < 2 ^ k) (hc : c < 2 ^ k) : (a + 2 ^ k * b) &&& (c + 2 ^ k * d) = (a &&& c) + 2 ^ k * (b &&& d) := by
  apply Nat.eq_of_testBit_eq
  intro j
  have hac : a &&& c < 2 ^ k := Nat.and_lt_two_pow _ hc
  rw [Nat.testBit_and, Nat.add_comm a, Nat.add_comm c, Nat.add_comm (a &&& c), Nat.testBit_two_pow_mul_add _ ha, Nat.testBit_two_pow_mul_add _ hc, Nat.testBit_two_pow_mul_add _ hac]
  by_cases h : j < k <;> simp [h]
theorem and_mask (w n d Y : Nat) (hd : d < 2 ^ w) : (d + 2 ^ w * Y) &&& mask w (n + 1) = d + 2 ^ (w + w) * ((Y / 2 ^ w) &&& mask w n) := by
  have hp : 0 < 2 ^ w := Nat.two_pow_pos w
  have e1 : 2 ^ (w + w) = 2 ^ w * 2 ^ w := Nat.pow_add 2 w w
  have e : d + 2 ^ w * Y = (d + 2 ^ w * (Y % 2 ^ w)) + 2 ^ (w + w) * (Y / 2 ^ w) := by
    have := Nat.div_add_mod Y (2 ^ w)
    rw [e1, Nat.mul_assoc, Nat.add_assoc, ← Nat.mul_add, Nat.add_comm (Y % 2 ^ w), this]
  have hl : d + 2 ^ w * (Y % 2 ^ w) < 2 ^ (w + w) := by
    have hm := Nat.mod_lt Y hp
    have : 2 ^ w * (Y % 2 ^ w) + 2 ^ w ≤ 2 ^ w * 2 ^ w := by
      have h2 : 2 ^ w * (Y % 2 ^ w + 1) ≤ 2 ^ w * 2 ^ w := Nat.mul_le_mul_left _ hm
      rw [Nat.mul_add, Nat.mul_one] at h2; exact h2
    omega
  have hm : 2 ^ w - 1 < 2 ^ (w + w) := by
    have : 2 ^ w ≤ 2 ^ (w + w) := Nat.pow_le_pow_right (by decide) (by omega)
    omega
  show (d + 2 ^ w * Y) &&& ((2 ^ w - 1) + 2 ^ (w + w) * mask w n) = _
  rw [e, and_split _ _ _ _ _ hl hm, Nat.and_two_pow_sub_one_eq_mod]
  congr 1
  rw [Nat.add_mul_mod_self_left]; exact Nat.mod_eq_of_lt hd
theorem drop_digit (w d Y : Nat) (hd : d < 2 ^ w) : (d + 2 ^ w * Y) / 2 ^ w = Y := by
  have hp : 0 < 2 ^ w := Nat.two_pow_pos w
  rw [Nat.add_mul_div_left _ _ hp, Nat.div_eq_of_lt hd, Nat.zero_add]
theorem step_add (w : Nat) : ∀ (n : Nat) (l : List Nat), l.length = 2 * n → (∀ d ∈ l, d < 2 ^ w) →
    ((ofD (2 ^ w) l / 2 ^ w) &&& mask w n) + (ofD (2 ^ w) l &&& mask w n) = ofD (2 ^ (w + w)) (pairs l)
  | 0, l, hl, _ => by
    obtain rfl : l = [] := List.eq_nil_of_length_eq_zero (by omega)
    simp [ofD, pairs, mask]
  | n + 1, l, hl, hd => by
    match l, hl with
    | a :: b :: r, hl =>
      have ha := hd a (by simp)
      have hb := hd b (by simp)
      have ih := step_add w n r (by simp at hl; omega) (fun d h => hd d (by simp [h]))
      have e : ofD (2 ^ w) (a :: b :: r) = a + 2 ^ w * (b + 2 ^ w * ofD (2 ^ w) r) := rfl
      have e2 : ofD (2 ^ (w + w)) (pairs (a :: b :: r)) = (a + b) + 2 ^ (w + w) * ofD (2 ^ (w + w)) (pairs r) := rfl
      rw [e, e2, and_mask w n a _ ha, drop_digit w a _ ha, drop_digit w b _ hb, and_mask w n b _ hb, ← ih, Nat.mul_add]
      omega
theorem step_both (w : Nat) : ∀ (n : Nat) (l : List Nat), l.length = 2 * n → (∀ d ∈ l, d + d < 2 ^ w) →
    ((ofD (2 ^ w) l / 2 ^ w + ofD (2 ^ w) l) &&& mask w n) = ofD (2 ^ (w + w)) (pairs l)
  | 0, l, hl, _ => by
    obtain rfl : l = [] := List.eq_nil_of_length_eq_zero (by omega)
    simp [ofD, pairs, mask]
  | n + 1, l, hl, hd => by
    match l, hl with
    | a :: b :: r, hl =>
      have hp : 0 < 2 ^ w := Nat.two_pow_pos w
      have ha := hd a (by simp)
      have hb := hd b (by simp)
      have ih := step_both w n r (by simp at hl; omega) (fun d h => hd d (by simp [h]))
      have e : ofD (2 ^ w) (a :: b :: r) = a + 2 ^ w * (b + 2 ^ w * ofD (2 ^ w) r) := rfl
      have e2 : ofD (2 ^ (w + w)) (pairs (a :: b :: r)) = (a + b) + 2 ^ (w + w) * ofD (2 ^ (w + w)) (pairs r) := rfl
      have e3 : (ofD (2 ^ w) r + b) / 2 ^ w = ofD (2 ^ w) r / 2 ^ w := by
        match r, hd with
        | [], _ =>
          show (0 + b) / 2 ^ w = 0 / 2 ^ w
          rw [Nat.div_eq_of_lt (show 0 + b < 2 ^ w by omega), Nat.zero_div]
        | c :: s, hd =>
          have hc := hd c (by simp)
          show (c + 2 ^ w * ofD (2 ^ w) s + b) / 2 ^ w = (c + 2 ^ w * ofD (2 ^ w) s) / 2 ^ w
          rw [show c + 2 ^ w * ofD (2 ^ w) s + b = (c + b) + 2 ^ w * ofD (2 ^ w) s by omega, drop_digit w (c + b) _ (by omega), drop_digit w c _ (by omega)]
      rw [e, e2, drop_digit w a _ (by omega)]
      have e4 : b + 2 ^ w * ofD (2 ^ w) r + (a + 2 ^ w * (b + 2 ^ w * ofD (2 ^ w) r)) = (a + b) + 2 ^ w * ((ofD (2 ^ w) r + b) + 2 ^ w * ofD (2 ^ w) r) := by
        rw [Nat.mul_add, Nat.mul_add, Nat.mul_add]; omega
      rw [e4, and_mask w n (a + b) _ (by omega), Nat.add_mul_div_left _ _ hp, e3, ih]
theorem pairs_len : ∀ (n : Nat) (l : List Nat), l.length = 2 * n → (pairs l).length = n
  | 0, l, h => by
    obtain rfl : l = [] := List.eq_nil_of_length_eq_zero (by omega)
    rfl
  | n + 1, l, h => by
    match l, h with
    | a :: b :: r, h =>
      have := pairs_len n r (by simp at h; omega)
      simp [pairs, this]
theorem pairs_sum : ∀ (n : Nat) (l : List Nat), l.length = 2 * n → (pairs l).sum = l.sum
  | 0, l, h => by
    obtain rfl : l = [] := List.eq_nil_of_length_eq_zero (by omega)
    rfl
  | n + 1, l, h => by
    match l, h with
    | a :: b :: r, h =>
      have := pairs_sum n r (by simp at h; omega)
      simp [pairs, this]; omega
theorem pairs_le (k : Nat) : ∀ (n : Nat) (l : List Nat), l.length = 2 * n → (∀ d ∈ l, d ≤ k) → ∀ d ∈ pairs l, d ≤ k + k
  | 0, l, h, _ => by
    obtain rfl : l = [] := List.eq_nil_of_length_eq_zero (by omega)
    intro d hd; simp [pairs] at hd
  | n + 1, l, h, hd => by
    match l, h with
    | a :: b :: r, h =>
      have ih := pairs_le k n r (by simp at h; omega) (fun d hr => hd d (by simp [hr]))
      have ha := hd a (by simp)
      have hb := hd b (by simp)
      intro d hm
      simp only [pairs, List.mem_cons] at hm
      rcases hm with rfl | hm
      · omega
      · exact ih d hm
/- the binary digits of a word -/
def digits : Nat → Nat → List Nat
  | 0, _ => []
  | n + 1, x => x % 2 :: digits n (x / 2)
theorem digits_len (n : Nat) : ∀ x, (digits n x).length = n := by
  induction n with
  | zero => intro x; rfl
  | succ n ih => intro x; simp [digits, ih]
theorem digits_le (n : Nat) : ∀ x, ∀ d ∈ digits n x, d ≤ 1 := by
  induction n with
  | zero => intro x d h; simp [digits] at h
  | succ n ih =>
    intro x d h
    simp only [digits, List.mem_cons] at h
    rcases h with rfl | h
    · omega
    · exact ih _ d h
theorem digits_of (n : Nat) : ∀ x, x < 2 ^ n → ofD 2 (digits n x) = x := by
  induction n with
  | zero => intro x h; simp at h; subst h; rfl
  | succ n ih =>
    intro x h
    rw [Nat.pow_succ] at h
    show x % 2 + 2 * ofD 2 (digits n (x / 2)) = x
    rw [ih (x / 2) (by omega)]; omega
theorem digits_sum (n : Nat) : ∀ x, (digits n x).sum = ((List.range n).filter x.testBit).length := by
  induction n with
  | zero => intro x; rfl
  | succ n ih =>
    intro x
    rw [show n + 1 = 1 + n by omega, range_add, List.filter_append, List.length_append, List.filter_map, List.length_map]
    have e1 : digits (1 + n) x = x % 2 :: digits n (x / 2) := by rw [Nat.add_comm]; rfl
    rw [e1, List.sum_cons, ih (x / 2)]
    have e2 : ((List.range 1).filter x.testBit).length = x % 2 := by
      have h0 : x.testBit 0 = decide (x % 2 = 1) := by rw [Nat.testBit_zero]
      rw [show List.range 1 = [0] from rfl]
      by_cases h : x % 2 = 1 <;> simp [h0, h] <;> omega
    rw [e2]
    congr 2
    apply List.filter_congr
    intro j _
    simp only [Function.comp]
    rw [Nat.add_comm 1 j, Nat.testBit_succ]
def pp1 (x : Nat) : Nat := ((x / 2) &&& 6148914691236517205) + (x &&& 6148914691236517205)
def pp2 (x : Nat) : Nat := ((x / 4) &&& 3689348814741910323) + (x &&& 3689348814741910323)
def pp3 (x : Nat) : Nat := (x / 16 + x) &&& 1085102592571150095
theorem last_sum8 (a b c d e f g i y Y1 Y2 Y3 Y4 Y5 Y6 Y7 : Nat) (ha : a ≤ 8) (hb : b ≤ 8) (hc : c ≤ 8) (hd : d ≤ 8) (he : e ≤ 8) (hf : f ≤ 8) (hg : g ≤ 8) (hi : i ≤ 8)
    (e0 : y = a + 256 * Y1) (e1 : Y1 = b + 256 * Y2) (e2 : Y2 = c + 256 * Y3) (e3 : Y3 = d + 256 * Y4) (e4 : Y4 = e + 256 * Y5) (e5 : Y5 = f + 256 * Y6) (e6 : Y6 = g + 256 * Y7) (e7 : Y7 = i) :
    y + y / 256 + (y + y / 256) / 65536 + (y + y / 256 + (y + y / 256) / 65536) / 4294967296 < 9223372036854775808 ∧
    (y + y / 256 + (y + y / 256) / 65536 + (y + y / 256 + (y + y / 256) / 65536) / 4294967296) % 128 = a + (b + (c + (d + (e + (f + (g + (i + 0))))))) := by
  have q1 : y / 256 = Y1 := by omega
  rw [q1]
  have f0 : y = a + 256 * b + 65536 * Y2 := by omega
  have f1 : Y1 = b + 256 * c + 65536 * Y3 := by omega
  have q2 : (y + Y1) / 65536 = Y2 + Y3 := by omega
  rw [q2]
  have f2 : Y2 = c + 256 * d + 65536 * Y4 := by omega
  have f3 : Y3 = d + 256 * e + 65536 * Y5 := by omega
  have f4 : Y4 = e + 256 * f + 65536 * Y6 := by omega
  have f5 : Y5 = f + 256 * g + 65536 * Y7 := by omega
  have q3 : (y + Y1 + (Y2 + Y3)) / 4294967296 = Y4 + Y5 + Y6 + Y7 := by
    clear q1 q2 e0 e1 e2 e3 e4 e5 e6
    omega
  rw [q3]
  clear q1 q2 q3
  constructor
  · clear e0 e1 e2 e3 e4 e5
    omega
  · clear f0 f1 f2 f3 f4 f5
    omega
theorem last_sum (l : List Nat) (h : l.length = 8) (hl : ∀ d ∈ l, d ≤ 8) (y : Nat) (hy : y = ofD 256 l) :
    y + y / 256 + (y + y / 256) / 65536 + (y + y / 256 + (y + y / 256) / 65536) / 4294967296 < 9223372036854775808 ∧
    (y + y / 256 + (y + y / 256) / 65536 + (y + y / 256 + (y + y / 256) / 65536) / 4294967296) % 128 = l.sum := by
  match l, h with
  | [a, b, c, d, e, f, g, i], _ =>
    have ha := hl a (by simp)
    have hb := hl b (by simp)
    have hc := hl c (by simp)
    have hd := hl d (by simp)
    have he := hl e (by simp)
    have hf := hl f (by simp)
    have hg := hl g (by simp)
    have hi := hl i (by simp)
    simp only [ofD, List.sum_cons, List.sum_nil] at hy ⊢
    exact last_sum8 a b c d e f g i y _ _ _ _ _ _ _ ha hb hc hd he hf hg hi hy rfl rfl rfl rfl rfl rfl (by omega)
theorem mask1 : mask 1 32 = 6148914691236517205 := by decide
theorem mask2 : mask 2 16 = 3689348814741910323 := by decide
theorem mask4 : mask 4 8 = 1085102592571150095 := by decide
theorem pop_sum (x : Nat) (h : x < 18446744073709551616) (y : Nat) (hy : y = pp3 (pp2 (pp1 x))) :
    y + y / 256 + (y + y / 256) / 65536 + (y + y / 256 + (y + y / 256) / 65536) / 4294967296 < 9223372036854775808 ∧
    (y + y / 256 + (y + y / 256) / 65536 + (y + y / 256 + (y + y / 256) / 65536) / 4294967296) % 128 = pop x := by
  have l0 := digits_len 64 x
  have d0 := digits_le 64 x
  have o0 := digits_of 64 x h
  have s0 : (digits 64 x).sum = pop x := digits_sum 64 x
  generalize digits 64 x = D at l0 d0 o0 s0
  have l1 := pairs_len 32 D l0
  have d1 := pairs_le 1 32 D l0 d0
  have s1 := pairs_sum 32 D l0
  have o1 := step_add 1 32 D l0 (fun d hd => by have := d0 d hd; omega)
  rw [mask1, show (2 : Nat) ^ 1 = 2 from rfl, o0, show (2 : Nat) ^ (1 + 1) = 4 from rfl] at o1
  generalize pairs D = D1 at l1 d1 s1 o1
  have l2 := pairs_len 16 D1 l1
  have d2 := pairs_le 2 16 D1 l1 d1
  have s2 := pairs_sum 16 D1 l1
  have o2 := step_add 2 16 D1 l1 (fun d hd => by have := d1 d hd; omega)
  rw [mask2, show (2 : Nat) ^ 2 = 4 from rfl, ← o1, show (2 : Nat) ^ (2 + 2) = 16 from rfl] at o2
  generalize pairs D1 = D2 at l2 d2 s2 o2
  have l3 := pairs_len 8 D2 l2
  have d3 := pairs_le 4 8 D2 l2 d2
  have s3 := pairs_sum 8 D2 l2
  have o3 := step_both 4 8 D2 l2 (fun d hd => by have := d2 d hd; omega)
  rw [mask4, show (2 : Nat) ^ 4 = 16 from rfl, ← o2, show (2 : Nat) ^ (4 + 4) = 256 from rfl] at o3
  have hr := last_sum (pairs D2) l3 d3 y (by rw [hy, ← o3]; rfl)
  rw [s3, s2, s1, s0] at hr
  exact hr
end Go.Proofs.YtngpfondnampjaaDoor
