/- Plain mathematics of decimal texts: the digits of a number, the number of a text, what Atoi makes of a text. -/
import Derived.Test.YtcgmbgamhlfpcaaDoorTxt
import Derived.Lib.ItoaNum
import GoSem.Op.String
namespace Go.Proofs.YtcgmbgamhlfpcaaDoor
open Go
/- the value of a list of digits behind what was read before -/
def dstep (a : Nat) (c : UInt8) : Nat := a * 10 + (c.toNat - 48)
theorem dstep_eq (a : Nat) (c : UInt8) : dstep a c = a * 10 + (c.toNat - 48) := rfl
def val (acc : Nat) (l : List UInt8) : Nat := l.foldl dstep acc
theorem val_cons (acc : Nat) (c : UInt8) (r : List UInt8) : val acc (c :: r) = val (acc * 10 + (c.toNat - 48)) r := by
  rw [← dstep_eq]; unfold val; rw [List.foldl_cons]
theorem val_append (l r : List UInt8) (acc : Nat) : val acc (l ++ r) = val (val acc l) r := by
  unfold val; rw [List.foldl_append]
theorem val_nil (acc : Nat) : val acc [] = acc := rfl
theorem val_mono (l : List UInt8) : ∀ acc, acc ≤ val acc l := by
  induction l with
  | nil => intro acc; exact Nat.le_refl _
  | cons c l ih => intro acc; rw [val_cons]; exact Nat.le_trans (by omega) (ih _)
/- what a list of digits parses as: its value, or out of range -/
def Parses (a : Lib.NumEnd Nat) (v : Nat) : Prop := (v < 18446744073709551616 ∧ a = .ok v) ∨ (18446744073709551616 ≤ v ∧ a = .range)
theorem parse_digits (l : List UInt8) : ∀ acc, acc < 18446744073709551616 → l.all digB = true → Parses (Lib.parseUint10 acc l) (val acc l) := by
  induction l with
  | nil => intro acc h _; exact Or.inl ⟨h, rfl⟩
  | cons c l ih =>
    intro acc h hd
    rw [List.all_cons, Bool.and_eq_true] at hd
    have hc : 48 ≤ c.toNat ∧ c.toNat ≤ 57 := of_decide_eq_true hd.1
    have hm := val_mono l (acc * 10 + (c.toNat - 48))
    rw [val_cons]
    unfold Lib.parseUint10
    rw [if_pos hc]
    by_cases h1 : 1844674407370955162 ≤ acc
    · rw [if_pos h1]
      exact Or.inr ⟨by omega, rfl⟩
    · rw [if_neg h1]
      by_cases h2 : 18446744073709551616 ≤ acc * 10 + (c.toNat - 48)
      · rw [if_pos h2]
        exact Or.inr ⟨by omega, rfl⟩
      · rw [if_neg h2]
        exact ih _ (by omega) hd.2
/- the digits, the sign, the value of a text -/
def neg (l : List UInt8) : Bool := match l with | [] => false | c :: _ => c.toNat == 45
def uval (l : List UInt8) : Nat := val 0 (Lib.trimPrefix l [45])
def sval (l : List UInt8) : Int := if neg l then -(uval l : Int) else uval l
theorem toNat_inj {a b : UInt8} (h : a.toNat = b.toNat) : a = b := UInt8.toNat_inj.1 h
theorem trim_neg {l : List UInt8} (h : neg l = true) : ∃ r, l = 45 :: r ∧ Lib.trimPrefix l [45] = r := by
  cases l with
  | nil => cases h
  | cons c r =>
    have hc : c.toNat = 45 := by simpa [neg] using h
    obtain rfl : c = 45 := toNat_inj (by rw [hc]; rfl)
    exact ⟨r, rfl, by simp [Lib.trimPrefix, Lib.hasPrefix]⟩
theorem trim_pos {l : List UInt8} (h : neg l = false) : Lib.trimPrefix l [45] = l := by
  cases l with
  | nil => rfl
  | cons c r =>
    have hc : c ≠ 45 := by
      intro hc; subst hc; simp [neg] at h
    have h2 : Lib.hasPrefix (c :: r) [45] = false := by
      unfold Lib.hasPrefix
      have : (45 == c) = false := beq_false_of_ne (Ne.symm hc)
      simp [List.isPrefixOf, this]
    unfold Lib.trimPrefix
    rw [h2]; rfl
theorem mag_digits {l : List UInt8} (h : magTxt l = true) : l ≠ [] ∧ l.all digB = true ∧ ∃ c r, l = c :: r ∧ c.toNat ≠ 48 := by
  cases l with
  | nil => cases h
  | cons c r =>
    have h' : (!(c.toNat == 48) && (c :: r).all digB) = true := h
    rw [Bool.and_eq_true] at h'
    exact ⟨by simp, h'.2, c, r, rfl, by simpa using h'.1⟩
/- a text is digits (behind a minus sign or not); what Atoi makes of it -/
theorem int_digits {l : List UInt8} (h : intTxt l = true) : Lib.trimPrefix l [45] ≠ [] ∧ (Lib.trimPrefix l [45]).all digB = true := by
  unfold intTxt at h
  rw [Bool.or_eq_true] at h
  rcases h with h | h
  · have : l = [48] := by simpa using h
    subst this
    exact ⟨by decide, by decide⟩
  · have := mag_digits h
    exact ⟨this.1, this.2.1⟩
theorem atoi_pos (c : UInt8) (r : List UInt8) (n1 : ¬ (c.toNat = 43 ∨ c.toNat = 45)) (u : Nat) (h : Lib.parseMag (c :: r) = .ok u) : Lib.atoiAll (c :: r) = if 9223372036854775808 ≤ u then .range else .ok (u : Int) := by
  have n2 : ¬ c.toNat = 45 := fun h => n1 (Or.inr h)
  unfold Lib.atoiAll
  simp only [if_neg n1, h]
  simp only [n2, not_false_eq_true, true_and, false_and, if_false]
theorem atoi_pos_range (c : UInt8) (r : List UInt8) (n1 : ¬ (c.toNat = 43 ∨ c.toNat = 45)) (h : Lib.parseMag (c :: r) = .range) : Lib.atoiAll (c :: r) = .range := by
  unfold Lib.atoiAll
  simp only [if_neg n1, h]
theorem atoi_neg (r : List UInt8) (u : Nat) (h : Lib.parseMag r = .ok u) : Lib.atoiAll (45 :: r) = if 9223372036854775808 < u then .range else .ok (-(u : Int)) := by
  have n1 : (45 : UInt8).toNat = 43 ∨ (45 : UInt8).toNat = 45 := Or.inr rfl
  have n2 : (45 : UInt8).toNat = 45 := rfl
  unfold Lib.atoiAll
  simp only [if_pos n1, h]
  simp only [n2, not_true_eq_false, true_and, false_and, if_false, if_true]
theorem atoi_neg_range (r : List UInt8) (h : Lib.parseMag r = .range) : Lib.atoiAll (45 :: r) = .range := by
  have n1 : (45 : UInt8).toNat = 43 ∨ (45 : UInt8).toNat = 45 := Or.inr rfl
  unfold Lib.atoiAll
  simp only [if_pos n1, h]
theorem atoi_any {l : List UInt8} (h : intTxt l = true) :
    (uval l ≤ 1125899906842624 → Lib.atoiAll l = .ok (sval l)) ∧
    (1125899906842624 < uval l → (∃ v : Int, Lib.atoiAll l = .ok v ∧ (v < -1125899906842624 ∨ 1125899906842624 < v)) ∨ Lib.atoiAll l = .range) := by
  obtain ⟨hne, hd⟩ := int_digits h
  have hp := parse_digits _ 0 (by omega) hd
  have hm : Lib.parseMag (Lib.trimPrefix l [45]) = Lib.parseUint10 0 (Lib.trimPrefix l [45]) := by
    unfold Lib.parseMag; rw [if_neg hne]
  rw [← hm] at hp
  clear hm
  cases hn : neg l
  · have ht := trim_pos hn
    rw [ht] at hne hd hp
    have hu : uval l = val 0 l := by unfold uval; rw [ht]
    have hs : sval l = (uval l : Int) := by unfold sval; rw [hn]; rfl
    rw [hs, hu]
    cases l with
    | nil => exact absurd rfl hne
    | cons c r =>
      have hc : 48 ≤ c.toNat ∧ c.toNat ≤ 57 := by
        rw [List.all_cons, Bool.and_eq_true] at hd
        exact of_decide_eq_true hd.1
      have n1 : ¬ (c.toNat = 43 ∨ c.toNat = 45) := by omega
      generalize val 0 (c :: r) = v at hp
      rcases hp with ⟨_, hp⟩ | ⟨hv, hp⟩
      · rw [atoi_pos c r n1 _ hp]
        constructor
        · intro hle
          rw [if_neg (by omega)]
        · intro hlt
          by_cases hb : 9223372036854775808 ≤ v
          · right; rw [if_pos hb]
          · left; exact ⟨_, by rw [if_neg hb], Or.inr (by omega)⟩
      · rw [atoi_pos_range c r n1 hp]
        exact ⟨fun hle => by omega, fun _ => Or.inr rfl⟩
  · obtain ⟨r, hl, ht⟩ := trim_neg hn
    rw [ht] at hne hd hp
    have hu : uval l = val 0 r := by unfold uval; rw [ht]
    have hs : sval l = -(uval l : Int) := by unfold sval; rw [hn]; rfl
    rw [hs, hu, hl]
    generalize val 0 r = v at hp
    rcases hp with ⟨_, hp⟩ | ⟨hv, hp⟩
    · rw [atoi_neg r _ hp]
      constructor
      · intro hle
        rw [if_neg (by omega)]
      · intro hlt
        by_cases hb : 9223372036854775808 < v
        · right; rw [if_pos hb]
        · left; exact ⟨_, by rw [if_neg hb], Or.inl (by omega)⟩
    · rw [atoi_neg_range r hp]
      exact ⟨fun hle => by omega, fun _ => Or.inr rfl⟩
/- the numeral of a number, and the number of a numeral -/
theorem dec_small {u : Nat} (h : u < 10) : Lib.decDigits u = [UInt8.ofNat (48 + u)] := by rw [Lib.decDigits, dif_pos h]
theorem dec_big {u : Nat} (h : ¬ u < 10) : Lib.decDigits u = Lib.decDigits (u / 10) ++ [UInt8.ofNat (48 + u % 10)] := by rw [Lib.decDigits, dif_neg h]
theorem toNat_dig {r : Nat} (h : r < 10) : (UInt8.ofNat (48 + r)).toNat = 48 + r := by
  rw [UInt8.toNat_ofNat']; exact Nat.mod_eq_of_lt (by omega)
theorem dig_ofNat {r : Nat} (h : r < 10) : digB (UInt8.ofNat (48 + r)) = true := decide_eq_true (by rw [toNat_dig h]; omega)
theorem dec_all (u : Nat) : (Lib.decDigits u).all digB = true := by
  induction u using Nat.strongRecOn with
  | _ u ih =>
    by_cases h : u < 10
    · rw [dec_small h, List.all_cons, dig_ofNat h]; rfl
    · rw [dec_big h, List.all_append, ih (u / 10) (by omega), List.all_cons, dig_ofNat (Nat.mod_lt _ (by omega))]; rfl
theorem dec_val (u : Nat) : val 0 (Lib.decDigits u) = u := by
  induction u using Nat.strongRecOn with
  | _ u ih =>
    by_cases h : u < 10
    · rw [dec_small h, val_cons, val_nil, toNat_dig h]; omega
    · rw [dec_big h, val_append, ih (u / 10) (by omega), val_cons, val_nil, toNat_dig (Nat.mod_lt _ (by omega))]; omega
theorem dec_head (u : Nat) (h0 : 0 < u) : ∃ c r, Lib.decDigits u = c :: r ∧ c.toNat ≠ 48 := by
  induction u using Nat.strongRecOn with
  | _ u ih =>
    by_cases h : u < 10
    · exact ⟨_, [], dec_small h, by rw [toNat_dig h]; omega⟩
    · obtain ⟨c, r, e, hc⟩ := ih (u / 10) (by omega) (by omega)
      exact ⟨c, r ++ [UInt8.ofNat (48 + u % 10)], by rw [dec_big h, e]; rfl, hc⟩
theorem dec_mag (u : Nat) (h0 : 0 < u) : magTxt (Lib.decDigits u) = true := by
  obtain ⟨c, r, e, hc⟩ := dec_head u h0
  have ha := dec_all u
  rw [e] at ha ⊢
  show (!(c.toNat == 48) && (c :: r).all digB) = true
  rw [ha, beq_false_of_ne hc]; rfl
theorem val_pos {c : UInt8} {r : List UInt8} (hd : digB c = true) (hc : c.toNat ≠ 48) : 0 < val 0 (c :: r) := by
  have h : 48 ≤ c.toNat ∧ c.toNat ≤ 57 := of_decide_eq_true hd
  rw [val_cons]
  exact Nat.lt_of_lt_of_le (by omega) (val_mono r _)
theorem ofNat_dig {c : UInt8} (hd : digB c = true) : UInt8.ofNat (48 + (c.toNat - 48)) = c := by
  have h : 48 ≤ c.toNat ∧ c.toNat ≤ 57 := of_decide_eq_true hd
  apply toNat_inj
  rw [toNat_dig (by omega)]; omega
theorem last_cases (l : List UInt8) : l = [] ∨ ∃ s c, l = s ++ [c] := by
  rcases List.eq_nil_or_concat l with h | ⟨s, c, h⟩
  · exact Or.inl h
  · exact Or.inr ⟨s, c, by rw [h, List.concat_eq_append]⟩
theorem val_dec (n : Nat) : ∀ l : List UInt8, l.length = n → magTxt l = true → Lib.decDigits (val 0 l) = l := by
  induction n with
  | zero => intro l hl hm; rw [List.length_eq_zero_iff.1 hl] at hm; cases hm
  | succ n ih =>
    intro l hl hm
    rcases last_cases l with h | ⟨s, c, h⟩
    · rw [h] at hm; cases hm
    · obtain ⟨hne, hd, c0, r0, h0, hc0⟩ := mag_digits hm
      rw [h, List.all_append, Bool.and_eq_true, List.all_cons, Bool.and_eq_true] at hd
      obtain ⟨hds, hdc, _⟩ := hd
      have hcd : 48 ≤ c.toNat ∧ c.toNat ≤ 57 := of_decide_eq_true hdc
      have hv : val 0 l = val 0 s * 10 + (c.toNat - 48) := by rw [h, val_append, val_cons, val_nil]
      cases s with
      | nil =>
        have e : val 0 l = c.toNat - 48 := by rw [hv, val_nil]; omega
        rw [e, dec_small (by omega), ofNat_dig hdc, h]; rfl
      | cons c1 s1 =>
        have hc1 : c1 = c0 := by rw [h] at h0; injection h0
        have hd1 : digB c1 = true := by rw [List.all_cons, Bool.and_eq_true] at hds; exact hds.1
        have hp : 0 < val 0 (c1 :: s1) := val_pos hd1 (by rw [hc1]; exact hc0)
        have hms : magTxt (c1 :: s1) = true := by
          show (!(c1.toNat == 48) && (c1 :: s1).all digB) = true
          rw [hds, beq_false_of_ne (by rw [hc1]; exact hc0)]; rfl
        have hlen : (c1 :: s1).length = n := by rw [h, List.length_append] at hl; simpa using hl
        have hi := ih _ hlen hms
        have e1 : val 0 l / 10 = val 0 (c1 :: s1) := by rw [hv]; omega
        have e2 : val 0 l % 10 = c.toNat - 48 := by rw [hv]; omega
        rw [dec_big (by omega), e1, e2, hi, ofNat_dig hdc, h]
theorem itoa_neg {n : Int} (h : n < 0) : Lib.itoa n = 45 :: Lib.decDigits n.natAbs := by unfold Lib.itoa; rw [if_pos h]
theorem itoa_pos {n : Int} (h : ¬ n < 0) : Lib.itoa n = Lib.decDigits n.toNat := by unfold Lib.itoa; rw [if_neg h]
theorem neg_cons (r : List UInt8) : neg (45 :: r) = true := rfl
theorem neg_dec (u : Nat) : neg (Lib.decDigits u) = false := by
  have ha := dec_all u
  cases hl : Lib.decDigits u with
  | nil => rfl
  | cons c r =>
    rw [hl, List.all_cons, Bool.and_eq_true] at ha
    have h : 48 ≤ c.toNat ∧ c.toNat ≤ 57 := of_decide_eq_true ha.1
    exact beq_false_of_ne (by omega)
theorem trim_cons (r : List UInt8) : Lib.trimPrefix (45 :: r) [45] = r := by
  obtain ⟨r', h1, h2⟩ := trim_neg (neg_cons r)
  injection h1 with _ h1; rw [h2, h1]
theorem itoa_int (n : Int) : intTxt (Lib.itoa n) = true := by
  unfold intTxt
  by_cases h : n < 0
  · rw [itoa_neg h, trim_cons, dec_mag _ (by omega), Bool.or_true]
  · rw [itoa_pos h, trim_pos (neg_dec _)]
    by_cases h0 : n = 0
    · subst h0
      have : Lib.decDigits (0 : Int).toNat = [48] := by show Lib.decDigits 0 = _; rw [dec_small (by omega)]; rfl
      rw [this]; rfl
    · rw [dec_mag _ (by omega), Bool.or_true]
theorem itoa_uval (n : Int) : uval (Lib.itoa n) = n.natAbs := by
  unfold uval
  by_cases h : n < 0
  · rw [itoa_neg h, trim_cons, dec_val]
  · rw [itoa_pos h, trim_pos (neg_dec _), dec_val]; omega
theorem itoa_sval (n : Int) : sval (Lib.itoa n) = n := by
  unfold sval
  rw [itoa_uval]
  by_cases h : n < 0
  · rw [itoa_neg h, neg_cons, if_pos rfl]; omega
  · rw [itoa_pos h, neg_dec]
    show ((n.natAbs : Nat) : Int) = n
    omega
theorem sval_itoa {l : List UInt8} (h : intTxt l = true) : Lib.itoa (sval l) = l := by
  unfold intTxt at h
  rw [Bool.or_eq_true] at h
  rcases h with h | h
  · have : l = [48] := by simpa using h
    subst this
    have e : sval [48] = 0 := by decide
    rw [e, itoa_pos (by omega)]
    show Lib.decDigits 0 = _
    rw [dec_small (by omega)]; rfl
  · obtain ⟨_, hd, c, r, hl, hc⟩ := mag_digits h
    have hdc : digB c = true := by rw [hl, List.all_cons, Bool.and_eq_true] at hd; exact hd.1
    have hp : 0 < uval l := by unfold uval; rw [hl]; exact val_pos hdc hc
    have hv := val_dec _ _ rfl h
    cases hn : neg l
    · have hs : sval l = (uval l : Int) := by unfold sval; rw [hn]; rfl
      rw [hs, itoa_pos (by omega), Int.toNat_natCast]
      unfold uval
      rw [hv, trim_pos hn]
    · obtain ⟨r', h1, h2⟩ := trim_neg hn
      have hs : sval l = -(uval l : Int) := by unfold sval; rw [hn]; rfl
      rw [hs, itoa_neg (by omega), Int.natAbs_neg, Int.natAbs_natCast]
      unfold uval
      rw [hv, h2, h1]
/- of two lists of digits of one length the lesser one is that of the lesser number -/
theorem val_less : ∀ (l r : List UInt8) (a b : Nat), a < b → l.length = r.length → l.all digB = true → val a l < val b r
  | [], [], a, b, h, _, _ => h
  | c :: l, d :: r, a, b, h, hl, hd => by
    rw [List.all_cons, Bool.and_eq_true] at hd
    have hc : 48 ≤ c.toNat ∧ c.toNat ≤ 57 := of_decide_eq_true hd.1
    rw [val_cons, val_cons]
    exact val_less l r _ _ (by omega) (by simpa using hl) hd.2
  | [], _ :: _, _, _, _, hl, _ => by simp at hl
  | _ :: _, [], _, _, _, hl, _ => by simp at hl
theorem less_val : ∀ (l r : List UInt8) (a : Nat), l.length = r.length → l.all digB = true → r.all digB = true → Op.bytesLess l r = decide (val a l < val a r)
  | [], [], a, _, _, _ => by rw [decide_eq_false (Nat.lt_irrefl _)]; rfl
  | c :: l, d :: r, a, hl, hc, hd => by
    have hl' : l.length = r.length := by simpa using hl
    rw [List.all_cons, Bool.and_eq_true] at hc hd
    have hcd : 48 ≤ c.toNat ∧ c.toNat ≤ 57 := of_decide_eq_true hc.1
    have hdd : 48 ≤ d.toNat ∧ d.toNat ≤ 57 := of_decide_eq_true hd.1
    rw [val_cons, val_cons]
    show (decide (c < d) || (c == d && Op.bytesLess l r)) = _
    by_cases h : c.toNat < d.toNat
    · have h1 : c < d := UInt8.lt_iff_toNat_lt.2 h
      rw [decide_eq_true h1, Bool.true_or, decide_eq_true (val_less l r _ _ (by omega) hl' hc.2)]
    · have h1 : ¬ c < d := fun h1 => h (UInt8.lt_iff_toNat_lt.1 h1)
      rw [decide_eq_false h1, Bool.false_or]
      by_cases e : c = d
      · subst e
        rw [beq_self_eq_true, Bool.true_and]
        exact less_val l r _ hl' hc.2 hd.2
      · have hne : c.toNat ≠ d.toNat := fun h => e (toNat_inj h)
        have := val_less r l (a * 10 + (d.toNat - 48)) (a * 10 + (c.toNat - 48)) (by omega) hl'.symm hd.2
        rw [beq_false_of_ne e, Bool.false_and, decide_eq_false (by omega)]
  | [], _ :: _, _, hl, _, _ => by simp at hl
  | _ :: _, [], _, hl, _, _ => by simp at hl
theorem itoa_less (n m : Int) (hn : 0 < n) (hm : 0 < m) (hl : (Lib.itoa n).length = (Lib.itoa m).length) : Op.bytesLess (Lib.itoa n) (Lib.itoa m) = decide (n < m) := by
  rw [itoa_pos (by omega), itoa_pos (by omega)] at *
  rw [less_val _ _ 0 hl (dec_all _) (dec_all _), dec_val, dec_val]
  exact decide_eq_decide.2 (by omega)
/- no plus sign in a text -/
theorem itoa_bytes (n : Int) : ∀ c ∈ Lib.itoa n, c.toNat = 45 ∨ (48 ≤ c.toNat ∧ c.toNat ≤ 57) := by
  intro c hc
  have hd : ∀ u, c ∈ Lib.decDigits u → 48 ≤ c.toNat ∧ c.toNat ≤ 57 := fun u h => of_decide_eq_true (List.all_eq_true.1 (dec_all u) c h)
  by_cases h : n < 0
  · rw [itoa_neg h] at hc
    rcases List.mem_cons.1 hc with rfl | hc
    · exact Or.inl rfl
    · exact Or.inr (hd _ hc)
  · rw [itoa_pos h] at hc
    exact Or.inr (hd _ hc)
/- how long a text is -/
theorem dec_len (n : Nat) : ∀ u, u < 10 ^ (n + 1) → (Lib.decDigits u).length ≤ n + 1 := by
  induction n with
  | zero => intro u h; rw [dec_small (by simpa using h)]; exact Nat.le_refl _
  | succ n ih =>
    intro u h
    by_cases h0 : u < 10
    · rw [dec_small h0]; simp
    · rw [dec_big h0, List.length_append]
      have := ih (u / 10) (by rw [Nat.pow_succ] at h; omega)
      simp; omega
theorem itoa_len (n : Int) (h0 : -1125899906842624 ≤ n) (h1 : n ≤ 1125899906842624) : (Lib.itoa n).length ≤ 20 := by
  by_cases h : n < 0
  · rw [itoa_neg h]
    have := dec_len 17 n.natAbs (by omega)
    simp; omega
  · rw [itoa_pos h]
    have := dec_len 17 n.toNat (by omega)
    omega
end Go.Proofs.YtcgmbgamhlfpcaaDoor
