/- The reference's Parse, for every text of at most 200 bytes. -/
import Derived.Test.YtcgmbgamhlfpcaaDoorTextWalk
import Derived.Deep.Cut
namespace Go.Proofs.YtcgmbgamhlfpcaaDoor
open Go.RowKit
def RP1 (l : List UInt8) : Int := if intTxt l = true then (if uval l ≤ 1125899906842624 then sval l else 0) else 0
def RP2 (l : List UInt8) : Int := if intTxt l = true then (if uval l ≤ 1125899906842624 then 0 else 9) else 3
theorem RP_form {l : List UInt8} (h : intTxt l = false) : (0 : Int) = RP1 l ∧ (3 : Int) = RP2 l := by
  unfold RP1 RP2; rw [h]; exact ⟨rfl, rfl⟩
theorem RP_big {l : List UInt8} (h : intTxt l = true) (hu : 1125899906842624 < uval l) : (0 : Int) = RP1 l ∧ (9 : Int) = RP2 l := by
  unfold RP1 RP2; rw [if_pos h, if_pos h, if_neg (by omega), if_neg (by omega)]; exact ⟨rfl, rfl⟩
theorem RP_num {l : List UInt8} (h : intTxt l = true) (hu : uval l ≤ 1125899906842624) : sval l = RP1 l ∧ (0 : Int) = RP2 l := by
  unfold RP1 RP2; rw [if_pos h, if_pos h, if_pos hu, if_pos hu]; exact ⟨rfl, rfl⟩
/- what has been read of the digits so far: all are digits; the number is theirs, or too great as theirs is -/
def Sofar (d : ByteArray) (k y : Nat) : Prop := (∀ c ∈ d.data.toList.take k, digB c = true) ∧ (val 0 (d.data.toList.take k) ≤ 1125899906842624 → y = val 0 (d.data.toList.take k)) ∧ (1125899906842624 < val 0 (d.data.toList.take k) → 1125899906842624 < y)
theorem sofar_zero (d : ByteArray) : Hid (Sofar d 0 0) := ⟨fun c hc => by simp at hc, fun _ => rfl, fun h => absurd h (by show ¬ 1125899906842624 < 0; omega)⟩
theorem sofar_digits {d : ByteArray} {k y : Nat} (h : k < d.size) (hs : Sofar d k y) (hd : digB d[k] = true) : ∀ c ∈ d.data.toList.take (k + 1), digB c = true := by
  intro c hc
  rw [take_list d k h] at hc
  rcases List.mem_append.1 hc with hc | hc
  · exact hs.1 c hc
  · rw [List.mem_singleton.1 hc]; exact hd
theorem sofar_small {d : ByteArray} {k y : Nat} (hs : Sofar d k y) (hy : y ≤ 1125899906842624) : y = val 0 (d.data.toList.take k) := by
  by_cases h : val 0 (d.data.toList.take k) ≤ 1125899906842624
  · exact hs.2.1 h
  · have := hs.2.2 (by omega); omega
theorem sofar_step (d : ByteArray) (k y : Nat) (h : k < d.size) (hs : Sofar d k y) (hd : digB d[k] = true) (hy : y ≤ 1125899906842624) : Sofar d (k + 1) (10 * y + (d[k].toNat - 48)) := by
  have e : val 0 (d.data.toList.take (k + 1)) = 10 * y + (d[k].toNat - 48) := by
    rw [take_list d k h, val_append, val_cons, val_nil, ← sofar_small hs hy]; omega
  exact ⟨sofar_digits h hs hd, fun _ => e.symm, fun hb => by rw [e] at hb; exact hb⟩
theorem sofar_stay (d : ByteArray) (k y : Nat) (h : k < d.size) (hs : Sofar d k y) (hd : digB d[k] = true) (hy : ¬ y ≤ 1125899906842624) : Sofar d (k + 1) y := by
  have hv : 1125899906842624 < val 0 (d.data.toList.take k) := by
    by_cases hv : val 0 (d.data.toList.take k) ≤ 1125899906842624
    · have := hs.2.1 hv; omega
    · omega
  have e : val 0 (d.data.toList.take k) ≤ val 0 (d.data.toList.take (k + 1)) := by
    rw [take_list d k h, val_append]; exact val_mono _ _
  exact ⟨sofar_digits h hs hd, fun hb => by omega, fun _ => by omega⟩
theorem take_all (d : ByteArray) : d.data.toList.take d.size = d.data.toList := List.take_of_length_le (by rw [Lib.size_eq]; exact Nat.le_refl _)
theorem sofar_val (d : ByteArray) (y : Nat) (hs : Sofar d d.size y) (hy : y ≤ 1125899906842624) : val 0 d.data.toList = y := by
  have := sofar_small hs hy; rw [take_all] at this; exact this.symm
theorem sofar_end (d : ByteArray) (y : Nat) (hs : Sofar d d.size y) (hy : y ≤ 1125899906842624) : val 0 d.data.toList ≤ 1125899906842624 := by
  rw [sofar_val d y hs hy]; exact hy
theorem sofar_over (d : ByteArray) (y : Nat) (hs : Sofar d d.size y) (hy : ¬ y ≤ 1125899906842624) : 1125899906842624 < val 0 d.data.toList := by
  by_cases h : val 0 d.data.toList ≤ 1125899906842624
  · have := hs.2.1 (by rw [take_all]; exact h); rw [take_all] at this; omega
  · omega
/- what the digits d of the text s say of s, with the sign that it has -/
def DigitsOf (s d : ByteArray) (neg : Bool) : Prop :=
  (∀ k (h : k < d.size), digB d[k] = false → intTxt s.data.toList = false) ∧
  ((∀ c ∈ d.data.toList.take d.size, digB c = true) → intTxt s.data.toList = true ∧ uval s.data.toList = val 0 d.data.toList ∧ sval s.data.toList = if neg then -(val 0 d.data.toList : Int) else val 0 d.data.toList)
theorem first_neg {s : ByteArray} (h1 : 0 < s.size) (hm : ((s[0].toNat : Int) == 45) = true) : neg s.data.toList = true := by
  obtain ⟨r, hr⟩ := head_list s h1
  rw [hr]
  have : s[0].toNat = 45 := by have := eq_of_beq hm; omega
  show (s[0].toNat == 45) = true
  rw [this]; rfl
theorem first_pos {s : ByteArray} (h1 : 0 < s.size) (hm : ((s[0].toNat : Int) == 45) = false) : neg s.data.toList = false := by
  obtain ⟨r, hr⟩ := head_list s h1
  rw [hr]
  have := ne_of_beq_false hm
  show (s[0].toNat == 45) = false
  exact beq_false_of_ne (by omega)
theorem not_zero {s : ByteArray} (h1 : 1 < s.size) : (s.toList == [48]) = false := by
  rw [Lib.toList_data]
  apply beq_false_of_ne
  intro h
  have := Lib.size_eq s
  rw [h] at this
  simp at this; omega
theorem not_empty {d : ByteArray} (h : 0 < d.size) : ¬ d = ByteArray.empty := by
  intro e; subst e; exact absurd h (by decide)
theorem extract_list {s d : ByteArray} (hd : s.extract 1 s.size = d) : d.data.toList = s.data.toList.drop 1 := by
  rw [← hd, Lib.extract_data, List.take_of_length_le (by rw [List.length_drop, ← Lib.size_eq]; exact Nat.le_refl _)]
theorem extract_size {s d : ByteArray} (hd : s.extract 1 s.size = d) : d.size = s.size - 1 := by
  rw [Lib.size_eq d, extract_list hd, List.length_drop, ← Lib.size_eq]
theorem neg_parts {s d : ByteArray} (h1 : 1 < s.size) (hm : ((s[0].toNat : Int) == 45) = true) (hd : s.extract 1 s.size = d) :
    intTxt s.data.toList = magTxt d.data.toList ∧ uval s.data.toList = val 0 d.data.toList ∧ neg s.data.toList = true := by
  have hn := first_neg (by omega) hm
  obtain ⟨r, hr, ht⟩ := trim_neg hn
  have hdl : d.data.toList = r := by rw [extract_list hd, hr]; rfl
  have hz := not_zero h1
  rw [Lib.toList_data] at hz
  refine ⟨?_, ?_, hn⟩
  · unfold intTxt; rw [hz, Bool.false_or, ht, hdl]
  · unfold uval; rw [ht, hdl]
theorem digits_neg {s d : ByteArray} (h1 : 1 < s.size) (hm : ((s[0].toNat : Int) == 45) = true) (hd : s.extract 1 s.size = d) (h0 : 0 < d.size) (hl : ((d[0].toNat : Int) == 48) = false) : DigitsOf s d true := by
  obtain ⟨e1, e2, e3⟩ := neg_parts h1 hm hd
  refine ⟨fun k h hb => by rw [e1]; exact magTxt_bad h hb, fun ha => ?_⟩
  refine ⟨by rw [e1]; exact magTxt_good h0 hl ha, e2, ?_⟩
  unfold sval; rw [e3, e2]
set_option maxHeartbeats 1000000 in
theorem refParse_neg (s : ByteArray) (w : World) (hs : s.size ≤ 200) (h1 : 1 < s.size) (hm : ((s[0].toNat : Int) == 45) = true) :
    Calls Tryd.prog 26 #[.string s] w fun e w' => e = .returned (.tuple #[.int .i64 (RP1 s.data.toList), .int .i64 (RP2 s.data.toList)]) ∧ w = w' := by
  have hz : (s.toList == [48]) = false := not_zero h1
  obtain ⟨d, hd⟩ : ∃ d : ByteArray, s.extract 1 s.size = d := ⟨_, rfl⟩
  have hds : d.size = s.size - 1 := extract_size hd
  have hlt1 : d.size < s.size := by omega
  have hd0 : 0 < d.size := by omega
  have hde : ¬ d = ByteArray.empty := not_empty hd0
  have hdz : ((d.size : Int) == 0) = false := beq_false_of_ne (by omega)
  have HD := Lib.hid hd
  have HE := Lib.hid hds
  clear hds hd
  cases hl : ((d[0].toNat : Int) == 48)
  · have HF := Lib.hid (digits_neg h1 hm HD.out hd0 hl)
    go_enter Tryd.func26, Tryd.ntmps26
    go_upto_region 4 with fail
    rw [HD.out]
    go_wp2_with fail
    go_loop [5, 6] (fun x i => ∃ k y : Nat, k ≤ d.size ∧ x = .int .i64 y ∧ i = .int .i64 k ∧ y ≤ 11258999068426249 ∧ Hid (Sofar d k y)) (fun _ i => d.size - (intOf i).toNat)
    case atStart => exact ⟨0, 0, by omega, rfl, rfl, by omega, sofar_zero d⟩
    case round =>
      obtain ⟨k, y, hk, rfl, rfl, hy, hS⟩ := hrel
      by_cases hlt : k < d.size
      · cases hd1 : decide ((d[k].toNat : Int) < 48)
        · cases hd2 : decide (57 < (d[k].toNat : Int))
          · have hc1 : 48 ≤ (d[k].toNat : Int) := by have := of_decide_eq_false hd1; omega
            have hc2 : (d[k].toNat : Int) ≤ 57 := by have := of_decide_eq_false hd2; omega
            by_cases hyM : y ≤ 1125899906842624
            · have hN := Lib.hid (sofar_step d k y hlt hS.out (dig_in hd1 hd2) hyM)
              go_wp2_with fail
              go_round
              case rel => exact ⟨k + 1, 10 * y + (d[k].toNat - 48), by omega, by go_num, by go_num, by omega, hN⟩
              case measure => simp [intOf]; omega
            · have hN := Lib.hid (sofar_stay d k y hlt hS.out (dig_in hd1 hd2) hyM)
              go_wp2_with fail
              go_round
              case rel => exact ⟨k + 1, y, by omega, rfl, by go_num, by omega, hN⟩
              case measure => simp [intOf]; omega
          · have HB := Lib.hid (RP_form (HF.out.1 k hlt (dig_high hd2)))
            go_wp2_with fail
            go_ret2
            exact ⟨ret2_int HB.out.1 HB.out.2, rfl⟩
        · have HB := Lib.hid (RP_form (HF.out.1 k hlt (dig_low hd1)))
          go_wp2_with fail
          go_ret2
          exact ⟨ret2_int HB.out.1 HB.out.2, rfl⟩
      · obtain rfl : k = d.size := by omega
        obtain ⟨g1, g2, g3⟩ := HF.out.2 hS.out.1
        by_cases hyM : y ≤ 1125899906842624
        · have HB := Lib.hid (RP_num g1 (by rw [g2]; exact sofar_end d y hS.out hyM))
          have HY : Hid (-(y : Int) = sval s.data.toList) := by
            rw [g3, sofar_val d y hS.out hyM]; rfl
          clear g1 g2 g3
          go_wp2_with fail
          go_ret2
          exact ⟨ret2_int (HY.out.trans HB.out.1) HB.out.2, rfl⟩
        · have HB := Lib.hid (RP_big g1 (by rw [g2]; exact sofar_over d y hS.out hyM))
          clear g1 g2 g3
          go_wp2_with fail
          go_ret2
          exact ⟨ret2_int HB.out.1 HB.out.2, rfl⟩
  · have HB := Lib.hid (RP_form (l := s.data.toList) (by rw [(neg_parts h1 hm HD.out).1]; exact magTxt_lead hd0 hl))
    go_enter Tryd.func26, Tryd.ntmps26
    go_upto_region 4 with fail
    rw [HD.out]
    go_wp2_with fail
    go_ret2
    exact ⟨ret2_int HB.out.1 HB.out.2, rfl⟩
theorem pos_parts {s : ByteArray} (hn : neg s.data.toList = false) : intTxt s.data.toList = ((s.data.toList == [48]) || magTxt s.data.toList) ∧ uval s.data.toList = val 0 s.data.toList := by
  have ht := trim_pos hn
  exact ⟨by unfold intTxt; rw [ht], by unfold uval; rw [ht]⟩
theorem first_digit {s : ByteArray} (h0 : 0 < s.size) (ha : ∀ c ∈ s.data.toList.take s.size, digB c = true) : neg s.data.toList = false := by
  rw [take_all] at ha
  obtain ⟨r, hr⟩ := head_list s h0
  rw [hr] at ha ⊢
  have : 48 ≤ s[0].toNat ∧ s[0].toNat ≤ 57 := of_decide_eq_true (ha _ (List.mem_cons_self))
  show (s[0].toNat == 45) = false
  exact beq_false_of_ne (by omega)
theorem bad_pos {s : ByteArray} (hn : neg s.data.toList = false ∨ s.size = 1) (k : Nat) (h : k < s.size) (hb : digB s[k] = false) : intTxt s.data.toList = false := by
  have hm := mem_list s k h
  cases hn' : neg s.data.toList
  · rw [(pos_parts hn').1, magTxt_bad h hb, Bool.or_false]
    apply beq_false_of_ne
    intro e
    rw [e] at hm
    have hk : s[k] = 48 := by simpa using hm
    rw [hk] at hb
    exact absurd hb (by decide)
  · obtain ⟨r, hr, ht⟩ := trim_neg hn'
    have hs1 : s.size = 1 := hn.resolve_left (by rw [hn']; decide)
    have hlen := Lib.size_eq s
    rw [hr, hs1, List.length_cons] at hlen
    have hr0 : r = [] := List.length_eq_zero_iff.1 (by omega)
    rw [hr, hr0]; decide
theorem digits_pos {s : ByteArray} (h0 : 0 < s.size) (hn : neg s.data.toList = false ∨ s.size = 1) (hl : ((s[0].toNat : Int) == 48) = false ∨ (s.toList == [48]) = true) : DigitsOf s s false := by
  refine ⟨fun k h hb => bad_pos hn k h hb, fun ha => ?_⟩
  have hn' := first_digit h0 ha
  obtain ⟨e1, e2⟩ := pos_parts hn'
  refine ⟨?_, e2, ?_⟩
  · rw [e1]
    rcases hl with hl | hl
    · rw [magTxt_good h0 hl ha, Bool.or_true]
    · rw [Lib.toList_data] at hl; rw [hl, Bool.true_or]
  · unfold sval; rw [hn', e2]
theorem lead_pos {s : ByteArray} (h0 : 0 < s.size) (hn : neg s.data.toList = false) (hl : ((s[0].toNat : Int) == 48) = true) (hz : (s.toList == [48]) = false) : intTxt s.data.toList = false := by
  rw [Lib.toList_data] at hz
  rw [(pos_parts hn).1, hz, magTxt_lead h0 hl]; rfl
theorem refParse_empty (s : ByteArray) (w : World) (h0 : s.size = 0) :
    Calls Tryd.prog 26 #[.string s] w fun e w' => e = .returned (.tuple #[.int .i64 (RP1 s.data.toList), .int .i64 (RP2 s.data.toList)]) ∧ w = w' := by
  have hn : s.data.toList = [] := List.length_eq_zero_iff.1 (by rw [← Lib.size_eq]; exact h0)
  have HB := Lib.hid (RP_form (l := s.data.toList) (by rw [hn]; decide))
  clear hn
  go_enter Tryd.func26, Tryd.ntmps26
  go_wp2_with fail
  go_ret2
  exact ⟨ret2_int HB.out.1 HB.out.2, rfl⟩
set_option maxHeartbeats 1000000 in
theorem refParse_one (s : ByteArray) (w : World) (hs : s.size ≤ 1) (hd0 : 0 < s.size) (hl : ((s[0].toNat : Int) == 48) = false) :
    Calls Tryd.prog 26 #[.string s] w fun e w' => e = .returned (.tuple #[.int .i64 (RP1 s.data.toList), .int .i64 (RP2 s.data.toList)]) ∧ w = w' := by
  have hde : ¬ s = ByteArray.empty := not_empty hd0
  have hdz : ((s.size : Int) == 0) = false := beq_false_of_ne (by omega)
  have HF := Lib.hid (digits_pos hd0 (Or.inr (by omega)) (Or.inl hl))
  · go_enter Tryd.func26, Tryd.ntmps26
    go_wp2_with fail
    go_loop [5, 6] (fun x i => ∃ k y : Nat, k ≤ s.size ∧ x = .int .i64 y ∧ i = .int .i64 k ∧ y ≤ 11258999068426249 ∧ Hid (Sofar s k y)) (fun _ i => s.size - (intOf i).toNat)
    case atStart => exact ⟨0, 0, by omega, rfl, rfl, by omega, sofar_zero s⟩
    case round =>
      obtain ⟨k, y, hk, rfl, rfl, hy, hS⟩ := hrel
      by_cases hlt : k < s.size
      · cases hd1 : decide ((s[k].toNat : Int) < 48)
        · cases hd2 : decide (57 < (s[k].toNat : Int))
          · have hc1 : 48 ≤ (s[k].toNat : Int) := by have := of_decide_eq_false hd1; omega
            have hc2 : (s[k].toNat : Int) ≤ 57 := by have := of_decide_eq_false hd2; omega
            by_cases hyM : y ≤ 1125899906842624
            · have hN := Lib.hid (sofar_step s k y hlt hS.out (dig_in hd1 hd2) hyM)
              go_wp2_with fail
              go_round
              case rel => exact ⟨k + 1, 10 * y + (s[k].toNat - 48), by omega, by go_num, by go_num, by omega, hN⟩
              case measure => simp [intOf]; omega
            · have hN := Lib.hid (sofar_stay s k y hlt hS.out (dig_in hd1 hd2) hyM)
              go_wp2_with fail
              go_round
              case rel => exact ⟨k + 1, y, by omega, rfl, by go_num, by omega, hN⟩
              case measure => simp [intOf]; omega
          · have HB := Lib.hid (RP_form (HF.out.1 k hlt (dig_high hd2)))
            go_wp2_with fail
            go_ret2
            exact ⟨ret2_int HB.out.1 HB.out.2, rfl⟩
        · have HB := Lib.hid (RP_form (HF.out.1 k hlt (dig_low hd1)))
          go_wp2_with fail
          go_ret2
          exact ⟨ret2_int HB.out.1 HB.out.2, rfl⟩
      · obtain rfl : k = s.size := by omega
        obtain ⟨g1, g2, g3⟩ := HF.out.2 hS.out.1
        by_cases hyM : y ≤ 1125899906842624
        · have HB := Lib.hid (RP_num g1 (by rw [g2]; exact sofar_end s y hS.out hyM))
          have HY : Hid ((y : Int) = sval s.data.toList) := by
            rw [g3, sofar_val s y hS.out hyM]; rfl
          clear g1 g2 g3
          go_wp2_with fail
          go_ret2
          exact ⟨ret2_int (HY.out.trans HB.out.1) HB.out.2, rfl⟩
        · have HB := Lib.hid (RP_big g1 (by rw [g2]; exact sofar_over s y hS.out hyM))
          clear g1 g2 g3
          go_wp2_with fail
          go_ret2
          exact ⟨ret2_int HB.out.1 HB.out.2, rfl⟩
set_option maxHeartbeats 1000000 in
theorem refParse_zero (s : ByteArray) (w : World) (hs : s.size ≤ 1) (hd0 : 0 < s.size) (hl : ((s[0].toNat : Int) == 48) = true) (hz : (s.toList == [48]) = true) :
    Calls Tryd.prog 26 #[.string s] w fun e w' => e = .returned (.tuple #[.int .i64 (RP1 s.data.toList), .int .i64 (RP2 s.data.toList)]) ∧ w = w' := by
  have hde : ¬ s = ByteArray.empty := not_empty hd0
  have hdz : ((s.size : Int) == 0) = false := beq_false_of_ne (by omega)
  have HF := Lib.hid (digits_pos hd0 (Or.inr (by omega)) (Or.inr hz))
  · go_enter Tryd.func26, Tryd.ntmps26
    go_wp2_with fail
    go_loop [5, 6] (fun x i => ∃ k y : Nat, k ≤ s.size ∧ x = .int .i64 y ∧ i = .int .i64 k ∧ y ≤ 11258999068426249 ∧ Hid (Sofar s k y)) (fun _ i => s.size - (intOf i).toNat)
    case atStart => exact ⟨0, 0, by omega, rfl, rfl, by omega, sofar_zero s⟩
    case round =>
      obtain ⟨k, y, hk, rfl, rfl, hy, hS⟩ := hrel
      by_cases hlt : k < s.size
      · cases hd1 : decide ((s[k].toNat : Int) < 48)
        · cases hd2 : decide (57 < (s[k].toNat : Int))
          · have hc1 : 48 ≤ (s[k].toNat : Int) := by have := of_decide_eq_false hd1; omega
            have hc2 : (s[k].toNat : Int) ≤ 57 := by have := of_decide_eq_false hd2; omega
            by_cases hyM : y ≤ 1125899906842624
            · have hN := Lib.hid (sofar_step s k y hlt hS.out (dig_in hd1 hd2) hyM)
              go_wp2_with fail
              go_round
              case rel => exact ⟨k + 1, 10 * y + (s[k].toNat - 48), by omega, by go_num, by go_num, by omega, hN⟩
              case measure => simp [intOf]; omega
            · have hN := Lib.hid (sofar_stay s k y hlt hS.out (dig_in hd1 hd2) hyM)
              go_wp2_with fail
              go_round
              case rel => exact ⟨k + 1, y, by omega, rfl, by go_num, by omega, hN⟩
              case measure => simp [intOf]; omega
          · have HB := Lib.hid (RP_form (HF.out.1 k hlt (dig_high hd2)))
            go_wp2_with fail
            go_ret2
            exact ⟨ret2_int HB.out.1 HB.out.2, rfl⟩
        · have HB := Lib.hid (RP_form (HF.out.1 k hlt (dig_low hd1)))
          go_wp2_with fail
          go_ret2
          exact ⟨ret2_int HB.out.1 HB.out.2, rfl⟩
      · obtain rfl : k = s.size := by omega
        obtain ⟨g1, g2, g3⟩ := HF.out.2 hS.out.1
        by_cases hyM : y ≤ 1125899906842624
        · have HB := Lib.hid (RP_num g1 (by rw [g2]; exact sofar_end s y hS.out hyM))
          have HY : Hid ((y : Int) = sval s.data.toList) := by
            rw [g3, sofar_val s y hS.out hyM]; rfl
          clear g1 g2 g3
          go_wp2_with fail
          go_ret2
          exact ⟨ret2_int (HY.out.trans HB.out.1) HB.out.2, rfl⟩
        · have HB := Lib.hid (RP_big g1 (by rw [g2]; exact sofar_over s y hS.out hyM))
          clear g1 g2 g3
          go_wp2_with fail
          go_ret2
          exact ⟨ret2_int HB.out.1 HB.out.2, rfl⟩
set_option maxHeartbeats 1000000 in
theorem refParse_pos (s : ByteArray) (w : World) (hs : s.size ≤ 200) (h1 : 1 < s.size) (hm : ((s[0].toNat : Int) == 45) = false) (hl : ((s[0].toNat : Int) == 48) = false) :
    Calls Tryd.prog 26 #[.string s] w fun e w' => e = .returned (.tuple #[.int .i64 (RP1 s.data.toList), .int .i64 (RP2 s.data.toList)]) ∧ w = w' := by
  have hd0 : 0 < s.size := by omega
  have hde : ¬ s = ByteArray.empty := not_empty hd0
  have hdz : ((s.size : Int) == 0) = false := beq_false_of_ne (by omega)
  have HF := Lib.hid (digits_pos hd0 (Or.inl (first_pos hd0 hm)) (Or.inl hl))
  · go_enter Tryd.func26, Tryd.ntmps26
    go_wp2_with fail
    go_loop [5, 6] (fun x i => ∃ k y : Nat, k ≤ s.size ∧ x = .int .i64 y ∧ i = .int .i64 k ∧ y ≤ 11258999068426249 ∧ Hid (Sofar s k y)) (fun _ i => s.size - (intOf i).toNat)
    case atStart => exact ⟨0, 0, by omega, rfl, rfl, by omega, sofar_zero s⟩
    case round =>
      obtain ⟨k, y, hk, rfl, rfl, hy, hS⟩ := hrel
      by_cases hlt : k < s.size
      · cases hd1 : decide ((s[k].toNat : Int) < 48)
        · cases hd2 : decide (57 < (s[k].toNat : Int))
          · have hc1 : 48 ≤ (s[k].toNat : Int) := by have := of_decide_eq_false hd1; omega
            have hc2 : (s[k].toNat : Int) ≤ 57 := by have := of_decide_eq_false hd2; omega
            by_cases hyM : y ≤ 1125899906842624
            · have hN := Lib.hid (sofar_step s k y hlt hS.out (dig_in hd1 hd2) hyM)
              go_wp2_with fail
              go_round
              case rel => exact ⟨k + 1, 10 * y + (s[k].toNat - 48), by omega, by go_num, by go_num, by omega, hN⟩
              case measure => simp [intOf]; omega
            · have hN := Lib.hid (sofar_stay s k y hlt hS.out (dig_in hd1 hd2) hyM)
              go_wp2_with fail
              go_round
              case rel => exact ⟨k + 1, y, by omega, rfl, by go_num, by omega, hN⟩
              case measure => simp [intOf]; omega
          · have HB := Lib.hid (RP_form (HF.out.1 k hlt (dig_high hd2)))
            go_wp2_with fail
            go_ret2
            exact ⟨ret2_int HB.out.1 HB.out.2, rfl⟩
        · have HB := Lib.hid (RP_form (HF.out.1 k hlt (dig_low hd1)))
          go_wp2_with fail
          go_ret2
          exact ⟨ret2_int HB.out.1 HB.out.2, rfl⟩
      · obtain rfl : k = s.size := by omega
        obtain ⟨g1, g2, g3⟩ := HF.out.2 hS.out.1
        by_cases hyM : y ≤ 1125899906842624
        · have HB := Lib.hid (RP_num g1 (by rw [g2]; exact sofar_end s y hS.out hyM))
          have HY : Hid ((y : Int) = sval s.data.toList) := by
            rw [g3, sofar_val s y hS.out hyM]; rfl
          clear g1 g2 g3
          go_wp2_with fail
          go_ret2
          exact ⟨ret2_int (HY.out.trans HB.out.1) HB.out.2, rfl⟩
        · have HB := Lib.hid (RP_big g1 (by rw [g2]; exact sofar_over s y hS.out hyM))
          clear g1 g2 g3
          go_wp2_with fail
          go_ret2
          exact ⟨ret2_int HB.out.1 HB.out.2, rfl⟩
set_option maxHeartbeats 1000000 in
theorem refParse_lead (s : ByteArray) (w : World) (hs : s.size ≤ 200) (h1 : 1 < s.size) (hm : ((s[0].toNat : Int) == 45) = false) (hl : ((s[0].toNat : Int) == 48) = true) :
    Calls Tryd.prog 26 #[.string s] w fun e w' => e = .returned (.tuple #[.int .i64 (RP1 s.data.toList), .int .i64 (RP2 s.data.toList)]) ∧ w = w' := by
  have hd0 : 0 < s.size := by omega
  have hde : ¬ s = ByteArray.empty := not_empty hd0
  have hdz : ((s.size : Int) == 0) = false := beq_false_of_ne (by omega)
  have hz := not_zero h1
  have HB := Lib.hid (RP_form (lead_pos hd0 (first_pos hd0 hm) hl hz))
  go_enter Tryd.func26, Tryd.ntmps26
  go_wp2_with fail
  go_ret2
  exact ⟨ret2_int HB.out.1 HB.out.2, rfl⟩
theorem one_zero {s : ByteArray} (h1 : s.size = 1) (hl : ((s[0].toNat : Int) == 48) = true) : (s.toList == [48]) = true := by
  obtain ⟨r, hr⟩ := head_list s (by omega)
  have hlen : (s[0] :: r).length = 1 := by rw [← hr, ← Lib.size_eq]; exact h1
  rw [List.length_cons] at hlen
  have hr0 : r = [] := List.length_eq_zero_iff.1 (by omega)
  have hc : s[0] = 48 := toNat_inj (by have := eq_of_beq hl; show s[0].toNat = 48; omega)
  rw [Lib.toList_data, hr, hr0, hc]; rfl
theorem refParse_any (s : ByteArray) (w : World) (hs : s.size ≤ 200) :
    Calls Tryd.prog 26 #[.string s] w fun e w' => e = .returned (.tuple #[.int .i64 (RP1 s.data.toList), .int .i64 (RP2 s.data.toList)]) ∧ w = w' := by
  by_cases h0 : s.size = 0
  · exact refParse_empty s w h0
  by_cases h1 : s.size = 1
  · cases hl : ((s[0].toNat : Int) == 48)
    · exact refParse_one s w (by omega) (by omega) hl
    · exact refParse_zero s w (by omega) (by omega) hl (one_zero h1 hl)
  · cases hm : ((s[0].toNat : Int) == 45)
    · cases hl : ((s[0].toNat : Int) == 48)
      · exact refParse_pos s w hs (by omega) hm hl
      · exact refParse_lead s w hs (by omega) hm hl
    · exact refParse_neg s w hs (by omega) hm
end Go.Proofs.YtcgmbgamhlfpcaaDoor
