/- NumberBack: slices.Contains where the byte is not there, and the law's own text, walked. -/
import Derived.Test.YtcgmbgamhlfpcaaDoorTextsLaw
import Derived.Lib.ConvBytes
namespace Go.Proofs.YtcgmbgamhlfpcaaDoor
open Go.RowKit
theorem index_none (b off len cap : Nat) (z : Nat → Int) (w : World) (hl : len ≤ 1000) (hc : ∀ i, i < len → w.cell? ⟨b, off + i, none⟩ = some (.int .u8 (z i))) (hz : ∀ i, i < len → z i ≠ 43) :
    Calls Tryd.prog 36 #[.slice (some ⟨b, off, none⟩) len cap, .int .u8 43] w fun e w' => e = .returned (.int .i64 (-1)) ∧ w = w' := by
  have HC := Lib.hid hc; clear hc
  have HZ := Lib.hid hz; clear hz
  go_enter Tryd.func36, Tryd.ntmps36
  go_wp2
  go_loop [8] (fun i => ∃ j : Nat, j ≤ len ∧ i = .int .i64 j) (fun i => len - (intOf i).toNat)
  case atStart => exact ⟨0, by omega, rfl⟩
  case round =>
    obtain ⟨j, hj, rfl⟩ := hrel
    by_cases hlt : j < len
    · have hcell := HC.out j hlt
      have hne := HZ.out j hlt
      have h43 : ((43 : Int) == z j) = false := beq_false_of_ne (fun h => hne h.symm)
      have HN := Lib.hid hne; clear hne
      go_wp2
      go_round
      case rel => exact ⟨j + 1, by omega, by go_num⟩
      case measure => simp [intOf]; omega
    · obtain rfl : j = len := by omega
      go_wp2
      go_ret
      exact ⟨rfl, rfl⟩
theorem contains_none (b off len cap : Nat) (z : Nat → Int) (w : World) (hl : len ≤ 1000) (hc : ∀ i, i < len → w.cell? ⟨b, off + i, none⟩ = some (.int .u8 (z i))) (hz : ∀ i, i < len → z i ≠ 43) :
    Calls Tryd.prog 29 #[.slice (some ⟨b, off, none⟩) len cap, .int .u8 43] w fun e w' => e = .returned (.bool false) ∧ w = w' := by
  have HC := Lib.hid hc; clear hc
  have HZ := Lib.hid hz; clear hz
  go_enter Tryd.func29, Tryd.ntmps29
  go_wp2_with fail
  refine (index_none _ _ _ _ z _ hl HC.out HZ.out).mono ?_; rintro e w' ⟨rfl, rfl⟩
  go_wp2
  go_ret
  exact ⟨rfl, rfl⟩
theorem back_skip (n m : Int) (s : ByteArray) (w : World) (h : 100 < s.size) (hs : s.size ≤ 9223372036854775807) :
    Calls Tryd.prog 9 #[.int .i64 n, .int .i64 m, .string s] w fun e w' => e = .returned (.bool true) ∧ Below w.heap.size w w' := by
  go_enter Tryd.func9, Tryd.ntmps9
  go_wp2_with fail
  refine (awake_any _).mono ?_; rintro e w0 ⟨rfl, b0⟩
  go_wp2_with fail
  go_ret
  exact ⟨rfl, b0⟩
theorem text_size (n : Int) (T : ByteArray) (h0 : -1125899906842624 ≤ n) (h1 : n ≤ 1125899906842624) (hT : (⟨(Lib.itoa n).toArray⟩ : ByteArray) = T) : T.size ≤ 20 := by
  rw [← hT, size_of_list]; exact itoa_len n h0 h1
/- the text of a number is parsed as the number -/
theorem parse_text (n : Int) (T : ByteArray) (w : World) (h0 : -1125899906842624 ≤ n) (h1 : n ≤ 1125899906842624) (hT : (⟨(Lib.itoa n).toArray⟩ : ByteArray) = T) :
    Calls Tryd.prog 25 #[.string T] w fun e w' => e = .returned (.tuple #[.int .i64 n, .int .i64 0]) ∧ Below w.heap.size w w' := by
  have hl : T.data.toList = Lib.itoa n := by rw [← hT]
  have hs := text_size n T h0 h1 hT
  have hi : intTxt T.data.toList = true := by rw [hl]; exact itoa_int n
  have hu : uval T.data.toList ≤ 1125899906842624 := by rw [hl, itoa_uval]; omega
  have hv : sval T.data.toList = n := by rw [hl]; exact itoa_sval n
  have := parse_num T w (by omega) hi hu
  rw [hv] at this
  exact this
theorem less_text (n m : Int) (A B : ByteArray) (hn : 0 < n) (hm : 0 < m) (hA : (⟨(Lib.itoa n).toArray⟩ : ByteArray) = A) (hB : (⟨(Lib.itoa m).toArray⟩ : ByteArray) = B) (hl : A.size = B.size) :
    Op.bytesLess A.toList B.toList = decide (n < m) := by
  rw [← hA, ← hB, size_of_list, size_of_list] at hl
  rw [Lib.toList_data, Lib.toList_data, ← hA, ← hB]
  exact itoa_less n m hn hm hl
theorem sval_bd {l : List UInt8} (hu : uval l ≤ 1125899906842624) : -1125899906842624 ≤ sval l ∧ sval l ≤ 1125899906842624 := by unfold sval; split <;> omega
theorem text_back (s : ByteArray) (hi : intTxt s.data.toList = true) : (⟨(Lib.itoa (sval s.data.toList)).toArray⟩ : ByteArray) = s := by
  apply Go.WideShapes.bytes_inj
  show (Lib.itoa (sval s.data.toList)).toArray.toList = _
  rw [sval_itoa hi]
theorem text_plus (s : ByteArray) (hi : intTxt s.data.toList = true) : ∀ j, j < s.size → ((s.data.toList.getD j 0).toNat : Int) ≠ 43 := by
  intro j hj
  have hl : j < s.data.toList.length := by rw [← Lib.size_eq]; exact hj
  have hm : s.data.toList.getD j 0 ∈ Lib.itoa (sval s.data.toList) := by
    have e : s.data.toList.getD j 0 = s.data.toList[j] := by rw [List.getD, List.getElem?_eq_getElem hl]; rfl
    rw [sval_itoa hi, e]; exact List.getElem_mem hl
  have := itoa_bytes _ _ hm
  omega
/- a text that is not parsed -/
theorem parse_fail (s : ByteArray) (w : World) (hs : s.size ≤ 100) (L : LaidFacts w) (h : ¬ (intTxt s.data.toList = true ∧ uval s.data.toList ≤ 1125899906842624)) :
    Calls Tryd.prog 25 #[.string s] w fun e w' => ∃ k : Int, (k == 0) = false ∧ e = .returned (.tuple #[.int .i64 0, .int .i64 k]) ∧ Below w.heap.size w w' := by
  cases hi : intTxt s.data.toList
  · exact (parse_form s w hs L hi).mono fun e w' ⟨he, hb⟩ => ⟨3, by decide, he, hb⟩
  · exact (parse_great s w hs L hi (by have : ¬ uval s.data.toList ≤ 1125899906842624 := fun hu => h ⟨hi, hu⟩; omega)).mono fun e w' ⟨he, hb⟩ => ⟨9, by decide, he, hb⟩
set_option maxRecDepth 100000 in
set_option maxHeartbeats 1000000 in
theorem back_oof (n m : Int) (s : ByteArray) (w : World) (L : LaidFacts w) (hs : s.size ≤ 100) (hn : n < -1125899906842624 ∨ 1125899906842624 < n) (hm : m < -1125899906842624 ∨ 1125899906842624 < m) (hi : ¬ (intTxt s.data.toList = true ∧ uval s.data.toList ≤ 1125899906842624)) :
    Calls Tryd.prog 9 #[.int .i64 n, .int .i64 m, .string s] w fun e w' => e = .returned (.bool true) ∧ Below w.heap.size w w' := by
  have Hn := Lib.hid hn; clear hn
  have Hm := Lib.hid hm; clear hm
  have HI := Lib.hid hi; clear hi
  go_enter Tryd.func9, Tryd.ntmps9
  go_wp2_with fail
  refine (awake_any _).mono ?_; rintro e w0 ⟨rfl, b0⟩
  go_wp2_with fail
  with_reducible refine (text_range _ _ Hn.out).mono ?_; rintro e w1 ⟨rfl, c1⟩
  have b1 := below_then b0 c1
  clear c1
  go_wp2_with fail
  with_reducible refine (text_range _ _ Hm.out).mono ?_; rintro e w2 ⟨rfl, c2⟩
  have b2 := below_then b1 c2
  clear c2
  go_wp2_with fail
  with_reducible refine (parse_fail _ _ hs (L.below b2) HI.out).mono ?_; rintro e w3 ⟨k, hk, rfl, c3⟩
  have b3 := below_then b2 c3
  clear c3
  go_wp2_with fail
  go_ret
  exact ⟨rfl, b3⟩
set_option maxRecDepth 100000 in
set_option maxHeartbeats 1000000 in
theorem back_oog (n m : Int) (s : ByteArray) (w : World) (L : LaidFacts w) (hs : s.size ≤ 100) (hn : n < -1125899906842624 ∨ 1125899906842624 < n) (hm : m < -1125899906842624 ∨ 1125899906842624 < m) (hi : intTxt s.data.toList = true) (hu : uval s.data.toList ≤ 1125899906842624) :
    Calls Tryd.prog 9 #[.int .i64 n, .int .i64 m, .string s] w fun e w' => e = .returned (.bool true) ∧ Below w.heap.size w w' := by
  have Hn := Lib.hid hn; clear hn
  have Hm := Lib.hid hm; clear hm
  obtain ⟨x0, x1⟩ := sval_bd hu
  have hpn := fun w => parse_num s w hs hi hu
  have hTx := text_back s hi
  have hpl := text_plus s hi
  obtain ⟨x, hx⟩ : ∃ x, sval s.data.toList = x := ⟨_, rfl⟩
  rw [hx] at x0 x1 hpn hTx
  clear hx hi hu
  have HP := Lib.hid hpn; clear hpn
  have HT := Lib.hid hTx; clear hTx
  have HL := Lib.hid hpl; clear hpl
  have hcv := fun w => Lib.run_convert_string_bytes (P := Tryd.prog) w 9 44 5 s Tryd.underlying9 Tryd.underlying44 Tryd.underlying5
  go_enter Tryd.func9, Tryd.ntmps9
  go_wp2_with fail
  refine (awake_any _).mono ?_; rintro e w0 ⟨rfl, b0⟩
  go_wp2_with fail
  with_reducible refine (text_range _ _ Hn.out).mono ?_; rintro e w1 ⟨rfl, c1⟩
  have b1 := below_then b0 c1
  clear c1
  go_wp2_with fail
  with_reducible refine (text_range _ _ Hm.out).mono ?_; rintro e w2 ⟨rfl, c2⟩
  have b2 := below_then b1 c2
  clear c2
  go_wp2_with fail
  with_reducible refine (HP.out _).mono ?_; rintro e w3 ⟨rfl, c3⟩
  have b3 := below_then b2 c3
  clear c3
  go_wp2_with fail
  with_reducible refine (text_at _ s _ x0 x1 (L.below b3) HT.out).mono ?_; rintro e w4 ⟨rfl, c4⟩
  have b4 := below_then b3 c4
  clear c4
  go_wp2_with fail
  refine (contains_none _ 0 _ _ (fun j => ((s.data.toList.getD j 0).toNat : Int)) _ (by omega) (fun i hi => by rw [Nat.zero_add]; exact Lib.bytesWorld_cell _ _ _ i hi) HL.out).mono ?_; rintro e w9 ⟨rfl, rfl⟩
  go_wp2_with fail
  go_ret
  exact ⟨rfl, below_then b4 (Lib.bytesWorld_below _ _ _)⟩
set_option maxRecDepth 100000 in
set_option maxHeartbeats 1000000 in
theorem back_oif (n m : Int) (s : ByteArray) (w : World) (L : LaidFacts w) (hs : s.size ≤ 100) (hn : n < -1125899906842624 ∨ 1125899906842624 < n) (hm0 : -1125899906842624 ≤ m) (hm1 : m ≤ 1125899906842624) (hi : ¬ (intTxt s.data.toList = true ∧ uval s.data.toList ≤ 1125899906842624)) :
    Calls Tryd.prog 9 #[.int .i64 n, .int .i64 m, .string s] w fun e w' => e = .returned (.bool true) ∧ Below w.heap.size w w' := by
  have Hn := Lib.hid hn; clear hn
  obtain ⟨B, hB⟩ : ∃ B : ByteArray, (⟨(Lib.itoa m).toArray⟩ : ByteArray) = B := ⟨_, rfl⟩
  have HB := Lib.hid hB
  have zB := text_size m B hm0 hm1 hB
  clear hB
  have HI := Lib.hid hi; clear hi
  go_enter Tryd.func9, Tryd.ntmps9
  go_wp2_with fail
  refine (awake_any _).mono ?_; rintro e w0 ⟨rfl, b0⟩
  go_wp2_with fail
  with_reducible refine (text_range _ _ Hn.out).mono ?_; rintro e w1 ⟨rfl, c1⟩
  have b1 := below_then b0 c1
  clear c1
  go_wp2_with fail
  with_reducible refine (text_at _ B _ hm0 hm1 (L.below b1) HB.out).mono ?_; rintro e w2 ⟨rfl, c2⟩
  have b2 := below_then b1 c2
  clear c2
  go_wp2_with fail
  with_reducible refine (parse_fail _ _ hs (L.below b2) HI.out).mono ?_; rintro e w3 ⟨k, hk, rfl, c3⟩
  have b3 := below_then b2 c3
  clear c3
  go_wp2_with fail
  go_ret
  exact ⟨rfl, b3⟩
set_option maxRecDepth 100000 in
set_option maxHeartbeats 1000000 in
theorem back_oig (n m : Int) (s : ByteArray) (w : World) (L : LaidFacts w) (hs : s.size ≤ 100) (hn : n < -1125899906842624 ∨ 1125899906842624 < n) (hm0 : -1125899906842624 ≤ m) (hm1 : m ≤ 1125899906842624) (hi : intTxt s.data.toList = true) (hu : uval s.data.toList ≤ 1125899906842624) :
    Calls Tryd.prog 9 #[.int .i64 n, .int .i64 m, .string s] w fun e w' => e = .returned (.bool true) ∧ Below w.heap.size w w' := by
  have Hn := Lib.hid hn; clear hn
  obtain ⟨B, hB⟩ : ∃ B : ByteArray, (⟨(Lib.itoa m).toArray⟩ : ByteArray) = B := ⟨_, rfl⟩
  have HB := Lib.hid hB
  have zB := text_size m B hm0 hm1 hB
  clear hB
  obtain ⟨x0, x1⟩ := sval_bd hu
  have hpn := fun w => parse_num s w hs hi hu
  have hTx := text_back s hi
  have hpl := text_plus s hi
  obtain ⟨x, hx⟩ : ∃ x, sval s.data.toList = x := ⟨_, rfl⟩
  rw [hx] at x0 x1 hpn hTx
  clear hx hi hu
  have HP := Lib.hid hpn; clear hpn
  have HT := Lib.hid hTx; clear hTx
  have HL := Lib.hid hpl; clear hpl
  have hcv := fun w => Lib.run_convert_string_bytes (P := Tryd.prog) w 9 44 5 s Tryd.underlying9 Tryd.underlying44 Tryd.underlying5
  go_enter Tryd.func9, Tryd.ntmps9
  go_wp2_with fail
  refine (awake_any _).mono ?_; rintro e w0 ⟨rfl, b0⟩
  go_wp2_with fail
  with_reducible refine (text_range _ _ Hn.out).mono ?_; rintro e w1 ⟨rfl, c1⟩
  have b1 := below_then b0 c1
  clear c1
  go_wp2_with fail
  with_reducible refine (text_at _ B _ hm0 hm1 (L.below b1) HB.out).mono ?_; rintro e w2 ⟨rfl, c2⟩
  have b2 := below_then b1 c2
  clear c2
  go_wp2_with fail
  with_reducible refine (HP.out _).mono ?_; rintro e w3 ⟨rfl, c3⟩
  have b3 := below_then b2 c3
  clear c3
  go_wp2_with fail
  with_reducible refine (text_at _ s _ x0 x1 (L.below b3) HT.out).mono ?_; rintro e w4 ⟨rfl, c4⟩
  have b4 := below_then b3 c4
  clear c4
  go_wp2_with fail
  refine (contains_none _ 0 _ _ (fun j => ((s.data.toList.getD j 0).toNat : Int)) _ (by omega) (fun i hi => by rw [Nat.zero_add]; exact Lib.bytesWorld_cell _ _ _ i hi) HL.out).mono ?_; rintro e w9 ⟨rfl, rfl⟩
  go_wp2_with fail
  go_ret
  exact ⟨rfl, below_then b4 (Lib.bytesWorld_below _ _ _)⟩
set_option maxRecDepth 100000 in
set_option maxHeartbeats 1000000 in
theorem back_iof (n m : Int) (s : ByteArray) (w : World) (L : LaidFacts w) (hs : s.size ≤ 100) (hn0 : -1125899906842624 ≤ n) (hn1 : n ≤ 1125899906842624) (hm : m < -1125899906842624 ∨ 1125899906842624 < m) (hi : ¬ (intTxt s.data.toList = true ∧ uval s.data.toList ≤ 1125899906842624)) :
    Calls Tryd.prog 9 #[.int .i64 n, .int .i64 m, .string s] w fun e w' => e = .returned (.bool true) ∧ Below w.heap.size w w' := by
  obtain ⟨A, hA⟩ : ∃ A : ByteArray, (⟨(Lib.itoa n).toArray⟩ : ByteArray) = A := ⟨_, rfl⟩
  have HA := Lib.hid hA
  have zA := text_size n A hn0 hn1 hA
  clear hA
  have Hm := Lib.hid hm; clear hm
  have HI := Lib.hid hi; clear hi
  go_enter Tryd.func9, Tryd.ntmps9
  go_wp2_with fail
  refine (awake_any _).mono ?_; rintro e w0 ⟨rfl, b0⟩
  go_wp2_with fail
  with_reducible refine (text_at _ A _ hn0 hn1 (L.below b0) HA.out).mono ?_; rintro e w1 ⟨rfl, c1⟩
  have b1 := below_then b0 c1
  clear c1
  go_wp2_with fail
  with_reducible refine (text_range _ _ Hm.out).mono ?_; rintro e w2 ⟨rfl, c2⟩
  have b2 := below_then b1 c2
  clear c2
  go_wp2_with fail
  with_reducible refine (parse_text n A _ hn0 hn1 HA.out).mono ?_; rintro e w3 ⟨rfl, c3⟩
  have b3 := below_then b2 c3
  clear c3
  go_wp2_with fail
  with_reducible refine (parse_fail _ _ hs (L.below b3) HI.out).mono ?_; rintro e w4 ⟨k, hk, rfl, c4⟩
  have b4 := below_then b3 c4
  clear c4
  go_wp2_with fail
  go_ret
  exact ⟨rfl, b4⟩
set_option maxRecDepth 100000 in
set_option maxHeartbeats 1000000 in
theorem back_iog (n m : Int) (s : ByteArray) (w : World) (L : LaidFacts w) (hs : s.size ≤ 100) (hn0 : -1125899906842624 ≤ n) (hn1 : n ≤ 1125899906842624) (hm : m < -1125899906842624 ∨ 1125899906842624 < m) (hi : intTxt s.data.toList = true) (hu : uval s.data.toList ≤ 1125899906842624) :
    Calls Tryd.prog 9 #[.int .i64 n, .int .i64 m, .string s] w fun e w' => e = .returned (.bool true) ∧ Below w.heap.size w w' := by
  obtain ⟨A, hA⟩ : ∃ A : ByteArray, (⟨(Lib.itoa n).toArray⟩ : ByteArray) = A := ⟨_, rfl⟩
  have HA := Lib.hid hA
  have zA := text_size n A hn0 hn1 hA
  clear hA
  have Hm := Lib.hid hm; clear hm
  obtain ⟨x0, x1⟩ := sval_bd hu
  have hpn := fun w => parse_num s w hs hi hu
  have hTx := text_back s hi
  have hpl := text_plus s hi
  obtain ⟨x, hx⟩ : ∃ x, sval s.data.toList = x := ⟨_, rfl⟩
  rw [hx] at x0 x1 hpn hTx
  clear hx hi hu
  have HP := Lib.hid hpn; clear hpn
  have HT := Lib.hid hTx; clear hTx
  have HL := Lib.hid hpl; clear hpl
  have hcv := fun w => Lib.run_convert_string_bytes (P := Tryd.prog) w 9 44 5 s Tryd.underlying9 Tryd.underlying44 Tryd.underlying5
  go_enter Tryd.func9, Tryd.ntmps9
  go_wp2_with fail
  refine (awake_any _).mono ?_; rintro e w0 ⟨rfl, b0⟩
  go_wp2_with fail
  with_reducible refine (text_at _ A _ hn0 hn1 (L.below b0) HA.out).mono ?_; rintro e w1 ⟨rfl, c1⟩
  have b1 := below_then b0 c1
  clear c1
  go_wp2_with fail
  with_reducible refine (text_range _ _ Hm.out).mono ?_; rintro e w2 ⟨rfl, c2⟩
  have b2 := below_then b1 c2
  clear c2
  go_wp2_with fail
  with_reducible refine (parse_text n A _ hn0 hn1 HA.out).mono ?_; rintro e w3 ⟨rfl, c3⟩
  have b3 := below_then b2 c3
  clear c3
  go_wp2_with fail
  with_reducible refine (HP.out _).mono ?_; rintro e w4 ⟨rfl, c4⟩
  have b4 := below_then b3 c4
  clear c4
  go_wp2_with fail
  with_reducible refine (text_at _ s _ x0 x1 (L.below b4) HT.out).mono ?_; rintro e w5 ⟨rfl, c5⟩
  have b5 := below_then b4 c5
  clear c5
  go_wp2_with fail
  refine (contains_none _ 0 _ _ (fun j => ((s.data.toList.getD j 0).toNat : Int)) _ (by omega) (fun i hi => by rw [Nat.zero_add]; exact Lib.bytesWorld_cell _ _ _ i hi) HL.out).mono ?_; rintro e w9 ⟨rfl, rfl⟩
  go_wp2_with fail
  go_ret
  exact ⟨rfl, below_then b5 (Lib.bytesWorld_below _ _ _)⟩
set_option maxRecDepth 100000 in
set_option maxHeartbeats 1000000 in
theorem back_i1f (n m : Int) (s : ByteArray) (w : World) (L : LaidFacts w) (hs : s.size ≤ 100) (hn0 : -1125899906842624 ≤ n) (hn1 : n ≤ 1125899906842624) (hm0 : -1125899906842624 ≤ m) (hm1 : m ≤ 1125899906842624) (hp : n ≤ 0) (hi : ¬ (intTxt s.data.toList = true ∧ uval s.data.toList ≤ 1125899906842624)) :
    Calls Tryd.prog 9 #[.int .i64 n, .int .i64 m, .string s] w fun e w' => e = .returned (.bool true) ∧ Below w.heap.size w w' := by
  obtain ⟨A, hA⟩ : ∃ A : ByteArray, (⟨(Lib.itoa n).toArray⟩ : ByteArray) = A := ⟨_, rfl⟩
  have HA := Lib.hid hA
  have zA := text_size n A hn0 hn1 hA
  clear hA
  obtain ⟨B, hB⟩ : ∃ B : ByteArray, (⟨(Lib.itoa m).toArray⟩ : ByteArray) = B := ⟨_, rfl⟩
  have HB := Lib.hid hB
  have zB := text_size m B hm0 hm1 hB
  clear hB
  have HI := Lib.hid hi; clear hi
  go_enter Tryd.func9, Tryd.ntmps9
  go_wp2_with fail
  refine (awake_any _).mono ?_; rintro e w0 ⟨rfl, b0⟩
  go_wp2_with fail
  with_reducible refine (text_at _ A _ hn0 hn1 (L.below b0) HA.out).mono ?_; rintro e w1 ⟨rfl, c1⟩
  have b1 := below_then b0 c1
  clear c1
  go_wp2_with fail
  with_reducible refine (text_at _ B _ hm0 hm1 (L.below b1) HB.out).mono ?_; rintro e w2 ⟨rfl, c2⟩
  have b2 := below_then b1 c2
  clear c2
  go_wp2_with fail
  with_reducible refine (parse_text n A _ hn0 hn1 HA.out).mono ?_; rintro e w3 ⟨rfl, c3⟩
  have b3 := below_then b2 c3
  clear c3
  go_wp2_with fail
  with_reducible refine (parse_fail _ _ hs (L.below b3) HI.out).mono ?_; rintro e w4 ⟨k, hk, rfl, c4⟩
  have b4 := below_then b3 c4
  clear c4
  go_wp2_with fail
  go_ret
  exact ⟨rfl, b4⟩
set_option maxRecDepth 100000 in
set_option maxHeartbeats 1000000 in
theorem back_i1g (n m : Int) (s : ByteArray) (w : World) (L : LaidFacts w) (hs : s.size ≤ 100) (hn0 : -1125899906842624 ≤ n) (hn1 : n ≤ 1125899906842624) (hm0 : -1125899906842624 ≤ m) (hm1 : m ≤ 1125899906842624) (hp : n ≤ 0) (hi : intTxt s.data.toList = true) (hu : uval s.data.toList ≤ 1125899906842624) :
    Calls Tryd.prog 9 #[.int .i64 n, .int .i64 m, .string s] w fun e w' => e = .returned (.bool true) ∧ Below w.heap.size w w' := by
  obtain ⟨A, hA⟩ : ∃ A : ByteArray, (⟨(Lib.itoa n).toArray⟩ : ByteArray) = A := ⟨_, rfl⟩
  have HA := Lib.hid hA
  have zA := text_size n A hn0 hn1 hA
  clear hA
  obtain ⟨B, hB⟩ : ∃ B : ByteArray, (⟨(Lib.itoa m).toArray⟩ : ByteArray) = B := ⟨_, rfl⟩
  have HB := Lib.hid hB
  have zB := text_size m B hm0 hm1 hB
  clear hB
  obtain ⟨x0, x1⟩ := sval_bd hu
  have hpn := fun w => parse_num s w hs hi hu
  have hTx := text_back s hi
  have hpl := text_plus s hi
  obtain ⟨x, hx⟩ : ∃ x, sval s.data.toList = x := ⟨_, rfl⟩
  rw [hx] at x0 x1 hpn hTx
  clear hx hi hu
  have HP := Lib.hid hpn; clear hpn
  have HT := Lib.hid hTx; clear hTx
  have HL := Lib.hid hpl; clear hpl
  have hcv := fun w => Lib.run_convert_string_bytes (P := Tryd.prog) w 9 44 5 s Tryd.underlying9 Tryd.underlying44 Tryd.underlying5
  go_enter Tryd.func9, Tryd.ntmps9
  go_wp2_with fail
  refine (awake_any _).mono ?_; rintro e w0 ⟨rfl, b0⟩
  go_wp2_with fail
  with_reducible refine (text_at _ A _ hn0 hn1 (L.below b0) HA.out).mono ?_; rintro e w1 ⟨rfl, c1⟩
  have b1 := below_then b0 c1
  clear c1
  go_wp2_with fail
  with_reducible refine (text_at _ B _ hm0 hm1 (L.below b1) HB.out).mono ?_; rintro e w2 ⟨rfl, c2⟩
  have b2 := below_then b1 c2
  clear c2
  go_wp2_with fail
  with_reducible refine (parse_text n A _ hn0 hn1 HA.out).mono ?_; rintro e w3 ⟨rfl, c3⟩
  have b3 := below_then b2 c3
  clear c3
  go_wp2_with fail
  with_reducible refine (HP.out _).mono ?_; rintro e w4 ⟨rfl, c4⟩
  have b4 := below_then b3 c4
  clear c4
  go_wp2_with fail
  with_reducible refine (text_at _ s _ x0 x1 (L.below b4) HT.out).mono ?_; rintro e w5 ⟨rfl, c5⟩
  have b5 := below_then b4 c5
  clear c5
  go_wp2_with fail
  refine (contains_none _ 0 _ _ (fun j => ((s.data.toList.getD j 0).toNat : Int)) _ (by omega) (fun i hi => by rw [Nat.zero_add]; exact Lib.bytesWorld_cell _ _ _ i hi) HL.out).mono ?_; rintro e w9 ⟨rfl, rfl⟩
  go_wp2_with fail
  go_ret
  exact ⟨rfl, below_then b5 (Lib.bytesWorld_below _ _ _)⟩
set_option maxRecDepth 100000 in
set_option maxHeartbeats 1000000 in
theorem back_i2f (n m : Int) (s : ByteArray) (w : World) (L : LaidFacts w) (hs : s.size ≤ 100) (hn0 : -1125899906842624 ≤ n) (hn1 : n ≤ 1125899906842624) (hm0 : -1125899906842624 ≤ m) (hm1 : m ≤ 1125899906842624) (hp : 0 < n) (hq : m ≤ 0) (hi : ¬ (intTxt s.data.toList = true ∧ uval s.data.toList ≤ 1125899906842624)) :
    Calls Tryd.prog 9 #[.int .i64 n, .int .i64 m, .string s] w fun e w' => e = .returned (.bool true) ∧ Below w.heap.size w w' := by
  obtain ⟨A, hA⟩ : ∃ A : ByteArray, (⟨(Lib.itoa n).toArray⟩ : ByteArray) = A := ⟨_, rfl⟩
  have HA := Lib.hid hA
  have zA := text_size n A hn0 hn1 hA
  clear hA
  obtain ⟨B, hB⟩ : ∃ B : ByteArray, (⟨(Lib.itoa m).toArray⟩ : ByteArray) = B := ⟨_, rfl⟩
  have HB := Lib.hid hB
  have zB := text_size m B hm0 hm1 hB
  clear hB
  have HI := Lib.hid hi; clear hi
  go_enter Tryd.func9, Tryd.ntmps9
  go_wp2_with fail
  refine (awake_any _).mono ?_; rintro e w0 ⟨rfl, b0⟩
  go_wp2_with fail
  with_reducible refine (text_at _ A _ hn0 hn1 (L.below b0) HA.out).mono ?_; rintro e w1 ⟨rfl, c1⟩
  have b1 := below_then b0 c1
  clear c1
  go_wp2_with fail
  with_reducible refine (text_at _ B _ hm0 hm1 (L.below b1) HB.out).mono ?_; rintro e w2 ⟨rfl, c2⟩
  have b2 := below_then b1 c2
  clear c2
  go_wp2_with fail
  with_reducible refine (parse_text n A _ hn0 hn1 HA.out).mono ?_; rintro e w3 ⟨rfl, c3⟩
  have b3 := below_then b2 c3
  clear c3
  go_wp2_with fail
  with_reducible refine (parse_fail _ _ hs (L.below b3) HI.out).mono ?_; rintro e w4 ⟨k, hk, rfl, c4⟩
  have b4 := below_then b3 c4
  clear c4
  go_wp2_with fail
  go_ret
  exact ⟨rfl, b4⟩
set_option maxRecDepth 100000 in
set_option maxHeartbeats 1000000 in
theorem back_i2g (n m : Int) (s : ByteArray) (w : World) (L : LaidFacts w) (hs : s.size ≤ 100) (hn0 : -1125899906842624 ≤ n) (hn1 : n ≤ 1125899906842624) (hm0 : -1125899906842624 ≤ m) (hm1 : m ≤ 1125899906842624) (hp : 0 < n) (hq : m ≤ 0) (hi : intTxt s.data.toList = true) (hu : uval s.data.toList ≤ 1125899906842624) :
    Calls Tryd.prog 9 #[.int .i64 n, .int .i64 m, .string s] w fun e w' => e = .returned (.bool true) ∧ Below w.heap.size w w' := by
  obtain ⟨A, hA⟩ : ∃ A : ByteArray, (⟨(Lib.itoa n).toArray⟩ : ByteArray) = A := ⟨_, rfl⟩
  have HA := Lib.hid hA
  have zA := text_size n A hn0 hn1 hA
  clear hA
  obtain ⟨B, hB⟩ : ∃ B : ByteArray, (⟨(Lib.itoa m).toArray⟩ : ByteArray) = B := ⟨_, rfl⟩
  have HB := Lib.hid hB
  have zB := text_size m B hm0 hm1 hB
  clear hB
  obtain ⟨x0, x1⟩ := sval_bd hu
  have hpn := fun w => parse_num s w hs hi hu
  have hTx := text_back s hi
  have hpl := text_plus s hi
  obtain ⟨x, hx⟩ : ∃ x, sval s.data.toList = x := ⟨_, rfl⟩
  rw [hx] at x0 x1 hpn hTx
  clear hx hi hu
  have HP := Lib.hid hpn; clear hpn
  have HT := Lib.hid hTx; clear hTx
  have HL := Lib.hid hpl; clear hpl
  have hcv := fun w => Lib.run_convert_string_bytes (P := Tryd.prog) w 9 44 5 s Tryd.underlying9 Tryd.underlying44 Tryd.underlying5
  go_enter Tryd.func9, Tryd.ntmps9
  go_wp2_with fail
  refine (awake_any _).mono ?_; rintro e w0 ⟨rfl, b0⟩
  go_wp2_with fail
  with_reducible refine (text_at _ A _ hn0 hn1 (L.below b0) HA.out).mono ?_; rintro e w1 ⟨rfl, c1⟩
  have b1 := below_then b0 c1
  clear c1
  go_wp2_with fail
  with_reducible refine (text_at _ B _ hm0 hm1 (L.below b1) HB.out).mono ?_; rintro e w2 ⟨rfl, c2⟩
  have b2 := below_then b1 c2
  clear c2
  go_wp2_with fail
  with_reducible refine (parse_text n A _ hn0 hn1 HA.out).mono ?_; rintro e w3 ⟨rfl, c3⟩
  have b3 := below_then b2 c3
  clear c3
  go_wp2_with fail
  with_reducible refine (HP.out _).mono ?_; rintro e w4 ⟨rfl, c4⟩
  have b4 := below_then b3 c4
  clear c4
  go_wp2_with fail
  with_reducible refine (text_at _ s _ x0 x1 (L.below b4) HT.out).mono ?_; rintro e w5 ⟨rfl, c5⟩
  have b5 := below_then b4 c5
  clear c5
  go_wp2_with fail
  refine (contains_none _ 0 _ _ (fun j => ((s.data.toList.getD j 0).toNat : Int)) _ (by omega) (fun i hi => by rw [Nat.zero_add]; exact Lib.bytesWorld_cell _ _ _ i hi) HL.out).mono ?_; rintro e w9 ⟨rfl, rfl⟩
  go_wp2_with fail
  go_ret
  exact ⟨rfl, below_then b5 (Lib.bytesWorld_below _ _ _)⟩
set_option maxRecDepth 100000 in
set_option maxHeartbeats 1000000 in
theorem back_i3f (n m : Int) (s : ByteArray) (w : World) (L : LaidFacts w) (hs : s.size ≤ 100) (hn0 : -1125899906842624 ≤ n) (hn1 : n ≤ 1125899906842624) (hm0 : -1125899906842624 ≤ m) (hm1 : m ≤ 1125899906842624) (hp : 0 < n) (hq : 0 < m) (hl : (Lib.itoa n).length ≠ (Lib.itoa m).length) (hi : ¬ (intTxt s.data.toList = true ∧ uval s.data.toList ≤ 1125899906842624)) :
    Calls Tryd.prog 9 #[.int .i64 n, .int .i64 m, .string s] w fun e w' => e = .returned (.bool true) ∧ Below w.heap.size w w' := by
  obtain ⟨A, hA⟩ : ∃ A : ByteArray, (⟨(Lib.itoa n).toArray⟩ : ByteArray) = A := ⟨_, rfl⟩
  have HA := Lib.hid hA
  have zA := text_size n A hn0 hn1 hA
  obtain ⟨B, hB⟩ : ∃ B : ByteArray, (⟨(Lib.itoa m).toArray⟩ : ByteArray) = B := ⟨_, rfl⟩
  have HB := Lib.hid hB
  have zB := text_size m B hm0 hm1 hB
  have hl2 : ¬ A.size = B.size := by rw [← hA, ← hB, size_of_list, size_of_list]; exact hl
  clear hA hB hl
  have HI := Lib.hid hi; clear hi
  go_enter Tryd.func9, Tryd.ntmps9
  go_wp2_with fail
  refine (awake_any _).mono ?_; rintro e w0 ⟨rfl, b0⟩
  go_wp2_with fail
  with_reducible refine (text_at _ A _ hn0 hn1 (L.below b0) HA.out).mono ?_; rintro e w1 ⟨rfl, c1⟩
  have b1 := below_then b0 c1
  clear c1
  go_wp2_with fail
  with_reducible refine (text_at _ B _ hm0 hm1 (L.below b1) HB.out).mono ?_; rintro e w2 ⟨rfl, c2⟩
  have b2 := below_then b1 c2
  clear c2
  go_wp2_with fail
  with_reducible refine (parse_text n A _ hn0 hn1 HA.out).mono ?_; rintro e w3 ⟨rfl, c3⟩
  have b3 := below_then b2 c3
  clear c3
  go_wp2_with fail
  with_reducible refine (parse_fail _ _ hs (L.below b3) HI.out).mono ?_; rintro e w4 ⟨k, hk, rfl, c4⟩
  have b4 := below_then b3 c4
  clear c4
  go_wp2_with fail
  go_ret
  exact ⟨rfl, b4⟩
set_option maxRecDepth 100000 in
set_option maxHeartbeats 1000000 in
theorem back_i3g (n m : Int) (s : ByteArray) (w : World) (L : LaidFacts w) (hs : s.size ≤ 100) (hn0 : -1125899906842624 ≤ n) (hn1 : n ≤ 1125899906842624) (hm0 : -1125899906842624 ≤ m) (hm1 : m ≤ 1125899906842624) (hp : 0 < n) (hq : 0 < m) (hl : (Lib.itoa n).length ≠ (Lib.itoa m).length) (hi : intTxt s.data.toList = true) (hu : uval s.data.toList ≤ 1125899906842624) :
    Calls Tryd.prog 9 #[.int .i64 n, .int .i64 m, .string s] w fun e w' => e = .returned (.bool true) ∧ Below w.heap.size w w' := by
  obtain ⟨A, hA⟩ : ∃ A : ByteArray, (⟨(Lib.itoa n).toArray⟩ : ByteArray) = A := ⟨_, rfl⟩
  have HA := Lib.hid hA
  have zA := text_size n A hn0 hn1 hA
  obtain ⟨B, hB⟩ : ∃ B : ByteArray, (⟨(Lib.itoa m).toArray⟩ : ByteArray) = B := ⟨_, rfl⟩
  have HB := Lib.hid hB
  have zB := text_size m B hm0 hm1 hB
  have hl2 : ¬ A.size = B.size := by rw [← hA, ← hB, size_of_list, size_of_list]; exact hl
  clear hA hB hl
  obtain ⟨x0, x1⟩ := sval_bd hu
  have hpn := fun w => parse_num s w hs hi hu
  have hTx := text_back s hi
  have hpl := text_plus s hi
  obtain ⟨x, hx⟩ : ∃ x, sval s.data.toList = x := ⟨_, rfl⟩
  rw [hx] at x0 x1 hpn hTx
  clear hx hi hu
  have HP := Lib.hid hpn; clear hpn
  have HT := Lib.hid hTx; clear hTx
  have HL := Lib.hid hpl; clear hpl
  have hcv := fun w => Lib.run_convert_string_bytes (P := Tryd.prog) w 9 44 5 s Tryd.underlying9 Tryd.underlying44 Tryd.underlying5
  go_enter Tryd.func9, Tryd.ntmps9
  go_wp2_with fail
  refine (awake_any _).mono ?_; rintro e w0 ⟨rfl, b0⟩
  go_wp2_with fail
  with_reducible refine (text_at _ A _ hn0 hn1 (L.below b0) HA.out).mono ?_; rintro e w1 ⟨rfl, c1⟩
  have b1 := below_then b0 c1
  clear c1
  go_wp2_with fail
  with_reducible refine (text_at _ B _ hm0 hm1 (L.below b1) HB.out).mono ?_; rintro e w2 ⟨rfl, c2⟩
  have b2 := below_then b1 c2
  clear c2
  go_wp2_with fail
  with_reducible refine (parse_text n A _ hn0 hn1 HA.out).mono ?_; rintro e w3 ⟨rfl, c3⟩
  have b3 := below_then b2 c3
  clear c3
  go_wp2_with fail
  with_reducible refine (HP.out _).mono ?_; rintro e w4 ⟨rfl, c4⟩
  have b4 := below_then b3 c4
  clear c4
  go_wp2_with fail
  with_reducible refine (text_at _ s _ x0 x1 (L.below b4) HT.out).mono ?_; rintro e w5 ⟨rfl, c5⟩
  have b5 := below_then b4 c5
  clear c5
  go_wp2_with fail
  refine (contains_none _ 0 _ _ (fun j => ((s.data.toList.getD j 0).toNat : Int)) _ (by omega) (fun i hi => by rw [Nat.zero_add]; exact Lib.bytesWorld_cell _ _ _ i hi) HL.out).mono ?_; rintro e w9 ⟨rfl, rfl⟩
  go_wp2_with fail
  go_ret
  exact ⟨rfl, below_then b5 (Lib.bytesWorld_below _ _ _)⟩
set_option maxRecDepth 100000 in
set_option maxHeartbeats 1000000 in
theorem back_i4f (n m : Int) (s : ByteArray) (w : World) (L : LaidFacts w) (hs : s.size ≤ 100) (hn0 : -1125899906842624 ≤ n) (hn1 : n ≤ 1125899906842624) (hm0 : -1125899906842624 ≤ m) (hm1 : m ≤ 1125899906842624) (hp : 0 < n) (hq : 0 < m) (hl : (Lib.itoa n).length = (Lib.itoa m).length) (hi : ¬ (intTxt s.data.toList = true ∧ uval s.data.toList ≤ 1125899906842624)) :
    Calls Tryd.prog 9 #[.int .i64 n, .int .i64 m, .string s] w fun e w' => e = .returned (.bool true) ∧ Below w.heap.size w w' := by
  obtain ⟨A, hA⟩ : ∃ A : ByteArray, (⟨(Lib.itoa n).toArray⟩ : ByteArray) = A := ⟨_, rfl⟩
  have HA := Lib.hid hA
  have zA := text_size n A hn0 hn1 hA
  obtain ⟨B, hB⟩ : ∃ B : ByteArray, (⟨(Lib.itoa m).toArray⟩ : ByteArray) = B := ⟨_, rfl⟩
  have HB := Lib.hid hB
  have zB := text_size m B hm0 hm1 hB
  have hl2 : A.size = B.size := by rw [← hA, ← hB, size_of_list, size_of_list]; exact hl
  have hless := less_text n m A B hp hq hA hB hl2
  clear hA hB hl
  have HI := Lib.hid hi; clear hi
  go_enter Tryd.func9, Tryd.ntmps9
  go_wp2_with fail
  refine (awake_any _).mono ?_; rintro e w0 ⟨rfl, b0⟩
  go_wp2_with fail
  with_reducible refine (text_at _ A _ hn0 hn1 (L.below b0) HA.out).mono ?_; rintro e w1 ⟨rfl, c1⟩
  have b1 := below_then b0 c1
  clear c1
  go_wp2_with fail
  with_reducible refine (text_at _ B _ hm0 hm1 (L.below b1) HB.out).mono ?_; rintro e w2 ⟨rfl, c2⟩
  have b2 := below_then b1 c2
  clear c2
  go_wp2_with fail
  with_reducible refine (parse_text n A _ hn0 hn1 HA.out).mono ?_; rintro e w3 ⟨rfl, c3⟩
  have b3 := below_then b2 c3
  clear c3
  go_wp2_with fail
  with_reducible refine (parse_fail _ _ hs (L.below b3) HI.out).mono ?_; rintro e w4 ⟨k, hk, rfl, c4⟩
  have b4 := below_then b3 c4
  clear c4
  go_wp2_with fail
  go_ret
  exact ⟨rfl, b4⟩
set_option maxRecDepth 100000 in
set_option maxHeartbeats 1000000 in
theorem back_i4g (n m : Int) (s : ByteArray) (w : World) (L : LaidFacts w) (hs : s.size ≤ 100) (hn0 : -1125899906842624 ≤ n) (hn1 : n ≤ 1125899906842624) (hm0 : -1125899906842624 ≤ m) (hm1 : m ≤ 1125899906842624) (hp : 0 < n) (hq : 0 < m) (hl : (Lib.itoa n).length = (Lib.itoa m).length) (hi : intTxt s.data.toList = true) (hu : uval s.data.toList ≤ 1125899906842624) :
    Calls Tryd.prog 9 #[.int .i64 n, .int .i64 m, .string s] w fun e w' => e = .returned (.bool true) ∧ Below w.heap.size w w' := by
  obtain ⟨A, hA⟩ : ∃ A : ByteArray, (⟨(Lib.itoa n).toArray⟩ : ByteArray) = A := ⟨_, rfl⟩
  have HA := Lib.hid hA
  have zA := text_size n A hn0 hn1 hA
  obtain ⟨B, hB⟩ : ∃ B : ByteArray, (⟨(Lib.itoa m).toArray⟩ : ByteArray) = B := ⟨_, rfl⟩
  have HB := Lib.hid hB
  have zB := text_size m B hm0 hm1 hB
  have hl2 : A.size = B.size := by rw [← hA, ← hB, size_of_list, size_of_list]; exact hl
  have hless := less_text n m A B hp hq hA hB hl2
  clear hA hB hl
  obtain ⟨x0, x1⟩ := sval_bd hu
  have hpn := fun w => parse_num s w hs hi hu
  have hTx := text_back s hi
  have hpl := text_plus s hi
  obtain ⟨x, hx⟩ : ∃ x, sval s.data.toList = x := ⟨_, rfl⟩
  rw [hx] at x0 x1 hpn hTx
  clear hx hi hu
  have HP := Lib.hid hpn; clear hpn
  have HT := Lib.hid hTx; clear hTx
  have HL := Lib.hid hpl; clear hpl
  have hcv := fun w => Lib.run_convert_string_bytes (P := Tryd.prog) w 9 44 5 s Tryd.underlying9 Tryd.underlying44 Tryd.underlying5
  go_enter Tryd.func9, Tryd.ntmps9
  go_wp2_with fail
  refine (awake_any _).mono ?_; rintro e w0 ⟨rfl, b0⟩
  go_wp2_with fail
  with_reducible refine (text_at _ A _ hn0 hn1 (L.below b0) HA.out).mono ?_; rintro e w1 ⟨rfl, c1⟩
  have b1 := below_then b0 c1
  clear c1
  go_wp2_with fail
  with_reducible refine (text_at _ B _ hm0 hm1 (L.below b1) HB.out).mono ?_; rintro e w2 ⟨rfl, c2⟩
  have b2 := below_then b1 c2
  clear c2
  go_wp2_with fail
  with_reducible refine (parse_text n A _ hn0 hn1 HA.out).mono ?_; rintro e w3 ⟨rfl, c3⟩
  have b3 := below_then b2 c3
  clear c3
  go_wp2_with fail
  with_reducible refine (HP.out _).mono ?_; rintro e w4 ⟨rfl, c4⟩
  have b4 := below_then b3 c4
  clear c4
  go_wp2_with fail
  with_reducible refine (text_at _ s _ x0 x1 (L.below b4) HT.out).mono ?_; rintro e w5 ⟨rfl, c5⟩
  have b5 := below_then b4 c5
  clear c5
  go_wp2_with fail
  refine (contains_none _ 0 _ _ (fun j => ((s.data.toList.getD j 0).toNat : Int)) _ (by omega) (fun i hi => by rw [Nat.zero_add]; exact Lib.bytesWorld_cell _ _ _ i hi) HL.out).mono ?_; rintro e w9 ⟨rfl, rfl⟩
  go_wp2_with fail
  go_ret
  exact ⟨rfl, below_then b5 (Lib.bytesWorld_below _ _ _)⟩
theorem back_oo (n m : Int) (s : ByteArray) (w : World) (L : LaidFacts w) (hs : s.size ≤ 100) (hn : n < -1125899906842624 ∨ 1125899906842624 < n) (hm : m < -1125899906842624 ∨ 1125899906842624 < m) :
    Calls Tryd.prog 9 #[.int .i64 n, .int .i64 m, .string s] w fun e w' => e = .returned (.bool true) ∧ Below w.heap.size w w' := by
  by_cases hi : intTxt s.data.toList = true ∧ uval s.data.toList ≤ 1125899906842624
  · exact back_oog n m s w L hs hn hm hi.1 hi.2
  · exact back_oof n m s w L hs hn hm hi
theorem back_oi (n m : Int) (s : ByteArray) (w : World) (L : LaidFacts w) (hs : s.size ≤ 100) (hn : n < -1125899906842624 ∨ 1125899906842624 < n) (hm0 : -1125899906842624 ≤ m) (hm1 : m ≤ 1125899906842624) :
    Calls Tryd.prog 9 #[.int .i64 n, .int .i64 m, .string s] w fun e w' => e = .returned (.bool true) ∧ Below w.heap.size w w' := by
  by_cases hi : intTxt s.data.toList = true ∧ uval s.data.toList ≤ 1125899906842624
  · exact back_oig n m s w L hs hn hm0 hm1 hi.1 hi.2
  · exact back_oif n m s w L hs hn hm0 hm1 hi
theorem back_io (n m : Int) (s : ByteArray) (w : World) (L : LaidFacts w) (hs : s.size ≤ 100) (hn0 : -1125899906842624 ≤ n) (hn1 : n ≤ 1125899906842624) (hm : m < -1125899906842624 ∨ 1125899906842624 < m) :
    Calls Tryd.prog 9 #[.int .i64 n, .int .i64 m, .string s] w fun e w' => e = .returned (.bool true) ∧ Below w.heap.size w w' := by
  by_cases hi : intTxt s.data.toList = true ∧ uval s.data.toList ≤ 1125899906842624
  · exact back_iog n m s w L hs hn0 hn1 hm hi.1 hi.2
  · exact back_iof n m s w L hs hn0 hn1 hm hi
theorem back_ii (n m : Int) (s : ByteArray) (w : World) (L : LaidFacts w) (hs : s.size ≤ 100) (hn0 : -1125899906842624 ≤ n) (hn1 : n ≤ 1125899906842624) (hm0 : -1125899906842624 ≤ m) (hm1 : m ≤ 1125899906842624) :
    Calls Tryd.prog 9 #[.int .i64 n, .int .i64 m, .string s] w fun e w' => e = .returned (.bool true) ∧ Below w.heap.size w w' := by
  by_cases hi : intTxt s.data.toList = true ∧ uval s.data.toList ≤ 1125899906842624
  · by_cases hp : 0 < n
    · by_cases hq : 0 < m
      · by_cases hl : (Lib.itoa n).length = (Lib.itoa m).length
        · exact back_i4g n m s w L hs hn0 hn1 hm0 hm1 hp hq hl hi.1 hi.2
        · exact back_i3g n m s w L hs hn0 hn1 hm0 hm1 hp hq hl hi.1 hi.2
      · exact back_i2g n m s w L hs hn0 hn1 hm0 hm1 hp (by omega) hi.1 hi.2
    · exact back_i1g n m s w L hs hn0 hn1 hm0 hm1 (by omega) hi.1 hi.2
  · by_cases hp : 0 < n
    · by_cases hq : 0 < m
      · by_cases hl : (Lib.itoa n).length = (Lib.itoa m).length
        · exact back_i4f n m s w L hs hn0 hn1 hm0 hm1 hp hq hl hi
        · exact back_i3f n m s w L hs hn0 hn1 hm0 hm1 hp hq hl hi
      · exact back_i2f n m s w L hs hn0 hn1 hm0 hm1 hp (by omega) hi
    · exact back_i1f n m s w L hs hn0 hn1 hm0 hm1 (by omega) hi
theorem back_any (n m : Int) (s : ByteArray) (w : World) (hs : s.size ≤ maxLen) (hL : laidMetH Tryd.prog Rows.numberBackRow.laid w) :
    Calls Tryd.prog 9 #[.int .i64 n, .int .i64 m, .string s] w fun e w' => e = .returned (.bool true) ∧ Below w.heap.size w w' := by
  have L := laid_facts hL
  unfold maxLen at hs
  by_cases h1 : 100 < s.size
  · exact back_skip n m s w h1 hs
  · by_cases hn : -1125899906842624 ≤ n ∧ n ≤ 1125899906842624
    · by_cases hm : -1125899906842624 ≤ m ∧ m ≤ 1125899906842624
      · exact back_ii n m s w L (by omega) hn.1 hn.2 hm.1 hm.2
      · exact back_io n m s w L (by omega) hn.1 hn.2 (by omega)
    · by_cases hm : -1125899906842624 ≤ m ∧ m ≤ 1125899906842624
      · exact back_oi n m s w L (by omega) (by omega) hm.1 hm.2
      · exact back_oo n m s w L (by omega) (by omega) (by omega)
end Go.Proofs.YtcgmbgamhlfpcaaDoor
