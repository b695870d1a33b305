/- NumberTexts: the law's own text, walked: it returns true for every integer and every string. -/
import Derived.Test.YtcgmbgamhlfpcaaDoorRefParse
namespace Go.Proofs.YtcgmbgamhlfpcaaDoor
open Go.RowKit
theorem parse_all (s : ByteArray) (x y : Int) (w : World) (hs : s.size ≤ 100) (L : LaidFacts w) (hx : RP1 s.data.toList = x) (hy : RP2 s.data.toList = y) :
    Calls Tryd.prog 25 #[.string s] w fun e w' => e = .returned (.tuple #[.int .i64 x, .int .i64 y]) ∧ Below w.heap.size w w' := by
  subst hx hy
  cases hi : intTxt s.data.toList
  · rw [← (RP_form hi).1, ← (RP_form hi).2]; exact parse_form s w hs L hi
  · by_cases hu : uval s.data.toList ≤ 1125899906842624
    · rw [← (RP_num hi hu).1, ← (RP_num hi hu).2]; exact parse_num s w hs hi hu
    · rw [← (RP_big hi (by omega)).1, ← (RP_big hi (by omega)).2]; exact parse_great s w hs L hi (by omega)
theorem refParse_at (s : ByteArray) (x y : Int) (w : World) (hs : s.size ≤ 200) (hx : RP1 s.data.toList = x) (hy : RP2 s.data.toList = y) :
    Calls Tryd.prog 26 #[.string s] w fun e w' => e = .returned (.tuple #[.int .i64 x, .int .i64 y]) ∧ w = w' := by
  subst hx hy; exact refParse_any s w hs
theorem text_at (n : Int) (T : ByteArray) (w : World) (h0 : -1125899906842624 ≤ n) (h1 : n ≤ 1125899906842624) (L : LaidFacts w) (hT : (⟨(Lib.itoa n).toArray⟩ : ByteArray) = T) :
    Calls Tryd.prog 23 #[.int .i64 n] w fun e w' => e = .returned (.tuple #[.string T, .int .i64 0]) ∧ Below w.heap.size w w' := by
  subst hT; exact text_ok n w h0 h1 L
theorem refText_at (n : Int) (T : ByteArray) (w : World) (h0 : -1125899906842624 ≤ n) (h1 : n ≤ 1125899906842624) (hT : (⟨(Lib.itoa n).toArray⟩ : ByteArray) = T) :
    Calls Tryd.prog 24 #[.int .i64 n] w fun e w' => e = .returned (.string T) ∧ Below w.heap.size w w' := by
  subst hT; exact refText_num n w h0 h1
theorem texts_skip (n : Int) (s : ByteArray) (w : World) (h : 200 < s.size) (hs : s.size ≤ 9223372036854775807) :
    Calls Tryd.prog 5 #[.int .i64 n, .string s] w fun e w' => e = .returned (.bool true) ∧ Below w.heap.size w w' := by
  go_enter Tryd.func5, Tryd.ntmps5
  go_wp2_with fail
  refine (awake_any _).mono ?_; rintro e w0 ⟨rfl, b0⟩
  go_wp2_with fail
  go_ret
  exact ⟨rfl, b0⟩
set_option maxHeartbeats 400000 in
theorem texts_out_long (n : Int) (s : ByteArray) (w : World) (h : n < -1125899906842624 ∨ 1125899906842624 < n) (hs1 : 100 < s.size) (hs2 : s.size ≤ 200) :
    Calls Tryd.prog 5 #[.int .i64 n, .string s] w fun e w' => e = .returned (.bool true) ∧ Below w.heap.size w w' := by
  have H := Lib.hid h; clear h
  go_enter Tryd.func5, Tryd.ntmps5
  go_wp2_with fail
  refine (awake_any _).mono ?_; rintro e w0 ⟨rfl, b0⟩
  go_wp2_with fail
  with_reducible refine (text_range _ _ H.out).mono ?_; rintro e w1 ⟨rfl, c1⟩
  have b1 := below_then b0 c1
  clear c1
  go_wp2_with fail
  with_reducible refine (refIs_no _ _ H.out).mono ?_; rintro e w9 ⟨rfl, rfl⟩
  go_wp2_with fail
  with_reducible refine (parse_full _ _ hs1 (by omega)).mono ?_; rintro e w9 ⟨rfl, rfl⟩
  go_wp2_with fail
  go_ret
  exact ⟨rfl, b1⟩
set_option maxHeartbeats 400000 in
theorem texts_out_short (n : Int) (s : ByteArray) (w : World) (L : LaidFacts w) (h : n < -1125899906842624 ∨ 1125899906842624 < n) (hs : s.size ≤ 100) :
    Calls Tryd.prog 5 #[.int .i64 n, .string s] w fun e w' => e = .returned (.bool true) ∧ Below w.heap.size w w' := by
  have H := Lib.hid h; clear h
  obtain ⟨x, hx⟩ : ∃ x, RP1 s.data.toList = x := ⟨_, rfl⟩
  obtain ⟨y, hy⟩ : ∃ y, RP2 s.data.toList = y := ⟨_, rfl⟩
  have HX := Lib.hid hx; clear hx
  have HY := Lib.hid hy; clear hy
  go_enter Tryd.func5, Tryd.ntmps5
  go_wp2_with fail
  refine (awake_any _).mono ?_; rintro e w0 ⟨rfl, b0⟩
  go_wp2_with fail
  with_reducible refine (text_range _ _ H.out).mono ?_; rintro e w1 ⟨rfl, c1⟩
  have b1 := below_then b0 c1
  clear c1
  go_wp2_with fail
  with_reducible refine (refIs_no _ _ H.out).mono ?_; rintro e w9 ⟨rfl, rfl⟩
  go_wp2_with fail
  with_reducible refine (parse_all _ _ _ _ hs (L.below b1) HX.out HY.out).mono ?_; rintro e w2 ⟨rfl, c2⟩
  have b2 := below_then b1 c2
  clear c2
  go_wp2_with fail
  with_reducible refine (refParse_at _ _ _ _ (by omega) HX.out HY.out).mono ?_; rintro e w9 ⟨rfl, rfl⟩
  go_wp2_with fail
  go_ret
  exact ⟨rfl, b2⟩
set_option maxHeartbeats 400000 in
theorem texts_in_long (n : Int) (s : ByteArray) (w : World) (L : LaidFacts w) (h0 : -1125899906842624 ≤ n) (h1 : n ≤ 1125899906842624) (hs1 : 100 < s.size) (hs2 : s.size ≤ 200) :
    Calls Tryd.prog 5 #[.int .i64 n, .string s] w fun e w' => e = .returned (.bool true) ∧ Below w.heap.size w w' := by
  obtain ⟨T, hT⟩ : ∃ T : ByteArray, (⟨(Lib.itoa n).toArray⟩ : ByteArray) = T := ⟨_, rfl⟩
  have HT := Lib.hid hT; clear hT
  go_enter Tryd.func5, Tryd.ntmps5
  go_wp2_with fail
  refine (awake_any _).mono ?_; rintro e w0 ⟨rfl, b0⟩
  go_wp2_with fail
  with_reducible refine (text_at _ _ _ h0 h1 (L.below b0) HT.out).mono ?_; rintro e w1 ⟨rfl, c1⟩
  have b1 := below_then b0 c1
  clear c1
  go_wp2_with fail
  with_reducible refine (refIs_yes _ _ h0 h1).mono ?_; rintro e w9 ⟨rfl, rfl⟩
  go_wp2_with fail
  with_reducible refine (refText_at _ _ _ h0 h1 HT.out).mono ?_; rintro e w2 ⟨rfl, c2⟩
  have b2 := below_then b1 c2
  clear c2
  go_wp2_with fail
  with_reducible refine (parse_full _ _ hs1 (by omega)).mono ?_; rintro e w9 ⟨rfl, rfl⟩
  go_wp2_with fail
  go_ret
  exact ⟨rfl, b2⟩
set_option maxHeartbeats 400000 in
theorem texts_in_short (n : Int) (s : ByteArray) (w : World) (L : LaidFacts w) (h0 : -1125899906842624 ≤ n) (h1 : n ≤ 1125899906842624) (hs : s.size ≤ 100) :
    Calls Tryd.prog 5 #[.int .i64 n, .string s] w fun e w' => e = .returned (.bool true) ∧ Below w.heap.size w w' := by
  obtain ⟨T, hT⟩ : ∃ T : ByteArray, (⟨(Lib.itoa n).toArray⟩ : ByteArray) = T := ⟨_, rfl⟩
  have HT := Lib.hid hT; clear hT
  obtain ⟨x, hx⟩ : ∃ x, RP1 s.data.toList = x := ⟨_, rfl⟩
  obtain ⟨y, hy⟩ : ∃ y, RP2 s.data.toList = y := ⟨_, rfl⟩
  have HX := Lib.hid hx; clear hx
  have HY := Lib.hid hy; clear hy
  go_enter Tryd.func5, Tryd.ntmps5
  go_wp2_with fail
  refine (awake_any _).mono ?_; rintro e w0 ⟨rfl, b0⟩
  go_wp2_with fail
  with_reducible refine (text_at _ _ _ h0 h1 (L.below b0) HT.out).mono ?_; rintro e w1 ⟨rfl, c1⟩
  have b1 := below_then b0 c1
  clear c1
  go_wp2_with fail
  with_reducible refine (refIs_yes _ _ h0 h1).mono ?_; rintro e w9 ⟨rfl, rfl⟩
  go_wp2_with fail
  with_reducible refine (refText_at _ _ _ h0 h1 HT.out).mono ?_; rintro e w2 ⟨rfl, c2⟩
  have b2 := below_then b1 c2
  clear c2
  go_wp2_with fail
  with_reducible refine (parse_all _ _ _ _ hs (L.below b2) HX.out HY.out).mono ?_; rintro e w3 ⟨rfl, c3⟩
  have b3 := below_then b2 c3
  clear c3
  go_wp2_with fail
  with_reducible refine (refParse_at _ _ _ _ (by omega) HX.out HY.out).mono ?_; rintro e w9 ⟨rfl, rfl⟩
  go_wp2_with fail
  go_ret
  exact ⟨rfl, b3⟩
theorem texts_any (n : Int) (s : ByteArray) (w : World) (hs : s.size ≤ maxLen) (hL : laidMetH Tryd.prog Rows.numberTextsRow.laid w) :
    Calls Tryd.prog 5 #[.int .i64 n, .string s] w fun e w' => e = .returned (.bool true) ∧ Below w.heap.size w w' := by
  have L := laid_facts hL
  unfold maxLen at hs
  by_cases h2 : 200 < s.size
  · exact texts_skip n s w h2 hs
  · by_cases h1 : 100 < s.size
    · by_cases hn : -1125899906842624 ≤ n ∧ n ≤ 1125899906842624
      · exact texts_in_long n s w L hn.1 hn.2 h1 (by omega)
      · exact texts_out_long n s w (by omega) h1 (by omega)
    · by_cases hn : -1125899906842624 ≤ n ∧ n ≤ 1125899906842624
      · exact texts_in_short n s w L hn.1 hn.2 (by omega)
      · exact texts_out_short n s w L (by omega) (by omega)
end Go.Proofs.YtcgmbgamhlfpcaaDoor
