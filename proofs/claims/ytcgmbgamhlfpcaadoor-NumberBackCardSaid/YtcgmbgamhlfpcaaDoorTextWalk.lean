/- The contracts of Text and Parse for every argument, and of the reference's. -/
import Derived.Test.YtcgmbgamhlfpcaaDoorTxtMath
import Derived.Test.YtcgmbgamhlfpcaaDoorLaid
import Derived.Test.YtcgmbgamhlfpcaaDoorSumsWalk
import Derived.Deep.RegionWith
import Derived.WideShapes
namespace Go.Proofs.YtcgmbgamhlfpcaaDoor
open Go.RowKit
/- Atoi out of range: an error that is not nil -/
theorem atoi_range (s : ByteArray) (w : World) (hs : s.size ≤ 100) (L : LaidFacts w) (h : Lib.atoiAll s.data.toList = .range) :
    Calls Tryd.prog 34 #[.string s] w fun e w' => ∃ (x : Int) (N : Nat), e = .returned (.tuple #[.int .i64 x, .iface 59 (.pointer (some ⟨N, 0, none⟩))]) ∧ Below w.heap.size w w' := by
  obtain ⟨tp, p, hv⟩ := L.ran
  exact (Any.strconv_Atoi_range_var Tryd.laysC172 s (by omega) h tp p w hv).mono fun e w' ⟨N, he, _, _, hb⟩ => ⟨_, N, he, hb⟩
theorem atoi_ends (s : ByteArray) (w : World) (hs : s.size ≤ 100) (L : LaidFacts w) :
    Calls Tryd.prog 34 #[.string s] w fun e w' => ∃ (x : Int) (ev : Value), e = .returned (.tuple #[.int .i64 x, ev]) ∧ Below w.heap.size w w' := by
  cases h : Lib.atoiAll s.data.toList with
  | ok v => exact (atoi_ok s w hs v h).mono fun e w' ⟨he, hb⟩ => ⟨_, _, he, hb⟩
  | range => exact (atoi_range s w hs L h).mono fun e w' ⟨x, N, he, hb⟩ => ⟨_, _, he, hb⟩
  | _ =>
    obtain ⟨tp, p, hv⟩ := L.syn
    exact (Any.strconv_Atoi_syntax_var Tryd.laysC172 s (by omega) h tp p w hv).mono fun e w' ⟨N, he, _, _, hb⟩ => ⟨_, _, he, hb⟩
set_option maxHeartbeats 400000 in
theorem parse_form (s : ByteArray) (w : World) (hs : s.size ≤ 100) (L : LaidFacts w) (hi : intTxt s.data.toList = false) :
    Calls Tryd.prog 25 #[.string s] w fun e w' => e = .returned (.tuple #[.int .i64 0, .int .i64 3]) ∧ Below w.heap.size w w' := by
  have HI := Lib.hid hi; clear hi
  go_enter Tryd.func25, Tryd.ntmps25
  go_wp2_with fail
  refine (atoi_ends _ _ hs L).mono ?_; rintro e w1 ⟨x, ev, rfl, hb⟩
  go_wp2_with fail
  refine (intText_any _ _ (by omega)).mono ?_; rintro e w1 ⟨rfl, rfl⟩
  rw [HI.out]
  go_wp2
  go_ret2
  exact ⟨rfl, hb⟩
set_option maxHeartbeats 400000 in
theorem parse_over (s : ByteArray) (w : World) (hs : s.size ≤ 100) (L : LaidFacts w) (hi : intTxt s.data.toList = true) (h : Lib.atoiAll s.data.toList = .range) :
    Calls Tryd.prog 25 #[.string s] w fun e w' => e = .returned (.tuple #[.int .i64 0, .int .i64 9]) ∧ Below w.heap.size w w' := by
  have HI := Lib.hid hi; clear hi
  have H := Lib.hid h; clear h
  go_enter Tryd.func25, Tryd.ntmps25
  go_wp2_with fail
  refine (atoi_range _ _ hs L H.out).mono ?_; rintro e w1 ⟨x, N, rfl, hb⟩
  go_wp2_with fail
  refine (intText_any _ _ (by omega)).mono ?_; rintro e w1 ⟨rfl, rfl⟩
  rw [HI.out]
  go_wp2
  go_ret2
  exact ⟨rfl, hb⟩
/- Parse, for every text of at most 100 bytes -/
theorem parse_num (s : ByteArray) (w : World) (hs : s.size ≤ 100) (hi : intTxt s.data.toList = true) (hu : uval s.data.toList ≤ 1125899906842624) :
    Calls Tryd.prog 25 #[.string s] w fun e w' => e = .returned (.tuple #[.int .i64 (sval s.data.toList), .int .i64 0]) ∧ Below w.heap.size w w' := by
  have hb : -1125899906842624 ≤ sval s.data.toList ∧ sval s.data.toList ≤ 1125899906842624 := by unfold sval; split <;> omega
  exact parse_ok s w hs _ ((atoi_any hi).1 hu) hi hb.1 hb.2
theorem parse_great (s : ByteArray) (w : World) (hs : s.size ≤ 100) (L : LaidFacts w) (hi : intTxt s.data.toList = true) (hu : 1125899906842624 < uval s.data.toList) :
    Calls Tryd.prog 25 #[.string s] w fun e w' => e = .returned (.tuple #[.int .i64 0, .int .i64 9]) ∧ Below w.heap.size w w' := by
  rcases (atoi_any hi).2 hu with ⟨v, hv, hb⟩ | h
  · exact parse_big s w hs v hv hi hb
  · exact parse_over s w hs L hi h
theorem text_range (n : Int) (w : World) (h : n < -1125899906842624 ∨ 1125899906842624 < n) :
    Calls Tryd.prog 23 #[.int .i64 n] w fun e w' => e = .returned (.tuple #[.string ⟨#[]⟩, .int .i64 2]) ∧ Below w.heap.size w w' := by
  have H := Lib.hid h; clear h
  go_enter Tryd.func23, Tryd.ntmps23
  go_wp2_with fail
  refine (isNum_no _ _ H.out).mono ?_; rintro e w' ⟨rfl, rfl⟩
  go_wp2
  go_ret2
  exact ⟨rfl, Below.refl _ _⟩
theorem grow_below (w : World) (k : Nat) (os : Array Obj) : Below w.heap.size w (Sort.grow (w.drewN k) os) :=
  ⟨rfl, rfl, rfl, by show w.heap.size ≤ (w.heap ++ os).size; rw [Array.size_append]; omega, fun j hj => by
    show (w.heap ++ os)[j]? = w.heap[j]?
    rw [Array.getElem?_append_left hj]⟩
theorem itoa_any (n : Int) (w : World) (h0 : -1125899906842624 ≤ n) (h1 : n ≤ 1125899906842624) (L : LaidFacts w) :
    Calls Tryd.prog 33 #[.int .i64 n] w fun e w' => e = .returned (.string ⟨(Lib.itoa n).toArray⟩) ∧ Below w.heap.size w w' :=
  (Tryd.strconv_Itoa n (by omega) (by omega) w L.pow).mono fun e w' ⟨he, k, os, hw⟩ => ⟨he, by rw [hw]; exact grow_below _ _ _⟩
theorem text_ok (n : Int) (w : World) (h0 : -1125899906842624 ≤ n) (h1 : n ≤ 1125899906842624) (L : LaidFacts w) :
    Calls Tryd.prog 23 #[.int .i64 n] w fun e w' => e = .returned (.tuple #[.string ⟨(Lib.itoa n).toArray⟩, .int .i64 0]) ∧ Below w.heap.size w w' := by
  go_enter Tryd.func23, Tryd.ntmps23
  go_wp2_with fail
  refine (isNum_yes _ _ h0 h1).mono ?_; rintro e w' ⟨rfl, rfl⟩
  go_wp2_with fail
  refine (itoa_any _ _ h0 h1 L).mono ?_; rintro e w1 ⟨rfl, hb⟩
  go_wp2
  go_ret2
  exact ⟨rfl, hb⟩
theorem bcell {W w1 : World} (hb : Below W.heap.size W w1) : (∀ b o, b < W.heap.size → w1.cell? ⟨b, o, none⟩ = W.cell? ⟨b, o, none⟩) :=
  fun b o h => hb.cell (p := ⟨b, o, none⟩) h
/- string([]byte{x}) of a row of one byte -/
theorem run_one_byte (n : Nat) (h : n < 10) (W : World) (b : Nat) (hc : W.cell? ⟨b, 0, none⟩ = some (.int .u8 (48 + (n : Int)))) :
    (convert 44 9 (.slice (some ⟨b, 0, none⟩) 1 1)).run Tryd.prog W = .ok (.string ⟨#[UInt8.ofNat (48 + n)]⟩) W := by
  have e : ((UInt8.ofNat (48 + n)).toNat : Int) = 48 + (n : Int) := by rw [toNat_dig h]; omega
  refine run_convert_bytes_back W 44 9 5 ⟨b, 0, none⟩ 1 [UInt8.ofNat (48 + n)] Tryd.underlying44 Tryd.underlying5 Tryd.underlying9 ?_
  intro j hj
  have hj0 : j = 0 := by rw [List.length_singleton] at hj; omega
  subst hj0
  show W.cell? ((⟨b, 0, none⟩ : Addr).add 0) = some (.int .u8 ((UInt8.ofNat (48 + n)).toNat : Int))
  rw [e]; exact hc
set_option maxHeartbeats 400000 in
theorem refText_small (n : Nat) (w : World) (h : n < 10) :
    Calls Tryd.prog 24 #[.int .i64 n] w fun e w' => e = .returned (.string ⟨#[UInt8.ofNat (48 + n)]⟩) ∧ Below w.heap.size w w' := by
  have hr := run_one_byte n h
  obtain ⟨C, hC⟩ : ∃ C : ByteArray, (⟨#[UInt8.ofNat (48 + n)]⟩ : ByteArray) = C := ⟨_, rfl⟩
  rw [hC] at hr ⊢
  clear hC
  go_enter Tryd.func24, Tryd.ntmps24
  go_wp2_with fail
  go_ret
  exact ⟨rfl, (Below.refl _ _).alloc (Nat.le_refl _) _⟩
theorem ret_str {a b : ByteArray} (h : a = b) : Ending.returned (.string a) = Ending.returned (.string b) := by rw [h]
theorem cat_dec (n : Nat) (h : ¬ n < 10) (C D : ByteArray) (hC : (⟨#[UInt8.ofNat (48 + n % 10)]⟩ : ByteArray) = C) (hD : (⟨(Lib.decDigits (n / 10)).toArray⟩ : ByteArray) = D) : D ++ C = ⟨(Lib.decDigits n).toArray⟩ := by
  subst hC hD
  apply Go.WideShapes.bytes_inj
  rw [dec_big h]
  simp
set_option maxHeartbeats 400000 in
theorem refText_any (k : Nat) : ∀ (n : Nat) (w : World), n < 10 ^ (k + 1) → n ≤ 1125899906842624 →
    Calls Tryd.prog 24 #[.int .i64 n] w fun e w' => e = .returned (.string ⟨(Lib.decDigits n).toArray⟩) ∧ Below w.heap.size w w' := by
  induction k with
  | zero =>
    intro n w h _
    have h' : n < 10 := by simpa using h
    rw [dec_small h']; exact refText_small n w h'
  | succ k ih =>
    intro n w h hM
    by_cases h0 : n < 10
    · rw [dec_small h0]; exact refText_small n w h0
    · have hlt : n / 10 < 10 ^ (k + 1) := by rw [Nat.pow_succ] at h; omega
      have hr := fun W b => run_one_byte (n % 10) (Nat.mod_lt _ (by omega)) W b
      have hi := fun w => ih (n / 10) w hlt (by omega)
      have hl := dec_len 17 (n / 10) (by omega)
      clear ih h hlt
      obtain ⟨C, hC⟩ : ∃ C : ByteArray, (⟨#[UInt8.ofNat (48 + n % 10)]⟩ : ByteArray) = C := ⟨_, rfl⟩
      obtain ⟨D, hD⟩ : ∃ D : ByteArray, (⟨(Lib.decDigits (n / 10)).toArray⟩ : ByteArray) = D := ⟨_, rfl⟩
      have hDs : D.size ≤ 18 := by rw [← hD, size_of_list]; exact hl
      have hCs : C.size ≤ 1 := by rw [← hC]; exact Nat.le_refl _
      have HE := Lib.hid (cat_dec n h0 C D hC hD)
      rw [hC] at hr
      rw [hD] at hi
      rw [show ((n % 10 : Nat) : Int) = (n : Int) % 10 by omega] at hr
      rw [show ((n / 10 : Nat) : Int) = (n : Int) / 10 by omega] at hi
      have IH := Lib.hid hi
      clear hi hl hC hD
      have w1 : IntKind.i64.wrap ((n : Int) / 10) = (n : Int) / 10 := IntWalk.i64_in _ (by omega)
      have w2 : IntKind.i64.wrap (48 + (n : Int) % 10) = 48 + (n : Int) % 10 := IntWalk.i64_in _ (by omega)
      have w3 : IntKind.u8.wrap (48 + (n : Int) % 10) = 48 + (n : Int) % 10 := IntWalk.u8_in _ (by omega)
      have w4 : (n : Int).tmod 10 = (n : Int) % 10 := IntWalk.rem_in _ _ (by omega)
      go_enter Tryd.func24, Tryd.ntmps24
      go_wp2_with fail
      go_region_with (go_at_call 24; with_reducible refine (IH.out _).mono ?_; rintro e w1 ⟨rfl, b1⟩; have bc := bcell b1; have bs := b1.size)
      all_goals
        go_wp2_with fail
        go_ret
        first | exact ⟨ret_str HE.out, below_then (Below.drew ((Below.refl _ _).alloc (Nat.le_refl _) _)) b1⟩ | exact ⟨ret_str HE.out, (below_then (Below.drew (Below.refl _ _)) b1).alloc bs _⟩
theorem refText_num (n : Int) (w : World) (h0 : -1125899906842624 ≤ n) (h1 : n ≤ 1125899906842624) :
    Calls Tryd.prog 24 #[.int .i64 n] w fun e w' => e = .returned (.string ⟨(Lib.itoa n).toArray⟩) ∧ Below w.heap.size w w' := by
  by_cases hn : n < 0
  · obtain ⟨u, rfl⟩ : ∃ u : Nat, n = -(u : Int) := ⟨n.natAbs, by omega⟩
    have hi := fun w => refText_any 17 u w (by omega) (by omega)
    have hl := dec_len 17 u (by omega)
    have ea : (-(u : Int)).natAbs = u := by omega
    rw [itoa_neg hn, ea]
    obtain ⟨D, hD⟩ : ∃ D : ByteArray, (⟨(Lib.decDigits u).toArray⟩ : ByteArray) = D := ⟨_, rfl⟩
    have hDs : D.size ≤ 18 := by rw [← hD, size_of_list]; exact hl
    rw [hD] at hi
    have HE : Hid ((⟨#[45]⟩ : ByteArray) ++ D = ⟨((45 : UInt8) :: Lib.decDigits u).toArray⟩) := by
      rw [← hD]
      apply Go.WideShapes.bytes_inj
      simp
    have IH := Lib.hid hi
    clear hi hl hD ea
    go_enter Tryd.func24, Tryd.ntmps24
    go_wp2_with fail
    refine (IH.out _).mono ?_; rintro e w1 ⟨rfl, b1⟩
    go_wp2_with fail
    go_ret
    exact ⟨ret_str HE.out, b1⟩
  · obtain ⟨u, rfl⟩ : ∃ u : Nat, n = (u : Int) := ⟨n.toNat, by omega⟩
    rw [itoa_pos hn, Int.toNat_natCast]
    exact refText_any 17 u w (by omega) (by omega)
end Go.Proofs.YtcgmbgamhlfpcaaDoor
