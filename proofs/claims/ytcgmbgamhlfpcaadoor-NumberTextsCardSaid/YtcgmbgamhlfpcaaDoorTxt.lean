/- The contracts of package number's functions on texts: isIntegerText, Parse, and the examples of the chapter (awake). -/
import Derived.Test.YtcgmbgamhlfpcaaDoorNum
import Derived.Test.YtcgmbgamhlfpcaaDoorShelf
namespace Go.Proofs.YtcgmbgamhlfpcaaDoor
open Go.RowKit
def digB (c : UInt8) : Bool := decide (48 ≤ c.toNat ∧ c.toNat ≤ 57)
def magTxt : List UInt8 → Bool
  | [] => false
  | c :: r => !(c.toNat == 48) && (c :: r).all digB
def intTxt (l : List UInt8) : Bool := (l == [48]) || magTxt (Lib.trimPrefix l [45])
theorem trim_any (s : ByteArray) (w : World) :
    Calls Tryd.prog 40 #[.string s, .string ⟨#[45]⟩] w fun e w' => ∃ d : ByteArray, Hid (d.data.toList = Lib.trimPrefix s.data.toList [45]) ∧ d.size ≤ s.size ∧ e = .returned (.string d) ∧ w = w' :=
  (Tryd.strings_TrimPrefix s ⟨#[45]⟩ w).mono fun e w' ⟨he, hw⟩ => ⟨⟨(Lib.trimPrefix s.data.toList [45]).toArray⟩, rfl, by
    have h := Lib.trimPrefix_le s.data.toList [45]
    have e1 : (⟨(Lib.trimPrefix s.data.toList [45]).toArray⟩ : ByteArray).size = (Lib.trimPrefix s.data.toList [45]).length := rfl
    have e2 : s.data.toList.length = s.size := Array.length_toList
    omega, he, hw.symm⟩
theorem mem_list (d : ByteArray) (k : Nat) (h : k < d.size) : d[k] ∈ d.data.toList := by
  have h' : k < d.data.toList.length := by rw [← Lib.size_eq]; exact h
  have e : d.data.toList[k] = d[k] := rfl
  rw [← e]; exact List.getElem_mem h'
theorem head_any : ∀ (l : List UInt8) (h : 0 < l.length), ∃ r, l = l[0] :: r
  | _ :: r, _ => ⟨r, rfl⟩
theorem head_list (d : ByteArray) (hp : 0 < d.size) : ∃ r, d.data.toList = d[0] :: r :=
  head_any d.data.toList (by rw [← Lib.size_eq]; exact hp)
theorem take_list (d : ByteArray) (k : Nat) (h : k < d.size) : d.data.toList.take (k + 1) = d.data.toList.take k ++ [d[k]] := by
  rw [List.take_succ_eq_append_getElem (by rw [← Lib.size_eq]; exact h)]; rfl
theorem magTxt_lead {d : ByteArray} (hp : 0 < d.size) (h1 : ((d[0].toNat : Int) == 48) = true) : magTxt d.data.toList = false := by
  obtain ⟨r, hr⟩ := head_list d hp
  rw [hr]
  have : d[0].toNat = 48 := by have := eq_of_beq h1; omega
  simp [magTxt, this]
theorem magTxt_bad {d : ByteArray} {k : Nat} (hk : k < d.size) (h : digB d[k] = false) : magTxt d.data.toList = false := by
  have hm := mem_list d k hk
  obtain ⟨r, hr⟩ := head_list d (by omega)
  rw [hr] at hm ⊢
  have : (d[0] :: r).all digB = false := by
    rw [List.all_eq_false]; exact ⟨_, hm, by simp [h]⟩
  show (!(d[0].toNat == 48) && (d[0] :: r).all digB) = false
  rw [this, Bool.and_false]
theorem magTxt_good {d : ByteArray} (hp : 0 < d.size) (h1 : ((d[0].toNat : Int) == 48) = false) (h : ∀ c ∈ d.data.toList.take d.size, digB c = true) : magTxt d.data.toList = true := by
  rw [List.take_of_length_le (by rw [Lib.size_eq]; exact Nat.le_refl _)] at h
  obtain ⟨r, hr⟩ := head_list d hp
  rw [hr] at h ⊢
  have e1 : (d[0] :: r).all digB = true := List.all_eq_true.2 h
  have e2 : (d[0].toNat == 48) = false := by
    have := ne_of_beq_false h1
    exact beq_false_of_ne (by omega)
  show (!(d[0].toNat == 48) && (d[0] :: r).all digB) = true
  rw [e1, e2]; rfl
theorem dig_low {c : UInt8} (h : decide ((c.toNat : Int) < 48) = true) : digB c = false := by
  have := of_decide_eq_true h
  exact decide_eq_false (by omega)
theorem dig_high {c : UInt8} (h : decide (57 < (c.toNat : Int)) = true) : digB c = false := by
  have := of_decide_eq_true h
  exact decide_eq_false (by omega)
theorem dig_in {c : UInt8} (h1 : decide ((c.toNat : Int) < 48) = false) (h2 : decide (57 < (c.toNat : Int)) = false) : digB c = true := by
  have := of_decide_eq_false h1
  have := of_decide_eq_false h2
  exact decide_eq_true (by omega)
theorem ret_bool {a b : Bool} (h : a = b) : Ending.returned (.bool a) = Ending.returned (.bool b) := by rw [h]
set_option maxHeartbeats 400000 in
theorem intText_any (s : ByteArray) (w : World) (hs : s.size ≤ 200) :
    Calls Tryd.prog 35 #[.string s] w fun e w' => e = .returned (.bool (intTxt s.data.toList)) ∧ w = w' := by
  cases hz : s.toList == [48]
  · have HZ : Hid (intTxt s.data.toList = magTxt (Lib.trimPrefix s.data.toList [45])) := by unfold intTxt Hid; rw [← Lib.toList_data, hz, Bool.false_or]
    go_enter Tryd.func35, Tryd.ntmps35
    go_wp2_with fail
    refine (trim_any _ _).mono ?_; rintro e w' ⟨d, hd, hl, rfl, rfl⟩
    by_cases h0 : d.size = 0
    · have hn : d.data.toList = [] := List.length_eq_zero_iff.1 (by rw [← Lib.size_eq]; exact h0)
      have he : d.toList = [] := by rw [Lib.toList_data]; exact hn
      have HN := Lib.hid hn
      clear hn
      go_wp2
      go_ret
      exact ⟨ret_bool (by rw [HZ.out, ← hd.out, HN.out]; rfl), rfl⟩
    · have hp : 0 < d.size := by omega
      have he : d.toList.isEmpty = false := by
        obtain ⟨r, hr⟩ := head_list d hp
        rw [Lib.toList_data, hr]; rfl
      cases h1 : ((d[0].toNat : Int) == 48)
      · go_wp2
        go_loop [18] (fun i => ∃ k : Nat, k ≤ d.size ∧ i = .int .i64 k ∧ Hid (∀ c ∈ d.data.toList.take k, digB c = true)) (fun i => d.size - (intOf i).toNat)
        case atStart => exact ⟨0, by omega, rfl, fun c hc => by simp at hc⟩
        case round =>
          obtain ⟨k, hk, rfl, hH⟩ := hrel
          by_cases hlt : k < d.size
          · cases hd1 : decide ((d[k].toNat : Int) < 48)
            · cases hd2 : decide (57 < (d[k].toNat : Int))
              · have hX : Hid (∀ c ∈ d.data.toList.take (k + 1), digB c = true) := by
                  intro c hc
                  rw [take_list d k hlt] at hc
                  rcases List.mem_append.1 hc with hc | hc
                  · exact hH.out c hc
                  · rw [List.mem_singleton.1 hc]; exact dig_in hd1 hd2
                go_wp2
                go_round
                case rel => exact ⟨k + 1, by omega, by go_num, hX⟩
                case measure => simp [intOf]; omega
              · have HB := Lib.hid (magTxt_bad hlt (dig_high hd2))
                go_wp2
                go_ret
                exact ⟨ret_bool (by rw [HZ.out, ← hd.out, HB.out]), rfl⟩
            · have HB := Lib.hid (magTxt_bad hlt (dig_low hd1))
              go_wp2
              go_ret
              exact ⟨ret_bool (by rw [HZ.out, ← hd.out, HB.out]), rfl⟩
          · obtain rfl : k = d.size := by omega
            have HB := Lib.hid (magTxt_good hp h1 hH.out)
            go_wp2
            go_ret
            exact ⟨ret_bool (by rw [HZ.out, ← hd.out, HB.out]), rfl⟩
      · have HB := Lib.hid (magTxt_lead hp h1)
        go_wp2
        go_ret
        exact ⟨ret_bool (by rw [HZ.out, ← hd.out, HB.out]), rfl⟩
  · have HZ : Hid (intTxt s.data.toList = true) := by unfold intTxt Hid; rw [← Lib.toList_data, hz, Bool.true_or]
    go_enter Tryd.func35, Tryd.ntmps35
    go_wp2_with fail
    go_ret
    exact ⟨ret_bool HZ.out.symm, rfl⟩
theorem parse_full (s : ByteArray) (w : World) (h : 100 < s.size) (hs : s.size ≤ 9223372036854775807) :
    Calls Tryd.prog 25 #[.string s] w fun e w' => e = .returned (.tuple #[.int .i64 0, .int .i64 5]) ∧ w = w' := by
  go_enter Tryd.func25, Tryd.ntmps25
  go_wp2
  go_ret2
  exact ⟨rfl, rfl⟩
/- what Atoi does to the world -/
theorem atoi_ok (s : ByteArray) (w : World) (hs : s.size ≤ 100) (v : Int) (h : Lib.atoiAll s.data.toList = .ok v) :
    Calls Tryd.prog 34 #[.string s] w fun e w' => e = .returned (.tuple #[.int .i64 v, .nilIface]) ∧ Below w.heap.size w w' :=
  (Tryd.strconv_Atoi_ok s (by omega) v h w).mono fun e w' ⟨he, hw⟩ => ⟨he, by
    rcases hw with rfl | ⟨t, rfl⟩
    · exact Below.refl _ _
    · exact Lib.bytesWorld_below _ _ _⟩
set_option maxHeartbeats 400000 in
theorem parse_ok (s : ByteArray) (w : World) (hs : s.size ≤ 100) (v : Int) (h : Lib.atoiAll s.data.toList = .ok v) (hi : intTxt s.data.toList = true) (h0 : -1125899906842624 ≤ v) (h1 : v ≤ 1125899906842624) :
    Calls Tryd.prog 25 #[.string s] w fun e w' => e = .returned (.tuple #[.int .i64 v, .int .i64 0]) ∧ Below w.heap.size w w' := by
  have H := Lib.hid h; clear h
  have HI := Lib.hid hi; clear hi
  go_enter Tryd.func25, Tryd.ntmps25
  go_wp2_with fail
  refine (atoi_ok _ _ hs v H.out).mono ?_; rintro e w1 ⟨rfl, hb⟩
  go_wp2_with fail
  refine (intText_any _ _ (by omega)).mono ?_; rintro e w1 ⟨rfl, rfl⟩
  rw [HI.out]
  go_wp2_with fail
  refine (isNum_yes _ _ h0 h1).mono ?_; rintro e w1 ⟨rfl, rfl⟩
  go_wp2
  go_ret2
  exact ⟨rfl, hb⟩
set_option maxHeartbeats 400000 in
theorem parse_big (s : ByteArray) (w : World) (hs : s.size ≤ 100) (v : Int) (h : Lib.atoiAll s.data.toList = .ok v) (hi : intTxt s.data.toList = true) (h0 : v < -1125899906842624 ∨ 1125899906842624 < v) :
    Calls Tryd.prog 25 #[.string s] w fun e w' => e = .returned (.tuple #[.int .i64 0, .int .i64 9]) ∧ Below w.heap.size w w' := by
  have H := Lib.hid h; clear h
  have HI := Lib.hid hi; clear hi
  have H0 := Lib.hid h0; clear h0
  go_enter Tryd.func25, Tryd.ntmps25
  go_wp2_with fail
  refine (atoi_ok _ _ hs v H.out).mono ?_; rintro e w1 ⟨rfl, hb⟩
  go_wp2_with fail
  refine (intText_any _ _ (by omega)).mono ?_; rintro e w1 ⟨rfl, rfl⟩
  rw [HI.out]
  go_wp2_with fail
  refine (isNum_no _ _ H0.out).mono ?_; rintro e w1 ⟨rfl, rfl⟩
  go_wp2
  go_ret2
  exact ⟨rfl, hb⟩
/- the worlds of one call, one behind the other -/
theorem below_drewN (w : World) (n : Nat) : Below w.heap.size w (w.drewN n) :=
  ⟨rfl, rfl, rfl, Nat.le_refl _, fun _ _ => rfl⟩
theorem below_then {w a b : World} (h1 : Below w.heap.size w a) (h2 : Below a.heap.size a b) : Below w.heap.size w b :=
  h1.trans (h2.mono h1.size)
theorem lit_max : Lib.atoiAll [49, 49, 50, 53, 56, 57, 57, 57, 48, 54, 56, 52, 50, 54, 50, 52] = .ok 1125899906842624 := by decide
theorem lit_over : Lib.atoiAll [49, 49, 50, 53, 56, 57, 57, 57, 48, 54, 56, 52, 50, 54, 50, 53] = .ok 1125899906842625 := by decide
theorem awake_any (w : World) : Calls Tryd.prog 10 #[] w fun e w' => e = .returned (.bool true) ∧ Below w.heap.size w w' := by
  go_enter Tryd.func10, Tryd.ntmps10
  go_wp2_with fail
  refine (floor_ok (-7) 2 _ (by omega) (by omega) (by omega)).mono ?_; rintro e w1 ⟨rfl, n1, hw1⟩
  have b1 : Below w.heap.size w w1 := by rw [hw1]; exact below_drewN _ _
  clear hw1
  go_wp2_with fail
  refine (choose_ok 3 2 _ (by omega) (by decide)).mono ?_; rintro e w2 ⟨rfl, rfl⟩
  go_wp2_with fail
  refine (gcd_ok (-12) 18 _ (by omega) (by omega)).mono ?_; rintro e w3 ⟨rfl, n3, hw3⟩
  have b3 : Below w.heap.size w w3 := by rw [hw3]; exact below_then b1 (below_drewN _ _)
  clear hw3
  go_wp2_with fail
  refine (parse_ok _ _ (by decide) _ lit_max (by decide) (by omega) (by omega)).mono ?_; rintro e w4 ⟨rfl, hb4⟩
  have b4 := below_then b3 hb4
  go_wp2_with fail
  refine (parse_big _ _ (by decide) _ lit_over (by decide) (by omega)).mono ?_; rintro e w5 ⟨rfl, hb5⟩
  have b5 := below_then b4 hb5
  go_wp2
  go_ret
  exact ⟨rfl, b5⟩
theorem floor_at (a b q : Int) (w : World) (ha : -1125899906842624 ≤ a ∧ a ≤ 1125899906842624) (hb : -1125899906842624 ≤ b ∧ b ≤ 1125899906842624) (hb0 : b ≠ 0) (hq : a.fdiv b = q) :
    Calls Tryd.prog 17 #[.int .i64 a, .int .i64 b] w fun e w' => e = .returned (.tuple #[.int .i64 q, .int .i64 0]) ∧ Below w.heap.size w w' := by
  subst hq
  exact (floor_ok a b w ha hb hb0).mono fun e w' ⟨he, n, hw⟩ => ⟨he, by rw [hw]; exact below_drewN _ _⟩
theorem gcd_at (a b G : Int) (w : World) (ha : -1125899906842624 ≤ a ∧ a ≤ 1125899906842624) (hb : -1125899906842624 ≤ b ∧ b ≤ 1125899906842624) (hG : (Int.gcd a b : Int) = G) :
    Calls Tryd.prog 18 #[.int .i64 a, .int .i64 b] w fun e w' => e = .returned (.tuple #[.int .i64 G, .int .i64 0]) ∧ Below w.heap.size w w' := by
  subst hG
  exact (gcd_ok a b w ha hb).mono fun e w' ⟨he, n, hw⟩ => ⟨he, by rw [hw]; exact below_drewN _ _⟩
theorem below_same {w w' : World} (h : w = w') : Below w.heap.size w w' := by subst h; exact Below.refl _ _
end Go.Proofs.YtcgmbgamhlfpcaaDoor
