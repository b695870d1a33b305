/- The contract of package bits' Members. -/
import Derived.Test.YtngpfondnampjaaDoorBitF
namespace Go.Proofs.YtngpfondnampjaaDoor
open Go.RowKit
/- what Members leaves -/
def MemOk (w : World) (l : List Nat) (e : Ending) (w' : World) : Prop := ∃ v, e = .returned (.tuple #[v, .int .i64 0]) ∧ w'.ownsRow w.heap.size 3 1 v l.length (vals l) ∧ Below w.heap.size w w'
theorem members_no (N : Int) (A : Option Addr) (la ca : Nat) (f : Nat → Nat) (w : World) (ha : Wds w A la f) (hv : ¬ Vld N la f) :
    Calls Tryd.prog 71 #[.agg #[.int .i64 N, .slice A la ca]] w fun e w' => e = .returned (.tuple #[.slice none 0 0, .int .i64 1]) ∧ Below w.heap.size w w' := by
  have HA := Lib.hid ha; clear ha
  have HV := Lib.hid hv; clear hv
  have hO := one_new w N A la ca
  go_enter Tryd.func71, Tryd.ntmps71
  go_wp2_with fail
  refine (valid_no _ _ _ _ _ _ (HA.out.below hO.b) HV.out).mono ?_; rintro e w2 ⟨rfl, b2⟩
  go_wp2_with fail
  go_ret2
  exact ⟨rfl, (hO.next b2).b⟩
theorem inner_len (f : Nat → Nat) (K : Nat) (d : List Nat) (x : Nat) (h : d ++ wb x = wb (f K)) : (mem f (64 * K) ++ d.map (64 * K + ·)).length ≤ 64 * K + 64 := by
  have h1 := mem_len_le f (64 * K)
  have h2 : d.length ≤ 64 := by
    have h3 := congrArg List.length h
    have h4 : (wb (f K)).length ≤ 64 := pop_le (f K)
    rw [List.length_append] at h3; omega
  rw [List.length_append, List.length_map]; omega
set_option maxHeartbeats 4000000 in
theorem members_any (N : Nat) (A : Option Addr) (m ca : Nat) (f : Nat → Nat) (w : World) (ha : Wds w A m f) (hv : Vld N m f) (hT : Tab w) :
    Calls Tryd.prog 71 #[.agg #[.int .i64 N, .slice A m ca]] w (MemOk w (mem f (64 * m))) := by
  have h1 := hv.2.1
  have h2 := hv.2.2.1
  simp only [Int.toNat_natCast] at h2
  have hm9 : m ≤ 9 := by omega
  have H2 := Lib.hid h2; clear h2
  have HA := Lib.hid ha; clear ha
  have HV := Lib.hid hv; clear hv
  have hcn := cnt_le f m
  obtain ⟨i0, hi0, hz0, hz1, hz2⟩ := info_parts Tryd.info3
  have hO := one_new w N A m ca
  go_enter Tryd.func71, Tryd.ntmps71
  go_wp2_with fail
  refine (valid_yes _ _ _ _ _ _ (HA.out.below hO.b) HV.out).mono ?_; rintro e w2 ⟨rfl, b2⟩
  have hO2 := hO.next b2
  have c0 := hO2.s.c0
  have c1 := hO2.s.c1
  go_wp2_with fail
  refine (count_yes N A m ca f _ (HA.out.below hO2.b) HV.out).mono ?_; rintro e w3 ⟨rfl, b3⟩
  have hO3 := hO2.next b3
  clear c0 c1 hO2 hO b2 b3
  have c1 := hO3.s.c1
  have hlt3 := hO3.s.lt
  go_wp2_with (refine wpList_make_own _ rfl _ _ 25 rfl (w.heap.size + 1) 3 i0 (.int .i64 0) 1 Tryd.underlying25 hi0 hz0 hz1 .i64 .i64 _ (cnt f m) rfl rfl rfl (by rw [hz2]; omega) (by unfold maxLen; omega) hlt3 ?_)
  intro w4 hown4 hg4
  have b4 : Below w3.heap.size w3 w4 := (Below.refl _ _).grown hg4 (Nat.le_refl _) (fun k hk => by cases hk)
  have hO4 := hO3.next b4
  clear c1 hO3 hlt3 b4 hg4
  have c1 := hO4.s.c1
  go_wp2_with fail
  clear c1
  go_loopw [4, 5, 6, 16] (fun x _ _ i wr => ∃ (K : Nat) (v : Value), K ≤ m ∧ i = .int .i64 K ∧ v = x ∧ wr.ownsRow (w.heap.size + 1) 3 1 v (mem f (64 * K)).length (vals (mem f (64 * K))) ∧ One w wr N A m ca) (fun _ _ _ i _ => m - (intOf i).toNat)
  case atStart => exact ⟨0, _, by omega, rfl, rfl, hown4, hO4⟩
  case round =>
    clear hown4 hO4
    obtain ⟨K, v, hK, rfl, rfl, hown, hO⟩ := hrel
    by_cases hlt : K < m
    · have HA2 := HA.out.below hO.b
      obtain ⟨b, off, rfl, hb, hc⟩ := HA2.2 (by omega)
      have x := hc K hlt
      have hx64 := HA2.1 K hlt
      clear hc HA2
      have hb' : 0 + 1 ≤ w.heap.size := hT.1
      go_wp2_with fail
      go_loopw [4, 6] (fun p q wr => ∃ (y : Nat) (d : List Nat) (v : Value), y < 18446744073709551616 ∧ q = .int .u64 y ∧ Hid (d ++ wb y = wb (f K)) ∧ v = p ∧ wr.ownsRow (w.heap.size + 1) 3 1 v (mem f (64 * K) ++ d.map (64 * K + ·)).length (vals (mem f (64 * K) ++ d.map (64 * K + ·))) ∧ One w wr N (some ⟨b, off, none⟩) m ca) (fun _ q _ => (intOf q).toNat)
      case atStart => exact ⟨f K, [], v, hx64, rfl, rfl, rfl, by simpa using hown, hO⟩
      case round =>
        clear x hown hO
        obtain ⟨y, d, v, hy, rfl, hd, rfl, hown, hO⟩ := hrel
        by_cases h0 : y = 0
        · subst h0
          have hmw : mem f (64 * (K + 1)) = mem f (64 * K) ++ d.map (64 * K + ·) := by
            rw [mem_word]
            have := hd.out
            rw [wb_zero, List.append_nil] at this
            rw [this]
          rw [← hmw] at hown
          clear hmw
          go_wp2_with fail
          go_roundw
          case rel => exact ⟨K + 1, v, by omega, by go_num, rfl, hown, hO⟩
          case measure => simp [intOf]; omega
        · have hl := inner_len f K d y hd.out
          have hne : ((y : Int) == 0) = false := beq_false_of_ne (by omega)
          have hne2 : ((y : Int) != 0) = true := by simp only [bne, hne]; rfl
          have hy1 : 1 ≤ y := by omega
          have hT2 : Hid (Tab wr) := hT.below hO.b
          have hst := wb_step h0 hy
          obtain ⟨c1, _, _⟩ := ctz_spec h0 hy
          have hlow := low_lt h0
          generalize hcc : Lib.ctz 64 y = c at *
          have HCC := Lib.hid hcc; clear hcc
          have HST := Lib.hid hst; clear hst
          have HN0 := Lib.hid h0; clear h0
          have htz : ∀ w, Tab w → Calls Tryd.prog 87 #[.int .u64 (y : Nat)] w fun e w' => e = .returned (.int .i64 (c : Nat)) ∧ w = w' := fun w ht => by have := tz_any y w HN0.out hy ht; rw [HCC.out] at this; exact this
          have HTZ := Lib.hid htz; clear htz
          go_wp2_with fail
          refine (HTZ.out _ hT2.out).mono ?_; rintro e w' ⟨rfl, rfl⟩
          have hsum : (((64 * K + c : Nat) : Int)) = (K : Int) * 64 + (c : Int) := by omega
          have HSUM := Lib.hid hsum; clear hsum
          go_wp2_with (at_builtin; refine append_one rfl (.tmp 23) (.tmp 29) rfl (w.heap.size + 1) v (mem f (64 * K) ++ d.map (64 * K + ·)) _ (64 * K + c) wr rfl hown rfl (by omega) hO.s.lt HSUM.out ?_)
          intro v' w5 hown5 hg5
          have hO5 := one_grown hO hown hg5
          go_wp2_with fail
          refine (withoutLeast_any y _ hy1 hy).mono ?_; rintro e w' ⟨rfl, rfl⟩
          go_wp2_with fail
          go_roundw
          case rel =>
            refine ⟨y &&& (y - 1), d ++ [c], v', by omega, rfl, ?_, rfl, ?_, hO5⟩
            · show d ++ [c] ++ wb (y &&& (y - 1)) = wb (f K)
              rw [List.append_assoc, List.singleton_append, ← HST.out]; exact hd.out
            · have e : mem f (64 * K) ++ (d ++ [c]).map (64 * K + ·) = (mem f (64 * K) ++ d.map (64 * K + ·)) ++ [64 * K + c] := by simp
              rw [e]; simpa using hown5
          case measure => simp [intOf]; omega
    · obtain rfl : K = m := by omega
      go_wp2_with fail
      go_ret2
      exact ⟨v, rfl, own_mono hown (by omega), hO.b⟩
end Go.Proofs.YtngpfondnampjaaDoor
