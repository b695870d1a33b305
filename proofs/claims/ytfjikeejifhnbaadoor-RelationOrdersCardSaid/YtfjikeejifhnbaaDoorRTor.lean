/- The reference's Order of a table. -/
import Derived.Test.YtfjikeejifhnbaaDoorRTre
import Derived.Test.YtfjikeejifhnbaaDoorLEiM
import Derived.Test.YtfjikeejifhnbaaDoorRFrom
namespace Go.Proofs.YtfjikeejifhnbaaDoor
open Go.RowKit
/- a number is free as far as the first D numbers say -/
def frp (T : Nat → Nat → Bool) (o : List Nat) (i D : Nat) : Bool := !o.contains i && (List.range D).all fun k => !T k i || o.contains k
theorem frp_succ (T : Nat → Nat → Bool) (o : List Nat) (i D : Nat) : frp T o i (D + 1) = (frp T o i D && (!T D i || o.contains D)) := by
  unfold frp; rw [List.range_succ, List.all_append]; simp [Bool.and_assoc]
theorem frp_all (T : Nat → Nat → Bool) (n : Nat) (o : List Nat) (i : Nat) : frp T o i n = freeOf T n o i := rfl
set_option maxRecDepth 100000 in
set_option maxHeartbeats 8000000 in
theorem refOrder_any (v0 : Value) (n : Nat) (B0 C0 : Nat → Nat) (T : Nat → Nat → Bool) (r : List Nat) (w : World) (h : BTab w 0 v0 n n B0 C0 T) (hn : n ≤ 512) (ho : orderOf n T = some r) :
    Calls Tryd.prog 34 #[v0] w fun e w' => ∃ v, e = .returned v ∧ w'.ownsRow w.heap.size 3 1 v r.length (vals r) ∧ Below w.heap.size w w' := by
  obtain ⟨A, c, rfl⟩ := h.form
  have HH := Lib.hid h; clear h
  have hmk := make_bools n (by omega)
  have hO : Hid (Topo T n [] ∧ topo T n n [] = some r) := ⟨topo_nil T n, ho⟩
  clear ho
  have hP0 := (World.rowIs_made w (.bool false) n 4).congr (g := fun x => .bool (([] : List Nat).contains x)) (fun _ _ => rfl)
  have b0 : Below w.heap.size w (w.alloc (.cells (madeCells #[.bool false] n) 4)) := (Below.refl _ _).alloc (Nat.le_refl _) _
  go_enter Tryd.func34, Tryd.ntmps34
  go_wp2_with fail
  clear hmk
  go_loopw [5, 6, 7, 8] (fun x _ _ _ wr => ∃ (o : List Nat) (k : Nat) (v : Value), v = x ∧ Hid (Topo T n o ∧ topo T n k o = some r) ∧ o.length + k = n ∧ wr.rowIs w.heap.size 4 n (fun x => .bool (o.contains x)) ∧ wr.ownsRow (w.heap.size + 1) 3 1 v o.length (vals o) ∧ Below w.heap.size w wr) (fun x _ _ _ _ => n - slen x)
  case atStart => exact ⟨[], n, _, rfl, hO, by simp, hP0, World.ownsRow_nil _ _ _ _, b0⟩
  case round =>
    clear hO hP0 b0
    obtain ⟨o, k, v, rfl, hO, hlk, hP, hown, hB⟩ := hrel
    obtain ⟨Ao, co, rfl, _⟩ := own_ints hown
    obtain ⟨L, hL⟩ : ∃ L, L = o.length := ⟨_, rfl⟩
    have HL := Lib.hid hL
    rw [← hL] at hown hlk ⊢
    clear hL
    by_cases hlt : L < n
    · obtain ⟨k', hk'⟩ : ∃ k', k = k' + 1 := ⟨k - 1, by omega⟩
      subst hk'
      obtain ⟨j, hj, hO2⟩ : ∃ j, nextOf T n o = some j ∧ topo T n k' (o ++ [j]) = some r := by
        have := hO.out.2
        unfold topo at this
        cases e : nextOf T n o with
        | none => rw [e] at this; cases this
        | some j => rw [e] at this; exact ⟨j, rfl, this⟩
      have hO3 : Hid (Topo T n (o ++ [j]) ∧ topo T n k' (o ++ [j]) = some r) := ⟨hO.out.1.step hj, hO2⟩
      obtain ⟨hjn, hjf, hjm⟩ := find_range_some.1 hj
      have hFF : Hid (freeOf T n o j = true ∧ ∀ i, i < j → freeOf T n o i = false) := ⟨hjf, hjm⟩
      clear hO hO2 hj hjf hjm
      obtain ⟨W9, rfl⟩ : ∃ W9, W9 = wr := ⟨_, rfl⟩
      go_wp2_with fail
      go_loopw [5, 6, 7, 8] (fun x i _ _ w2 => ∃ I : Nat, x = .slice Ao L co ∧ i = .int .i64 I ∧ I ≤ j ∧ Below W9.heap.size W9 w2) (fun _ i _ _ _ => n - (intOf i).toNat)
      case atStart => exact ⟨0, rfl, rfl, by omega, Below.refl _ _⟩
      case round =>
        obtain ⟨I, rfl, rfl, hI, hC⟩ := hrel
        have hIn : I < n := by omega
        have d0 := (row_below hP hC).cell hIn
        have hd : Hid ((!o.contains I) = frp T o I 0) := by show (!o.contains I) = frp T o I 0; simp [frp]
        replace d0 : wr.cell? ⟨w.heap.size, I, none⟩ = some (.bool (o.contains I)) := d0
        generalize o.contains I = dI at d0 hd
        go_wp2_with fail
        clear d0
        obtain ⟨W10, rfl⟩ : ∃ W10, W10 = wr := ⟨_, rfl⟩
        go_loopw [7, 8] (fun f k w2 => ∃ D : Nat, D ≤ n ∧ k = .int .i64 D ∧ f = .bool (frp T o I D) ∧ Below W9.heap.size W9 w2) (fun _ k _ => n - (intOf k).toNat)
        case atStart => exact ⟨0, by omega, rfl, by rw [hd.out], hC⟩
        case round =>
          clear hC
          obtain ⟨D, hD, rfl, rfl, hC⟩ := hrel
          by_cases hlD : D < n
          · have HB := HH.out.below (below_next hB hC)
            obtain ⟨gT, rfl, _, y0⟩ := HB.cell hlD
            have y1 := (HB.r D hlD).cell hIn
            have d0 := (row_below hP hC).cell hlD
            replace d0 : wr.cell? ⟨w.heap.size, D, none⟩ = some (.bool (o.contains D)) := d0
            have hs := frp_succ T o I D
            have HS := Lib.hid hs
            clear HB hs
            generalize hq : frp T o I D = q at *
            clear hq
            cases hT : T D I
            · rw [hT] at y1
              have HTT := Lib.hid hT
              clear hT
              go_wp2_with fail
              go_roundw
              case rel => exact ⟨D + 1, by omega, by go_num, by rw [HS.out, HTT.out]; simp, hC⟩
              case measure => simp [intOf]; omega
            · rw [hT] at y1
              have HTT := Lib.hid hT
              clear hT
              cases hc : o.contains D
              · rw [hc] at d0
                have HCC := Lib.hid hc
                clear hc
                go_wp2_with fail
                go_roundw
                case rel => exact ⟨D + 1, by omega, by go_num, by rw [HS.out, HTT.out, HCC.out]; simp, hC⟩
                case measure => simp [intOf]; omega
              · rw [hc] at d0
                have HCC := Lib.hid hc
                clear hc
                go_wp2_with fail
                go_roundw
                case rel => exact ⟨D + 1, by omega, by go_num, by rw [HS.out, HTT.out, HCC.out]; simp, hC⟩
                case measure => simp [intOf]; omega
          · obtain rfl : D = n := by omega
            by_cases hIj : I < j
            · have hfr : frp T o I D = false := hFF.out.2 I hIj
              rw [hfr]
              clear hfr
              go_wp2_with fail
              go_roundw
              case rel => exact ⟨I + 1, rfl, by go_num, by omega, hC⟩
              case measure => simp [intOf]; omega
            · obtain rfl : I = j := by omega
              have hfr : frp T o I D = true := hFF.out.1
              rw [hfr]
              clear hfr
              have hPw := row_below hP hC
              have z0 := hPw.cell hIn
              have z1 := hPw.frozen I
              have hownw := own_below hown hC
              have hBw := below_next hB hC
              have hL := HL.out
              subst hL
              clear hP hown hB hC hd
              generalize hy : (Value.bool (o.contains I)) = yv at z0
              have hownS : (wr.setCell ⟨w.heap.size, I, none⟩ (.bool true)).ownsRow (w.heap.size + 1) 3 1 (.slice Ao o.length co) o.length (vals o) := hownw.kept (grown_setCell wr _ _) (Or.inr (fun e => by have h9 : w.heap.size + 1 ≤ w.heap.size := (hownw.lt _ e).1; omega))
              have hsz : (wr.setCell ⟨w.heap.size, I, none⟩ (.bool true)).heap.size = wr.heap.size := World.size_setCell _ _ _
              have bP : Below (wr.setCell ⟨w.heap.size, I, none⟩ (.bool true)).heap.size (wr.setCell ⟨w.heap.size, I, none⟩ (.bool true)) ((wr.setCell ⟨w.heap.size, I, none⟩ (.bool true)).alloc (.cells #[.int .i64 (I : Int)] 3)) := (Below.refl _ _).alloc (Nat.le_refl _) _
              have hownA := own_below hownS bP
              have hnew : ((wr.setCell ⟨w.heap.size, I, none⟩ (.bool true)).alloc (.cells #[.int .i64 (I : Int)] 3)).heap[wr.heap.size]? = some (.cells #[.int .i64 (I : Int)] 3 (0, 0)) := by
                have := heap_alloc_new (wr.setCell ⟨w.heap.size, I, none⟩ (.bool true)) (.cells #[.int .i64 (I : Int)] 3)
                rwa [hsz] at this
              have hPS := (hPw.set I (.bool true)).congr (g := fun x => .bool ((o ++ [I]).contains x)) (fun x _ => by
                by_cases e : x = I
                · rw [if_pos e, e]; simp
                · rw [if_neg e]; simp [e])
              have BS := hBw.setCell (p := ⟨w.heap.size, I, none⟩) (Nat.le_refl _) (.bool true)
              have hws : w.heap.size + 1 ≤ wr.heap.size := by have := hPw.lt; omega
              go_wp2_with (at_builtin; refine append_nat rfl (.tmp 50) (.tmp 52) rfl (w.heap.size + 1) (.slice Ao o.length co) o I I _ rfl hownA wr.heap.size rfl hnew rfl (by omega) (by simp; omega) ?_)
              intro g cap w5 hown5 hg5 _
              have B5 := grown_below2 (below_next BS bP) hownA (by omega) hg5
              have hP5 := row_grown (row_below hPS bP) hownA (by decide) hg5
              clear hPw z0 z1 hownw hBw hownS bP hownA hnew hPS BS
              go_wp2_with fail
              go_roundw
              case rel => exact ⟨o ++ [I], k', _, rfl, hO3, by rw [List.length_append]; simp; omega, hP5, by rw [List.length_append]; exact hown5, B5⟩
              case measure => simp [slen]; omega
    · obtain rfl : k = 0 := by omega
      have hL := HL.out
      subst hL
      obtain rfl : o = r := Option.some.inj hO.out.2
      go_wp2_with fail
      go_ret
      exact ⟨_, rfl, own_mono hown (by omega), hB⟩
end Go.Proofs.YtfjikeejifhnbaaDoor
