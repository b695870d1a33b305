/- The reference's Closure, Acyclic and Reduction of a table. -/
import Derived.Test.YtfjikeejifhnbaaDoorRTco
namespace Go.Proofs.YtfjikeejifhnbaaDoor
open Go.RowKit
theorem wstep_row (C : Nat → Nat → Bool) (k i a j : Nat) (h : C i k = false) : wstep C k i a j = C a j := by
  unfold wstep; rw [if_neg (fun e => by rw [h] at e; cases e.2)]
/- row I of the table while it takes in row K, its first D columns done -/
def wpart (C : Nat → Nat → Bool) (K I D a x : Nat) : Bool := if a = I ∧ x < D then C I x || C K x else C a x
set_option maxRecDepth 100000 in
set_option maxHeartbeats 8000000 in
theorem refClosure_any (v0 : Value) (n : Nat) (B0 C0 : Nat → Nat) (T : Nat → Nat → Bool) (w : World) (h : BTab w 0 v0 n n B0 C0 T) (hn : n ≤ 512) :
    Calls Tryd.prog 25 #[v0] w (TabOk w n (clo n T)) := by
  obtain ⟨A, c, rfl⟩ := h.form
  have HH := Lib.hid h; clear h
  obtain ⟨i4, hi, hz, hs, hby⟩ := info_parts Tryd.info4
  go_enter Tryd.func25, Tryd.ntmps25
  go_wp2_with fail
  go_loopw [4, 5] (fun x i wr => ∃ (K : Nat) (v : Value) (B C : Nat → Nat), v = x ∧ i = .int .i64 K ∧ K ≤ n ∧ BTab wr w.heap.size v K n B C T ∧ Below w.heap.size w wr) (fun _ i _ => n - (intOf i).toNat)
  case atStart => exact ⟨0, _, fun _ => 0, fun _ => 0, rfl, rfl, by omega, ⟨World.ownsRow_nil _ _ _ _, fun i hi => absurd hi (Nat.not_lt_zero _), fun i _ hi => absurd hi (Nat.not_lt_zero _)⟩, Below.refl _ _⟩
  case round =>
    obtain ⟨K, v, B, C, rfl, rfl, hK, hBT, hB⟩ := hrel
    by_cases hlt : K < n
    · have HB := HH.out.below hB
      obtain ⟨gT, rfl, hgl, y0⟩ := HB.cell hlt
      have hyr := HB.r K hlt
      have hyc : Hid (∀ j, j < n → wr.cell? ⟨B0 K, j, none⟩ = some (.bool (T K j))) := fun j hj => hyr.cell hj
      have hyl := hyr.lt.2
      clear HB hyr
      have bA : Below wr.heap.size wr (wr.alloc (.cells #[] 4)) := (Below.refl _ _).alloc (Nat.le_refl _) _
      have y0' := (bA.cell (p := ⟨gT, K, none⟩) hgl).trans y0
      go_wp2_with (at_builtin; refine wpList_append_lies _ rfl (.tmp 17) (.tmp 21) 57 rfl wr.heap.size 4 i4 _ 1 1 Tryd.underlying57 hi hz hs hby rfl (by decide) _ 0 [] rfl (World.ownsRow_made wr #[] 0 (Nat.le_refl _) (Nat.zero_le _) rfl) ⟨B0 K, 0, none⟩ n (C0 K) (bvals (T K) n) rfl ?q1 ?q2 ?q3 ?q4 ?q5 ?q6 ?q7 _ rfl ?_)
      case q1 => rw [bvals_len, Nat.mul_one]
      case q2 =>
        intro j u hj
        have hjl : j < n := by
          have := (List.getElem?_eq_some_iff.1 hj).1
          rwa [bvals_len] at this
        have hadd : (⟨B0 K, 0, none⟩ : Addr).add j = ⟨B0 K, j, none⟩ := by unfold Addr.add; split <;> simp_all
        rw [hadd, World.cell?_alloc_past _ _ _ hyl, hyc.out j hjl]
        rw [bvals_get hjl] at hj; exact hj
      case q3 =>
        intro u hu
        obtain ⟨x, _, rfl⟩ := List.mem_map.1 hu
        rfl
      case q4 => omega
      case q5 => unfold maxLen; omega
      case q6 => omega
      case q7 => simp
      intro g cap w1 hown hgrow hat hgl1
      try simp only [Nat.zero_add] at hown
      try simp only [Nat.zero_add]
      have b1 : Below wr.heap.size wr w1 := bA.grown hgrow (by simp) (by intro k hk; simp [Value.ownBlock] at hk; omega)
      have hgg : wr.heap.size ≤ g := by
        rcases hat with h | h
        · simp [Value.ownBlock] at h; omega
        · rw [h]; simp
      have hrow : BRow w1 w.heap.size g n cap (T K) := own_mono (by simpa using hown) hB.size
      have hBT1 := hBT.below b1
      have B1 := below_next hB b1
      have hfresh : ∀ i, i < K → B i ≠ g := fun i hi e => by have := (hBT.r i hi).lt.2; omega
      have hbase : w.heap.size ≤ w1.heap.size := B1.size
      clear hown hgrow hat hBT hB b1 bA y0 y0' hgl
      go_wp2_with (at_builtin; refine append_brow rfl (.tmp 16) (.tmp 23) rfl w.heap.size v K n g cap B C T (T K) w1 rfl hBT1 hrow rfl (by omega) hbase hfresh ?_)
      intro g' cap' w5 hBT5 hg5
      have bP : Below w1.heap.size w1 (w1.alloc (.cells #[.slice (some ⟨g, 0, none⟩) n cap] 57)) := (Below.refl _ _).alloc (Nat.le_refl _) _
      have hownA := own_below hBT1.o bP
      have B5 := grown_below2 (below_next B1 bP) hownA (by omega) hg5
      go_wp2_with fail
      go_roundw
      case rel =>
        refine ⟨K + 1, _, _, _, rfl, by go_num, by omega, hBT5.congr (fun i hi j hj => ?_), B5⟩
        by_cases e : i = K
        · rw [if_pos e, e]
        · rw [if_neg e]
      case measure => simp [intOf]; omega
    · obtain rfl : K = n := by omega
      obtain ⟨W0, rfl⟩ : ∃ W0, W0 = wr := ⟨_, rfl⟩
      go_wp2_with fail
      go_loopw [6, 7, 8] (fun k _ _ wr => ∃ I : Nat, I ≤ K ∧ k = .int .i64 I ∧ BTab wr w.heap.size v K K B C (wouter T K I) ∧ Below w.heap.size w wr) (fun k _ _ _ => K - (intOf k).toNat)
      case atStart => exact ⟨0, by omega, rfl, hBT, hB⟩
      case round =>
        clear hBT hB
        obtain ⟨k, hk, rfl, hBT, hB⟩ := hrel
        by_cases hlk : k < K
        · go_wp2_with fail
          generalize hW : wouter T K k = Z at *
          have HW := Lib.hid hW
          clear hW
          go_loopw [7, 8] (fun i _ wr => ∃ I : Nat, I ≤ K ∧ i = .int .i64 I ∧ BTab wr w.heap.size v K K B C (winner Z k I) ∧ Below w.heap.size w wr) (fun i _ _ => K - (intOf i).toNat)
          case atStart => exact ⟨0, by omega, rfl, hBT, hB⟩
          case round =>
            clear hBT hB
            obtain ⟨I, hI, rfl, hBT, hB⟩ := hrel
            by_cases hli : I < K
            · generalize hX : winner Z k I = X at *
              have HX := Lib.hid hX
              clear hX
              obtain ⟨Av, cv, rfl⟩ := hBT.form
              obtain ⟨gv, rfl, _, y0⟩ := hBT.cell hli
              have y1 := (hBT.r I hli).cell hlk
              by_cases hT : X I k = true
              · rw [hT] at y1
                have hBT' := hBT.congr (S := wpart X k I 0) (fun a _ x _ => by unfold wpart; rw [if_neg (fun h => Nat.not_lt_zero _ h.2)])
                have HTT := Lib.hid hT
                clear hT
                go_wp2_with fail
                clear y0 y1
                go_loopw [8] (fun j wr => ∃ D : Nat, D ≤ K ∧ j = .int .i64 D ∧ BTab wr w.heap.size (.slice (some ⟨gv, 0, none⟩) K cv) K K B C (wpart X k I D) ∧ Below w.heap.size w wr) (fun j _ => K - (intOf j).toNat)
                case atStart => exact ⟨0, by omega, rfl, hBT', hB⟩
                case round =>
                  clear hBT hBT' hB
                  obtain ⟨D, hD, rfl, hBT, hB⟩ := hrel
                  by_cases hlj : D < K
                  · obtain ⟨gw, e, _, y0⟩ := hBT.cell hlk
                    injection e with e
                    injection e with e
                    subst e
                    have y1 := (hBT.r k hlk).cell hlj
                    obtain ⟨gw, e, _, z0⟩ := hBT.cell hli
                    injection e with e
                    injection e with e
                    subst e
                    have z1 := (hBT.r I hli).cell hlj
                    have z2 := (hBT.r I hli).frozen D
                    have hkd : wpart X k I D k D = X k D := by unfold wpart; rw [if_neg (fun h => Nat.lt_irrefl _ h.2)]
                    rw [hkd] at y1
                    clear hkd
                    have hlo : w.heap.size ≤ B I := (hBT.r I hli).lt.1
                    by_cases hS : X k D = true
                    · rw [hS] at y1
                      have HSS := Lib.hid hS
                      clear hS
                      generalize wpart X k I D I D = yy at z1
                      go_wp2_with fail
                      go_roundw
                      case rel =>
                        refine ⟨D + 1, by omega, by go_num, (hBT.set hli D true).congr (fun a _ x _ => ?_), hB.setCell (p := ⟨B I, D, none⟩) hlo _⟩
                        unfold wpart
                        by_cases ha : a = I
                        · by_cases hx : x = D
                          · rw [if_pos ⟨ha, hx⟩, if_pos ⟨ha, by omega⟩, hx, HSS.out]; simp
                          · rw [if_neg (fun h => hx h.2)]
                            by_cases hx2 : x < D
                            · rw [if_pos ⟨ha, hx2⟩, if_pos ⟨ha, by omega⟩]
                            · rw [if_neg (fun h => hx2 h.2), if_neg (fun h => by omega)]
                        · rw [if_neg (fun h => ha h.1), if_neg (fun h => ha h.1), if_neg (fun h => ha h.1)]
                      case measure => simp [intOf]; omega
                    · have hS2 : X k D = false := by simpa using hS
                      rw [hS2] at y1
                      have HSS := Lib.hid hS2
                      clear hS hS2 z0 z1 z2
                      go_wp2_with fail
                      go_roundw
                      case rel =>
                        refine ⟨D + 1, by omega, by go_num, hBT.congr (fun a _ x _ => ?_), hB⟩
                        unfold wpart
                        by_cases ha : a = I
                        · by_cases hx : x = D
                          · rw [if_neg (fun h => by omega), if_pos ⟨ha, by omega⟩, ha, hx, HSS.out]; simp
                          · by_cases hx2 : x < D
                            · rw [if_pos ⟨ha, hx2⟩, if_pos ⟨ha, by omega⟩]
                            · rw [if_neg (fun h => hx2 h.2), if_neg (fun h => by omega)]
                        · rw [if_neg (fun h => ha h.1), if_neg (fun h => ha h.1)]
                      case measure => simp [intOf]; omega
                  · obtain rfl : D = K := by omega
                    go_wp2_with fail
                    go_roundw
                    case rel =>
                      refine ⟨I + 1, by omega, by go_num, hBT.congr (fun a _ x hx => ?_), hB⟩
                      show _ = wstep (winner Z k I) k I a x
                      rw [HX.out]
                      unfold wpart wstep
                      by_cases ha : a = I
                      · rw [if_pos ⟨ha, hx⟩, if_pos ⟨ha, HTT.out⟩]
                      · rw [if_neg (fun h => ha h.1), if_neg (fun h => ha h.1)]
                    case measure => simp [intOf]; omega
              · have hT2 : X I k = false := by simpa using hT
                rw [hT2] at y1
                have HTT := Lib.hid hT2
                clear hT hT2
                go_wp2_with fail
                go_roundw
                case rel =>
                  refine ⟨I + 1, by omega, by go_num, hBT.congr (fun a _ x _ => ?_), hB⟩
                  show _ = wstep (winner Z k I) k I a x
                  rw [HX.out, wstep_row _ _ _ _ _ HTT.out]
                case measure => simp [intOf]; omega
            · obtain rfl : I = K := by omega
              go_wp2_with fail
              go_roundw
              case rel =>
                refine ⟨k + 1, by omega, by go_num, hBT.congr (fun a _ x _ => ?_), hB⟩
                show _ = winner (wouter T I k) k I a x
                rw [HW.out]
              case measure => simp [intOf]; omega
        · obtain rfl : k = K := by omega
          go_wp2_with fail
          go_ret
          exact ⟨v, B, C, rfl, hBT, hB⟩
end Go.Proofs.YtfjikeejifhnbaaDoor
