/- The contract of relation.Make: the relation. -/
import Derived.Test.YtngpfondnampjaaDoorRMak2
namespace Go.Proofs.YtngpfondnampjaaDoor
open Go.RowKit
theorem row_below {w w' : World} {g : Nat} {t : TypeId} {n : Nat} {f : Nat → Value} (h : w.rowIs g t n f) (hb : Below w.heap.size w w') : w'.rowIs g t n f := h.of_block (hb.block g h.lt)
theorem ow_vld {N : Nat} {z : Nat → Nat} {K : Nat} (hN : N ≤ 512) (h : ∀ k, k < K → z k < N) : Vld (N : Int) ((N + 63) / 64) (ow z K) := by
  refine ⟨by omega, by omega, by simp, fun i hi _ => ?_⟩
  simp only [Int.toNat_natCast] at hi
  cases hb : bt (ow z K) i
  · rfl
  · obtain ⟨j, hj, he⟩ := (bt_ow z K i).1 hb
    have := h j hj
    omega
/- the row that is made of the successors of i -/
def succRow (n g : Nat) (L : List Int) : RowD := ⟨n, some ⟨g, 0, none⟩, (n + 63) / 64, (n + 63) / 64, ow (fun k => (zgets L k).toNat) L.length⟩
theorem succRow_v {n g : Nat} {L : List Int} (hn : n ≤ 512) (h : ∀ k, k < L.length → 0 ≤ zgets L k ∧ zgets L k < n) : VRow n (succRow n g L) :=
  ⟨rfl, ow_vld hn (fun k hk => by have := h k hk; omega)⟩
theorem succRow_bt {n g : Nat} {L : List Int} (h : ∀ k, k < L.length → 0 ≤ zgets L k ∧ zgets L k < n) (j : Nat) : bt (succRow n g L).f j = true ↔ (j : Int) ∈ L := by
  show bt (ow _ _) j = true ↔ _
  rw [bt_ow]
  have hg : ∀ k (hk : k < L.length), zgets L k = L[k] := fun k hk => by unfold zgets; rw [List.getD_eq_getElem?_getD, List.getElem?_eq_getElem hk]; rfl
  constructor
  · rintro ⟨k, hk, he⟩
    have h1 := h k hk
    have : zgets L k = (j : Int) := by omega
    rw [← this, hg k hk]; exact List.getElem_mem hk
  · intro hm
    obtain ⟨k, hk⟩ := List.mem_iff_getElem?.1 hm
    obtain ⟨hkl, hke⟩ := List.getElem?_eq_some_iff.1 hk
    exact ⟨k, hkl, by rw [hg k hkl, hke]; simp⟩
theorem TwoOf_iff {z : Nat → Int × Int} {m i j : Nat} : TwoOf z m i j = true ↔ ∃ k, k < m ∧ (z k).1 = (i : Int) ∧ (z k).2 = (j : Int) := by
  unfold TwoOf
  rw [List.any_eq_true]
  constructor
  · rintro ⟨k, hk, h⟩
    rw [decide_eq_true_iff] at h
    exact ⟨k, by simpa using hk, h⟩
  · rintro ⟨k, hk, h⟩
    exact ⟨k, by simpa using hk, by rw [decide_eq_true_iff]; exact h⟩
/- what Make leaves, all numbers in range or not -/
def MakeEnd (w : World) (n : Nat) (z : Nat → Int × Int) (m : Nat) (v : Bool) (e : Ending) (w' : World) : Prop := (v = true ∧ RelOk w n (TwoOf z m) e w') ∨ (v = false ∧ RelErr w 2 e w')
def InL (n : Nat) (L : List Int) : Prop := ∀ k, k < L.length → 0 ≤ zgets L k ∧ zgets L k < n
set_option maxRecDepth 100000 in
set_option maxHeartbeats 8000000 in
theorem make_any (n : Nat) (A : Option Addr) (m c : Nat) (z : Nat → Int × Int) (I : Nat) (v : Bool) (w : World) (hn : n ≤ 512) (h : Prs w A m z) (hm : m ≤ 1000000) (hz : ∀ k, k < m → 0 ≤ (z k).1 ∧ (z k).1 < n)
    (hI : I ≤ n) (hin : ∀ i, i < I → InL n (lst z m i)) (hv : (v = true ∧ I = n) ∨ (v = false ∧ I < n ∧ ¬ InL n (lst z m I))) :
    Calls Tryd.prog 62 #[.int .i64 n, .slice A m c] w (MakeEnd w n z m v) := by
  have HI := Lib.hid h; clear h
  have HZ := Lib.hid hz; clear hz
  have HIN := Lib.hid hin; clear hin
  have HV := Lib.hid hv; clear hv
  have hd1 : decide ((n : Int) < 0) = false := decide_eq_false (by omega)
  have hd2 : decide (512 < (n : Int)) = false := decide_eq_false (by omega)
  have hmk := make_lists n (by omega)
  go_enter Tryd.func62, Tryd.ntmps62
  go_wp2_with fail
  clear hmk hd1 hd2
  have b0 : Below w.heap.size w (w.alloc (.cells #[.slice none 0 0] 24)) := (Below.refl _ _).alloc (Nat.le_refl _) _
  have r0 := relAt_new w none 0 0
  have hL := lists_made (w.alloc (.cells #[.slice none 0 0] 24)) n
  have r1 := r0.alloc (.cells (madeCells #[.slice none 0 0] n) 25)
  have b1 := b0.alloc b0.size (.cells (madeCells #[.slice none 0 0] n) 25)
  have hs : (w.alloc (.cells #[.slice none 0 0] 24)).heap.size = w.heap.size + 1 := by simp
  rw [hs] at hL
  clear hs b0 r0
  go_loopw [8, 9, 10, 26] (fun _ _ _ i wr => ∃ (K : Nat) (V : Nat → Value), K ≤ m ∧ i = .int .i64 K ∧ Lists wr (w.heap.size + 1) n V (lst z K) ∧ RelAt wr w.heap.size none 0 0 ∧ Below w.heap.size w wr) (fun _ _ _ i _ => m - (intOf i).toNat)
  case atStart => exact ⟨0, _, by omega, rfl, hL, r1, b1⟩
  case round =>
    clear hL r1 b1
    obtain ⟨K, V, hK, rfl, hL, hr, hB⟩ := hrel
    by_cases hKm : K < m
    · obtain ⟨b, off, rfl, hbl, hcz⟩ := (HI.out.below hB) (by omega)
      obtain ⟨x0, x1⟩ := hcz K (by omega)
      clear hcz
      obtain ⟨hz0, hz1⟩ := HZ.out K hKm
      have HST := Lib.hid (lst_step z K)
      generalize (z K).2 = y at *
      obtain ⟨x, hx⟩ : ∃ x : Nat, (z K).1 = (x : Int) := ⟨(z K).1.toNat, by omega⟩
      rw [hx] at x0 hz0 hz1 HST
      clear hx
      simp only [Int.toNat_natCast] at HST
      have hxn : x < n := by omega
      have hd1 : decide ((x : Int) < 0) = false := decide_eq_false (by omega)
      have hd2 : decide ((n : Int) ≤ (x : Int)) = false := decide_eq_false (by omega)
      have hlen := lst_len z K x
      have hl6 : (lst z K x).length ≤ 1000000 := by omega
      clear hlen
      have bA : Below wr.heap.size wr (wr.alloc (.cells #[.int .i64 (x : Int), .int .i64 y] 78)) := (Below.refl _ _).alloc (Nat.le_refl _) _
      have hLA := hL.below bA
      have hrA := hr.below bA
      have BA := below_next hB bA
      have y0 := hLA.blk.cell hxn
      have hbs : w.heap.size + 1 + 1 ≤ wr.heap.size + 1 := by have := hL.blk.lt; omega
      have hown := hLA.own x hxn
      clear hL hr hB bA
      go_wp2_with fail
      go_region
      all_goals
        clear x0 x1
        go_wp2_with (at_builtin; refine append_int rfl (.tmp 47) (.tmp 49) rfl (w.heap.size + 1 + 1) (V x) (lst z K x) y _ rfl (hown.alloc (.cells #[.int .i64 y] 3)) (wr.heap.size + 1) rfl (heap_new_at _ _ _ (by simp)) hl6 (by simp; omega) ?_)
        intro g cap w5 hown5 hg5 hat
        have bC : Below (wr.alloc (.cells #[.int .i64 (x : Int), .int .i64 y] 78)).heap.size (wr.alloc (.cells #[.int .i64 (x : Int), .int .i64 y] 78)) ((wr.alloc (.cells #[.int .i64 (x : Int), .int .i64 y] 78)).alloc (.cells #[.int .i64 y] 3)).drew := ((Below.refl _ _).alloc (Nat.le_refl _) _).drew
        have hLC := hLA.below bC
        have hrC := hrA.below bC
        have BC := below_next BA bC
        obtain ⟨s0, s1⟩ := hLC.slot hxn hg5
        have hL5 := hLC.push hxn hown5 hg5 (hat.imp id fun h => by simpa using h)
        have hr5 := (relAt_grown hrC (hLC.own x hxn) (by omega) hg5).far (q := ⟨w.heap.size + 1, x, none⟩) (by show w.heap.size ≠ w.heap.size + 1; omega) (.slice (some ⟨g, 0, none⟩) ((lst z K x).length + 1) cap)
        have B5 := (grown_below2 BC (hLC.own x hxn) (by omega) hg5).setCell (p := ⟨w.heap.size + 1, x, none⟩) (by show w.heap.size ≤ w.heap.size + 1; omega) (.slice (some ⟨g, 0, none⟩) ((lst z K x).length + 1) cap)
        rw [← HST.out] at hL5
        clear hLA hrA BA hLC hrC BC bC y0 hown hg5 hown5 hat
        go_wp2_with fail
        go_roundw
        case rel => exact ⟨K + 1, _, by omega, by go_num, hL5, hr5, B5⟩
        case measure => simp [intOf]; omega
    · obtain rfl : K = m := by omega
      obtain ⟨W1, rfl⟩ : ∃ W1, W1 = wr := ⟨_, rfl⟩
      have hmk := make_rows n (by omega)
      go_wp2_with fail
      clear hmk
      have hR := rows_made W1 n
      have bR : Below W1.heap.size W1 (W1.alloc (.cells (madeCells #[.int .i64 0, .slice none 0 0] (n * 2)) 28)) := (Below.refl _ _).alloc (Nat.le_refl _) _
      have hT0 : Hid (∀ k, k < 0 → VRow n ((fun _ => row0) k) ∧ ∀ j, j < n → bt ((fun _ => row0) k).f j = TwoOf z K k j) := fun k hk => absurd hk (Nat.not_lt_zero _)
      go_loopw [12, 13, 14, 57] (fun _ _ _ i w2 => ∃ (D : Nat) (R : Nat → RowD), D ≤ I ∧ i = .int .i64 D ∧ Rows w2 W1.heap.size n R ∧ Hid (∀ k, k < D → VRow n (R k) ∧ ∀ j, j < n → bt (R k).f j = TwoOf z K k j) ∧ Below W1.heap.size W1 w2) (fun _ _ _ i _ => I - (intOf i).toNat)
      case atStart => exact ⟨0, _, by omega, rfl, hR, hT0, bR⟩
      case round =>
        clear hR hT0 bR
        obtain ⟨D, R, hD, rfl, hR, hT0, b2⟩ := hrel
        by_cases hDn : D < n
        · have hL2 := hL.below b2
          have y0 := hL2.blk.cell hDn
          obtain ⟨AL, cL, hV, hIL⟩ := own_zints (hL2.own D hDn)
          rw [hV] at y0
          have hlen := lst_len z K D
          clear hL2 hV
          by_cases hDI : D < I
          · have hin := HIN.out D hDI
            have hof := fun (w' : World) (h' : Ints w' AL (lst z K D).length (zgets (lst z K D))) => of_any n AL (lst z K D).length cL (zgets (lst z K D)) (lst z K D).length true w' hn h' (by omega) (Nat.le_refl _) hin (Or.inl ⟨rfl, rfl⟩)
            have HOF := Lib.hid hof; clear hof
            have hRV := succRow_v (g := 0) hn hin
            have hRB : Hid (∀ g, VRow n (succRow n g (lst z K D)) ∧ ∀ j, j < n → bt (succRow n g (lst z K D)).f j = TwoOf z K D j) := fun g => ⟨succRow_v hn hin, fun j _ => bool_ext (by
              rw [succRow_bt hin, TwoOf_iff, mem_lst]
              constructor
              · rintro ⟨k, hk, h1, h2⟩
                have := HZ.out k hk
                exact ⟨k, hk, by omega, h2⟩
              · rintro ⟨k, hk, h1, h2⟩
                exact ⟨k, hk, by omega, h2⟩)⟩
            have hrowf : Hid (∀ g, succRow n g (lst z K D) = ⟨n, some ⟨g, 0, none⟩, (n + 63) / 64, (n + 63) / 64, ow (fun k => (zgets (lst z K D) k).toNat) (lst z K D).length⟩) := fun g => rfl
            have HIL := Lib.hid hIL
            clear hin hRV hIL
            go_wp2_with fail
            refine (HOF.out _ HIL.out).mono ?_; rintro e w3 he
            rcases he with ⟨_, g3, rfl, hg3, hrow3, b3⟩ | ⟨hf, _⟩
            · have B3 := below_next b2 b3
              have hR3 := hR.below b3
              have bA : Below w3.heap.size w3 (w3.alloc (.cells #[.int .i64 (n : Int), .slice (some ⟨g3, 0, none⟩) ((n + 63) / 64) ((n + 63) / 64)] 28)) := (Below.refl _ _).alloc (Nat.le_refl _) _
              have hrow4 := row_below hrow3 bA
              have hR4 := hR3.below bA
              have B4 := below_next B3 bA
              have hw4 := row_wds hrow4 (ow_u64 _ _ _)
              have hgl := hR.lt
              clear hrow3 b3 B3 hR3 bA hR b2 hrow4
              have z0 := hR4.blk.cell (i := D * 2) (by omega)
              have z1 := hR4.blk.cell (i := D * 2 + 1) (by omega)
              have f0 := hR4.blk.frozen (D * 2)
              have f1 := hR4.blk.frozen (D * 2 + 1)
              have hR5 := hR4.set D (succRow n g3 (lst z K D)) (by rw [hrowf.out g3]; exact hw4) (by rw [hrowf.out g3]; intro a ha; injection ha with ha; subst ha; show W1.heap.size < g3; omega)
              have B5 := (B4.setCell (p := ⟨W1.heap.size, D * 2, none⟩) (Nat.le_refl _) (.int .i64 (succRow n g3 (lst z K D)).N)).setCell (p := ⟨W1.heap.size, D * 2 + 1, none⟩) (Nat.le_refl _) (.slice (succRow n g3 (lst z K D)).A (succRow n g3 (lst z K D)).l (succRow n g3 (lst z K D)).c)
              have HU : Hid (∀ k, k < D + 1 → VRow n (upd R D (succRow n g3 (lst z K D)) k) ∧ ∀ j, j < n → bt (upd R D (succRow n g3 (lst z K D)) k).f j = TwoOf z K k j) := fun k hk => by
                unfold upd
                by_cases e : k = D
                · subst e; rw [if_pos rfl]; exact hRB.out g3
                · rw [if_neg e]; exact hT0.out k (by omega)
              go_wp2_with fail
              go_roundw
              case rel => exact ⟨D + 1, _, by omega, by go_num, hR5, HU, B5⟩
              case measure => simp [intOf]; omega
            · cases hf
          · obtain rfl : D = I := by omega
            rcases HV.out with ⟨_, h2⟩ | ⟨hvf, _, hbad⟩
            · omega
            · subst hvf
              obtain ⟨J, hJ, hJ2, hJ3⟩ := first_bad (p := fun k => 0 ≤ zgets (lst z K D) k ∧ zgets (lst z K D) k < n) (n := (lst z K D).length) hbad
              have hj2 : zgets (lst z K D) J < 0 ∨ (n : Int) ≤ zgets (lst z K D) J := by
                by_cases h1 : zgets (lst z K D) J < 0
                · exact Or.inl h1
                · right
                  rcases Int.lt_or_le (zgets (lst z K D) J) n with h2 | h2
                  · exact absurd ⟨by omega, h2⟩ hJ2
                  · exact h2
              have hof := fun (w' : World) (h' : Ints w' AL (lst z K D).length (zgets (lst z K D))) => of_any n AL (lst z K D).length cL (zgets (lst z K D)) J false w' hn h' (by omega) (by omega) hJ3 (Or.inr ⟨rfl, hJ, hj2⟩)
              have HOF := Lib.hid hof
              have HIL := Lib.hid hIL
              clear hof hIL hbad hJ2 hJ3 hj2 hJ
              go_wp2_with fail
              refine (HOF.out _ HIL.out).mono ?_; rintro e w3 he
              rcases he with ⟨hf, _⟩ | ⟨_, rfl, b3⟩
              · cases hf
              · have B3 := below_next b2 b3
                have bA : Below w3.heap.size w3 (w3.alloc (.cells #[.int .i64 0, .slice none 0 0] 28)) := (Below.refl _ _).alloc (Nat.le_refl _) _
                have B4 := below_next hB (below_next B3 bA)
                have hr4 := hr.below (below_next B3 bA)
                have r0 := hr4.c0
                have f0 := hr4.free 0
                clear hR b2 b3 B3 bA y0 hL
                go_wp2_with fail
                refine bodyPost_ret (v := .tuple #[.agg #[.slice none 0 0], .int .i64 2]) (by simp [results, Tryd.results62, go_sem, r0]) rfl ?_
                exact Or.inr ⟨rfl, rfl, B4.setCell (Nat.le_refl _) _⟩
        · obtain rfl : D = n := by omega
          rcases HV.out with ⟨hvt, h2⟩ | ⟨_, h2, _⟩
          · subst hvt
            have hr2 := hr.below b2
            have r0 := hr2.c0
            have f0 := hr2.free 0
            have hW := hr.lt
            have B2 := (below_next hB b2).setCell (p := ⟨w.heap.size, 0, none⟩) (Nat.le_refl _) (.slice (some ⟨W1.heap.size, 0, none⟩) D D)
            have hR2 := hR.far (q := ⟨w.heap.size, 0, none⟩) (by show w.heap.size < W1.heap.size; omega) (.slice (some ⟨W1.heap.size, 0, none⟩) D D)
            go_wp2_with fail
            refine bodyPost_ret (v := .tuple #[.agg #[.slice (some ⟨W1.heap.size, 0, none⟩) D D], .int .i64 0]) (by simp [results, Tryd.results62, go_sem, r0]) rfl ?_
            exact Or.inl ⟨rfl, _, _, R, rfl, hR2.rel, hR2.fresh (by omega), ⟨hn, fun k hk => (hT0.out k hk).1⟩, fun i hi j hj => (hT0.out i hi).2 j hj, B2⟩
          · omega
end Go.Proofs.YtngpfondnampjaaDoor
