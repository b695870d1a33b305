/- The reference of layer 7: Partition. -/
import Derived.Test.YtngpfondnampjaaDoorRWid
namespace Go.Proofs.YtngpfondnampjaaDoor
open Go.RowKit Go.Sort
/- how many numbers a list holds -/
def dst (n : Nat) (L : List Nat) : Nat := ((List.range n).filter fun i => decide (i ∈ L)).length
theorem dst_in {n x : Nat} {L : List Nat} (h : x ∈ L) : dst n (L ++ [x]) = dst n L := by
  unfold dst
  congr 1
  refine List.filter_congr fun i _ => ?_
  rw [decide_eq_decide, List.mem_append, List.mem_singleton]
  exact ⟨fun h2 => h2.elim id (fun e => by rw [e]; exact h), .inl⟩
theorem dst_new {n x : Nat} {L : List Nat} (hx : x < n) (h : x ∉ L) : dst n (L ++ [x]) = dst n L + 1 := by
  unfold dst
  have h1 := filter_or_one (p := fun i => decide (i ∈ L)) hx (decide_eq_false h)
  rw [← h1]
  congr 1
  refine List.filter_congr fun i _ => ?_
  rw [← Bool.decide_or, decide_eq_decide, List.mem_append, List.mem_singleton]
theorem dst_snoc {n : Nat} : ∀ (M L : List Nat), (∀ x, x ∈ M → x < n) → dst n L ≤ L.length → (dst n L = L.length ↔ L.Nodup) → dst n (L ++ M) ≤ (L ++ M).length ∧ (dst n (L ++ M) = (L ++ M).length ↔ (L ++ M).Nodup)
  | [], L, _, h1, h2 => by rw [List.append_nil]; exact ⟨h1, h2⟩
  | x :: M, L, hM, h1, h2 => by
    have e : L ++ x :: M = (L ++ [x]) ++ M := by simp
    rw [e]
    refine dst_snoc M (L ++ [x]) (fun y hy => hM y (List.mem_cons_of_mem _ hy)) ?_ ?_
    · by_cases hx : x ∈ L
      · rw [dst_in hx]; simp; omega
      · rw [dst_new (hM x (List.mem_cons_self ..)) hx]; simp; omega
    · by_cases hx : x ∈ L
      · rw [dst_in hx]
        simp only [List.length_append, List.length_singleton]
        constructor
        · intro h; omega
        · intro h
          have := (List.nodup_append.1 h).2.2 x hx x (List.mem_singleton.2 rfl)
          exact absurd rfl this
      · rw [dst_new (hM x (List.mem_cons_self ..)) hx]
        simp only [List.length_append, List.length_singleton]
        rw [List.nodup_append]
        constructor
        · intro h
          exact ⟨h2.1 (by omega), List.nodup_cons.2 ⟨by simp, List.nodup_nil⟩, fun a ha b hb => by rw [List.mem_singleton.1 hb]; intro e; exact hx (e ▸ ha)⟩
        · intro h
          have := h2.2 h.1
          omega
theorem dst_nodup {n : Nat} {L : List Nat} (h : ∀ x, x ∈ L → x < n) : dst n L = L.length ↔ L.Nodup := by
  have := (dst_snoc (n := n) L [] h (by simp [dst]) (by simp [dst])).2
  rw [List.nil_append] at this
  exact this
theorem cnt_dst {n : Nat} {L : List Nat} (hn : n ≤ 512) (h : ∀ x, x ∈ L → x < n) : cnt (setF L) ((n + 63) / 64) = dst n L := by
  rw [cnt_mem]
  have hm := mem_row (n := n) (r := ⟨n, none, (n + 63) / 64, 0, setF L⟩) ⟨rfl, setF_vld hn h⟩
  rw [hm]
  unfold dst
  congr 1
  refine List.filter_congr fun i _ => bool_ext ?_
  rw [decide_eq_true_iff]
  exact setF_bt L i
/- a chain partition, counted by the numbers met -/
def PartR (n : Nat) (T : Nat → Nat → Bool) (B : Nat → LsD) (k : Nat) : Prop := PartG n T B k ∧ (flat B k).Nodup ∧ (flat B k).length = n
theorem part_iff {n : Nat} {T : Nat → Nat → Bool} {B : Nat → LsD} {k : Nat} (hn : n ≤ 512) : PartP n T B k ↔ PartR n T B k := by
  constructor
  · rintro ⟨h1, h2, h3⟩
    have hl := flat_lt (fun i hi => (h1 i hi).2) k (Nat.le_refl _)
    exact ⟨h1, (dst_nodup hl).1 (by rw [← cnt_dst hn hl]; exact h3), h2⟩
  · rintro ⟨h1, h2, h3⟩
    have hl := flat_lt (fun i hi => (h1 i hi).2) k (Nat.le_refl _)
    exact ⟨h1, h3, by rw [cnt_dst hn hl]; exact (dst_nodup hl).2 h2⟩
theorem zL_snoc (z : Nat → Int) (D : Nat) : zL z (D + 1) = zL z D ++ [(z D).toNat] := by
  unfold zL; rw [List.range_succ, List.map_append]; rfl
theorem flat_in {B : Nat → LsD} {k K D : Nat} (hK : K < k) (hD : D < (B K).m) : ∃ r, flat B k = (flat B K ++ zL (B K).z D) ++ ((B K).z D).toNat :: r := by
  have h1 : ∀ m, D < m → ∃ r, zL (B K).z m = zL (B K).z D ++ ((B K).z D).toNat :: r := fun m hm => by
    induction m with
    | zero => omega
    | succ m ih =>
      by_cases e : D = m
      · subst e; exact ⟨[], zL_snoc _ _⟩
      · obtain ⟨r, hr⟩ := ih (by omega)
        exact ⟨r ++ [((B K).z m).toNat], by rw [zL_snoc, hr]; simp⟩
  obtain ⟨r, hr⟩ := h1 _ hD
  have h2 : ∀ k, K < k → ∃ r, flat B k = (flat B K ++ zL (B K).z D) ++ ((B K).z D).toNat :: r := fun k hk => by
    induction k with
    | zero => omega
    | succ k ih =>
      by_cases e : K = k
      · subst e; exact ⟨r, by show flat B K ++ zL (B K).z (B K).m = _; rw [hr]; simp⟩
      · obtain ⟨r2, hr2⟩ := ih (by omega)
        exact ⟨r2 ++ zL (B k).z (B k).m, by show flat B k ++ _ = _; rw [hr2]; simp⟩
  exact h2 k hK
theorem nodup_no {L r : List Nat} {x : Nat} (h : x ∈ L) : ¬ (L ++ x :: r).Nodup := fun hn =>
  absurd rfl ((List.nodup_append.1 hn).2.2 x h x (List.mem_cons_self ..))
theorem nodup_snoc {L : List Nat} {x : Nat} (h : x ∉ L) (hn : L.Nodup) : (L ++ [x]).Nodup :=
  List.nodup_append.2 ⟨hn, List.nodup_cons.2 ⟨by simp, List.nodup_nil⟩, fun a ha b hb => by rw [List.mem_singleton.1 hb]; intro e; exact h (e ▸ ha)⟩
set_option maxRecDepth 100000 in
set_option maxHeartbeats 8000000 in
theorem rpart_any (A C : Option Addr) (n c k ck base : Nat) (Bl Cl : Nat → Nat) (T : Nat → Nat → Bool) (B : Nat → LsD) (v : Bool) (w : World) (h : BTab w base (.slice A n c) n n Bl Cl T) (hn : n ≤ 512) (hC : Lss w C k B) (hk : k ≤ 1000) (hm : ∀ i, i < k → (B i).m ≤ 1000) (hvv : v = true ↔ PartR n T B k) :
    Calls Tryd.prog 18 #[.slice A n c, .slice C k ck] w fun e w' => e = .returned (.bool v) ∧ Below w.heap.size w w' := by
  have HT := Lib.hid h
  have HC := Lib.hid hC
  have HVV := Lib.hid hvv
  have HM := Lib.hid hm
  have hmk := make_bools n (by omega)
  have b0 := below_new w (.cells (madeCells #[.bool false] n) 4)
  have hrow := (brow_made w w.heap.size n (Nat.le_refl _) (by omega)).congr (h := fun x => decide (x ∈ flat B 0 ++ zL (B 0).z 0)) (fun j _ => by simp [flat, zL])
  clear h hC hvv hm
  go_enter Tryd.func18, Tryd.ntmps18
  go_upto_region 3 with fail
  clear hmk
  generalize w.alloc (.cells (madeCells #[.bool false] n) 4) = W at *
  go_wp2_with fail
  go_loopw [6, 7, 8] (fun q i _ wr => ∃ K : Nat, K ≤ k ∧ i = .int .i64 K ∧ q = .int .i64 ((flat B K).length : Nat) ∧ Hid (PartG n T B K) ∧ Hid ((flat B K).Nodup) ∧ BRow wr w.heap.size w.heap.size n n (fun x => decide (x ∈ flat B K)) ∧ Below w.heap.size w wr) (fun _ i _ _ => k - (intOf i).toNat)
  case atStart => exact ⟨0, Nat.zero_le _, rfl, rfl, Lib.hid (fun i hi => absurd hi (Nat.not_lt_zero _)), Lib.hid List.nodup_nil, hrow.congr (fun j _ => by simp [flat, zL]), b0⟩
  case round =>
    clear hrow b0
    obtain ⟨K, hK, rfl, rfl, hQ, hN, hrow, hB⟩ := hrel
    have hfl := flat_len HM.out K hK
    by_cases hlt : K < k
    · obtain ⟨b, off, rfl, hbl, hcz⟩ := (HC.out.below hB) (by omega)
      obtain ⟨x0, x1⟩ := hcz K hlt
      have HX1 := Lib.hid x1
      have hmK := HM.out K hlt
      clear hcz x1
      by_cases h0 : (B K).m = 0
      · have d1 : (((B K).m : Int) == 0) = true := by rw [h0]; rfl
        obtain rfl : v = false := by
          cases hc : v with
          | false => rfl
          | true => have := ((HVV.out.1 hc).1 K hlt).1; omega
        clear h0 hmK HX1
        generalize (B K).m = m1 at *
        generalize (B K).A = A1 at *
        generalize (B K).c = c1 at *
        go_wp2_with fail
        go_ret
        exact ⟨rfl, hB⟩
      · have d1 : (((B K).m : Int) == 0) = false := beq_false_of_ne (by omega)
        obtain ⟨v1, hv1⟩ : ∃ v : Bool, v = true ↔ ChainP n T (B K).z (B K).m := ⟨@decide _ (Classical.propDecidable _), @decide_eq_true_iff _ (Classical.propDecidable _)⟩
        have HV1 := Lib.hid hv1
        have HCH := Lib.hid (rchain_any A (B K).A n c (B K).m (B K).c base Bl Cl T (B K).z v1 wr (HT.out.below hB) hn HX1.out (by omega) hv1)
        have HPG : Hid (ChainP n T (B K).z (B K).m → PartG n T B (K + 1)) := Lib.hid fun hc i hi => by
          by_cases e : i = K
          · subst e; exact ⟨by omega, hc⟩
          · exact hQ.out i (by omega)
        have HVF : Hid (v = true → ChainP n T (B K).z (B K).m) := Lib.hid fun hc => ((HVV.out.1 hc).1 K hlt).2
        have HFI : Hid (∀ D, D < (B K).m → v = true → ((B K).z D).toNat ∉ flat B K ++ zL (B K).z D) := Lib.hid fun D hD hv hin => by
          obtain ⟨r, hr⟩ := flat_in hlt hD
          have := (HVV.out.1 hv).2.1
          rw [hr] at this
          exact nodup_no hin this
        have hst : Hid (flat B (K + 1) = flat B K ++ zL (B K).z (B K).m) := rfl
        have HCK : Hid (∀ u, Below w.heap.size w u → u.cell? ⟨b, off + K, none⟩ = some (.slice (B K).A (B K).m (B K).c) ∧ Ints u (B K).A (B K).m (B K).z) := Lib.hid fun u hu => by
          obtain ⟨b2, o2, hA, _, hcz⟩ := (HC.out.below hu) (by omega)
          injection hA with hA
          injection hA with e1 e2 _
          subst e1 e2
          exact hcz K hlt
        clear hv1 h0 HX1
        generalize (B K).m = m1 at *
        generalize (B K).A = A1 at *
        generalize (B K).c = c1 at *
        generalize (B K).z = z1 at *
        go_wp2_with fail
        refine HCH.out.mono ?_; rintro e w2 ⟨rfl, b2⟩
        have hrow2 := hrow.below b2
        have B2 := below_next hB b2
        clear HCH hrow hB b2 x0
        cases v1 with
        | false =>
          obtain rfl : v = false := by
            cases hc : v with
            | false => rfl
            | true => have := HV1.out.2 (HVF.out hc); cases this
          go_wp2_with fail
          go_ret
          exact ⟨rfl, B2⟩
        | true =>
          have hch := Lib.hid (HV1.out.1 (by first | rfl | exact trivial))
          have HPG2 := Lib.hid (HPG.out hch.out)
          clear HV1 HVF HPG
          generalize hL : flat B K = L at *
          go_wp2_with fail
          go_loopw [6, 8] (fun q j wr => ∃ D : Nat, D ≤ m1 ∧ j = .int .i64 D ∧ q = .int .i64 ((L.length + D : Nat) : Int) ∧ Hid ((L ++ zL z1 D).Nodup) ∧ BRow wr w.heap.size w.heap.size n n (fun x => decide (x ∈ L ++ zL z1 D)) ∧ Below w.heap.size w wr) (fun _ j _ => m1 - (intOf j).toNat)
          case atStart => exact ⟨0, Nat.zero_le _, rfl, rfl, Lib.hid (by simpa [zL] using hN.out), hrow2.congr (fun j _ => by simp [zL]), B2⟩
          case round =>
            clear hrow2 B2
            obtain ⟨D, hD, rfl, rfl, hN2, hrow, hB⟩ := hrel
            obtain ⟨x0, x1⟩ := HCK.out wr hB
            by_cases hlt2 : D < m1
            · obtain ⟨b1, o1, rfl, hb1, hc1⟩ := x1 (by omega)
              have y0 := hc1 D hlt2
              obtain ⟨a1, a2⟩ := (hch.out D hlt2).1
              have hfi := Lib.hid (HFI.out D hlt2)
              have hzs : Hid (zL z1 (D + 1) = zL z1 D ++ [(z1 D).toNat]) := Lib.hid (zL_snoc _ _)
              obtain ⟨x, hx⟩ := Int.eq_ofNat_of_zero_le a1
              have hxn : x < n := by omega
              rw [hx] at y0 hfi hzs
              rw [Int.toNat_natCast] at hfi hzs
              have z0 := hrow.cell hxn
              have zf := hrow.frozen x
              clear hc1 a1 a2 hx x1
              by_cases hin : x ∈ L ++ zL z1 D
              · obtain rfl : v = false := by
                  cases hc : v with
                  | false => rfl
                  | true => exact absurd hin (hfi.out hc)
                rw [decide_eq_true hin] at z0
                clear hin hfi zf
                go_wp2_with fail
                go_ret
                exact ⟨rfl, hB⟩
              · have hnd : Hid ((L ++ zL z1 (D + 1)).Nodup) := Lib.hid (by rw [hzs.out, ← List.append_assoc]; exact nodup_snoc hin hN2.out)
                rw [decide_eq_false hin] at z0
                have hrow9 := (hrow.set x true).congr (h := fun y => decide (y ∈ L ++ zL z1 (D + 1))) (fun y _ => by
                  show (if y = x then true else decide (y ∈ L ++ zL z1 D)) = _
                  rw [hzs.out, ← List.append_assoc]
                  refine bool_ext ?_
                  rw [decide_eq_true_iff, List.mem_append (s := L ++ zL z1 D), List.mem_singleton]
                  by_cases e : y = x
                  · rw [if_pos e]; exact ⟨fun _ => .inr e, fun _ => rfl⟩
                  · rw [if_neg e, decide_eq_true_iff]; exact ⟨.inl, fun h => h.resolve_right e⟩)
                have B9 := hB.setCell (p := ⟨w.heap.size, x, none⟩) (Nat.le_refl _) (.bool true)
                have hlL : L.length ≤ 1000000 := by omega
                clear hin hfi hrow
                generalize hq : L.length = q at *
                go_wp2_with fail
                go_roundw
                case rel => exact ⟨D + 1, hlt2, by go_num, by go_num, hnd, hrow9, B9⟩
                case measure => simp [intOf]; omega
            · obtain rfl : D = m1 := by omega
              have hstL : flat B (K + 1) = L ++ zL z1 D := hst.out
              have hlen : ((L.length + D : Nat) : Int) = ((flat B (K + 1)).length : Nat) := by rw [hstL, List.length_append, zL_len]
              have hN3 : Hid ((flat B (K + 1)).Nodup) := Lib.hid (by rw [hstL]; exact hN2.out)
              have hrow3 := hrow.congr (h := fun y => decide (y ∈ flat B (K + 1))) (fun y _ => by rw [hstL])
              clear hstL hrow x1
              generalize hq : L.length = q at *
              go_wp2_with fail
              go_roundw
              case rel => exact ⟨K + 1, hlt, by go_num, by rw [← hlen], HPG2, hN3, hrow3, hB⟩
              case measure => simp [intOf]; omega
    · obtain rfl : K = k := by omega
      have hve : v = decide ((flat B K).length = n) := bool_ext (by rw [HVV.out, decide_eq_true_iff]; exact ⟨fun h => h.2.2, fun h => ⟨hQ.out, hN.out, h⟩⟩)
      have hvf : (((flat B K).length : Int) == (n : Int)) = v := by
        rw [hve]
        refine bool_ext ?_
        rw [beq_iff_eq, decide_eq_true_iff]; omega
      clear hve HVV hN hQ hrow
      generalize (flat B K).length = q at *
      go_wp2_with fail
      go_ret
      exact ⟨by first | rfl | rw [hvf], hB⟩
end Go.Proofs.YtngpfondnampjaaDoor
