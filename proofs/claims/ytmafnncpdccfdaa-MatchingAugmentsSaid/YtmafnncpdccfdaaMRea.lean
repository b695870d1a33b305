/- The reference's Reached. -/
import Derived.Test.YtmafnncpdccfdaaMMat
namespace Go.Proofs.Ytmafnncpdccfdaa
open Go.RowKit
/- mathematics -/
def un4 (R : Nat → Int) : Nat → Nat → Bool
  | 0 => fun _ => true
  | K + 1 => if 0 ≤ R K then (fun v => if v = (R K).toNat then false else un4 R K v) else un4 R K
theorem un4_iff (R : Nat → Int) (v : Nat) : ∀ K, un4 R K v = true ↔ ∀ j, j < K → 0 ≤ R j → (R j).toNat ≠ v
  | 0 => ⟨fun _ _ h => absurd h (Nat.not_lt_zero _), fun _ => rfl⟩
  | K + 1 => by
    have ih := un4_iff R v K
    show (if 0 ≤ R K then (fun v => if v = (R K).toNat then false else un4 R K v) else un4 R K) v = true ↔ _
    by_cases h : 0 ≤ R K
    · rw [if_pos h]
      show (if v = (R K).toNat then false else un4 R K v) = true ↔ _
      by_cases e : v = (R K).toNat
      · rw [if_pos e]
        exact ⟨fun h => absurd h Bool.false_ne_true, fun h2 => absurd e.symm (h2 K (Nat.lt_succ_self K) h)⟩
      · rw [if_neg e, ih]
        exact ⟨fun h2 j hj h3 => by
          by_cases ej : j = K
          · subst ej; exact fun e2 => e e2.symm
          · exact h2 j (by omega) h3, fun h2 j hj => h2 j (by omega)⟩
    · rw [if_neg h, ih]
      exact ⟨fun h2 j hj h3 => by
        by_cases ej : j = K
        · subst ej; exact absurd h3 h
        · exact h2 j (by omega) h3, fun h2 j hj => h2 j (by omega)⟩
section
variable {n m : Nat} {nb : Nat → List Nat} {g : Gr} (hM : Mat n m nb g)
include hM
theorem un4_end {v : Nat} (hv : v < n) : un4 g.R m v = lfR g.L (fun _ => false) v := by
  refine Bool.eq_iff_iff.2 ?_
  rw [un4_iff, left_of]
  constructor
  · intro h
    rcases hM.l v hv with h1 | ⟨b, hb, _, _, h2⟩
    · exact .inl h1
    · exact absurd (by rw [h2]; rfl) (h b hb (by omega))
  · rintro (h | h)
    · intro j hj h0 e
      rcases Mat.r hM j hj with h1 | ⟨a, _, h1, h2⟩
      · omega
      · rw [h1, show ((a : Int)).toNat = a from rfl] at e
        subst e; omega
    · exact absurd h Bool.false_ne_true
theorem lf_mark {s : Nat → Bool} {b d : Nat} (hb : b < m) (hR : g.R b = (d : Int)) : ∀ a, a < n → (if a = d then true else lfR g.L s a) = lfR g.L (mark s b) a := by
  intro a ha
  obtain ⟨d', _, h1, h2⟩ := (Mat.r hM b hb).resolve_left (by omega)
  have : d' = d := by omega
  subst this
  by_cases e : a = d'
  · rw [if_pos e, e]
    exact (left_of.2 (.inr (by rw [h2]; exact mark_same _ _))).symm
  · rw [if_neg e]
    refine Bool.eq_iff_iff.2 ?_
    rw [left_of, left_of]
    rcases hM.l a ha with h3 | ⟨b', _, h3, _, h4⟩
    · exact ⟨fun _ => .inl h3, fun _ => .inl h3⟩
    · rw [h3, show ((b' : Int)).toNat = b' from rfl, mark_or]
      constructor
      · rintro (h | h)
        · omega
        · exact .inr (.inl h)
      · rintro (h | h | h)
        · omega
        · exact .inr h
        · subst h; omega
end
theorem lf_mono {L : Nat → Int} {s t : Nat → Bool} (h : ∀ b, s b = true → t b = true) {a : Nat} (ha : lfR L s a = true) : lfR L t a = true := left_of.2 ((left_of.1 ha).imp id (h _))
theorem seen_end {n m k : Nat} {E : Nat → Int × Int} (hv : VG n m k E) {s : Nat → Bool} (hs : ∀ b, s b = true → mseen n m k E b = true)
    (hc : ∀ i, i < k → lfR (maxS (nbs E k) m n).L s (E i).1.toNat = true → s (E i).2.toNat = true) : s = mseen n m k E := by
  have hM := maxM hv
  have hI := rsI_of hv
  have edge : ∀ a b, b ∈ nbs E k a → lfR (maxS (nbs E k) m n).L s a = true → s b = true := fun a b hb hl => by
    obtain ⟨i, hi, e⟩ := (nbs_iff hv a b k (Nat.le_refl _)).1 hb
    have := hc i hi
    rw [e] at this; exact this hl
  refine funext fun b => Bool.eq_iff_iff.2 ⟨hs b, ?_⟩
  refine hI.least (fun b => s b = true) (fun b hb => ?_) (fun a ha hL b hb => edge a b hb (left_of.2 (.inl hL))) b
  obtain ⟨h1, h2, _⟩ := hI.cl b (hs b hb)
  obtain ⟨a, ha, hR, hL⟩ := (Mat.r hM b h1).resolve_left h2
  refine ⟨h1, h2, fun c hc' => ?_⟩
  rw [hR, show ((a : Int)).toNat = a from rfl] at hc'
  exact edge a c hc' (left_of.2 (.inr (by rw [hL]; exact hb)))
structure StepF (n m k : Nat) (E : Nat → Int × Int) (s : Nat → Bool) (b d : Nat) : Prop where
  dn : d < n
  rb : (maxS (nbs E k) m n).R b = (d : Int)
  row : ∀ a, a < n → (if a = d then true else lfR (maxS (nbs E k) m n).L s a) = lfR (maxS (nbs E k) m n).L (mark s b) a
  sub : ∀ b', mark s b b' = true → mseen n m k E b' = true
  un_ : un (mark s b) m + 1 = un s m
theorem step_f {n m k : Nat} {E : Nat → Int × Int} (hv : VG n m k E) {s : Nat → Bool} (hs : ∀ b, s b = true → mseen n m k E b = true) {i a b : Nat} (hi : i < k) (hE : E i = ((a : Int), (b : Int))) (hl : lfR (maxS (nbs E k) m n).L s a = true) (hb : s b = false) : ∃ d, StepF n m k E s b d := by
  have hM := maxM hv
  have hI := rsI_of hv
  have hr := hv.ran i hi
  rw [hE] at hr
  have han : a < n := by have := hr.1.2; have h : (a : Int) < n := this; omega
  have hbm : b < m := by have := hr.2.2; have h : (b : Int) < m := this; omega
  have hsb : mseen n m k E b = true := (near_left hM hI b).2 ⟨a, han, lf_mono hs hl, (nbs_iff hv a b k (Nat.le_refl _)).2 ⟨i, hi, hE⟩⟩
  obtain ⟨_, h2, _⟩ := hI.cl b hsb
  obtain ⟨d, hd, hR, hL⟩ := (Mat.r hM b hbm).resolve_left h2
  refine ⟨d, hd, hR, lf_mark hM hbm hR, fun b' h => ?_, un_mark (by rw [hb]; exact Bool.false_ne_true) hbm⟩
  rcases (mark_or s b b').1 h with h | h
  · exact hs b' h
  · rw [h]; exact hsb
/- the contract -/
def rd (wr : World) (g : Nat) : Nat → Bool := fun b => match wr.cell? ⟨g, b, none⟩ with | some (.bool true) => true | _ => false
theorem rd_row {wr : World} {g m : Nat} {s : Nat → Bool} (h : wr.rowIs g 4 m (bvals s)) : ∀ b, b < m → rd wr g b = s b := fun b hb => by
  unfold rd
  rw [show wr.cell? ⟨g, b, none⟩ = some (.bool (s b)) from h.cell hb]
  cases s b <;> rfl
theorem un_congr {s t : Nat → Bool} : ∀ {m}, (∀ b, b < m → s b = t b) → un s m = un t m
  | 0, _ => rfl
  | m + 1, h => by
    have ih := un_congr (m := m) (fun b hb => h b (by omega))
    unfold un
    rw [ih, h m (Nat.lt_succ_self m)]
def tru : Value → Nat
  | .bool true => 1
  | _ => 0
def RcEnd (w : World) (n m k : Nat) (E : Nat → Int × Int) (e : Ending) (w' : World) : Prop :=
  ∃ gA gB, e = .returned (.tuple #[.slice (some ⟨gA, 0, none⟩) n n, .slice (some ⟨gB, 0, none⟩) m m]) ∧ gA ≠ gB ∧ w.heap.size ≤ gA ∧ w.heap.size ≤ gB ∧
    w'.rowIs gA 4 n (bvals (mleft n m k E)) ∧ w'.rowIs gB 4 m (bvals (mseen n m k E)) ∧ Below w.heap.size w w'
structure ReW (w wr : World) (n m gM gA gB : Nat) (R : Nat → Int) (l s : Nat → Bool) : Prop where
  r : wr.rowIs gM 3 m (ivals R)
  a : wr.rowIs gA 4 n (bvals l)
  b : wr.rowIs gB 4 m (bvals s)
  bl : Below w.heap.size w wr
  lo : w.heap.size ≤ gA ∧ w.heap.size ≤ gB
  ne : gM ≠ gA ∧ gM ≠ gB ∧ gA ≠ gB
theorem row_bool2 {w : World} {g n k : Nat} {s t : Nat → Bool} (h : w.rowIs g 4 n (bvals s)) (x : Bool) (ht : ∀ j, j < n → (if j = k then x else s j) = t j) : (w.setCell ⟨g, k, none⟩ (.bool x)).rowIs g 4 n (bvals t) := (row_bool (k := k) h x).congr fun j hj => by
  show Value.bool (if j = k then x else s j) = Value.bool (t j)
  rw [ht j hj]
section
variable {w wr : World} {n m gM gA gB : Nat} {R : Nat → Int} {l s : Nat → Bool}
theorem ReW.setA (h : ReW w wr n m gM gA gB R l s) (k : Nat) (x : Bool) {t : Nat → Bool} (ht : ∀ j, j < n → (if j = k then x else l j) = t j) : ReW w (wr.setCell ⟨gA, k, none⟩ (.bool x)) n m gM gA gB R t s :=
  ⟨h.r.setOther (by exact h.ne.1) _, row_bool2 h.a x ht, h.b.setOther (by exact h.ne.2.2.symm) _, h.bl.setCell (by exact h.lo.1) _, h.lo, h.ne⟩
theorem ReW.setB (h : ReW w wr n m gM gA gB R l s) (k : Nat) : ReW w (wr.setCell ⟨gB, k, none⟩ (.bool true)) n m gM gA gB R l (mark s k) :=
  ⟨h.r.setOther (by exact h.ne.2.1) _, h.a.setOther (by exact h.ne.2.2) _, row_mark h.b, h.bl.setCell (by exact h.lo.2) _, h.lo, h.ne⟩
theorem ReW.drewN (h : ReW w wr n m gM gA gB R l s) (q : Nat) : ReW w (wr.drewN q) n m gM gA gB R l s := ⟨h.r.of_block rfl, h.a.of_block rfl, h.b.of_block rfl, below_drewN h.bl q, h.lo, h.ne⟩
theorem ReW.congrA (h : ReW w wr n m gM gA gB R l s) {t : Nat → Bool} (ht : ∀ j, j < n → l j = t j) : ReW w wr n m gM gA gB R t s := ⟨h.r, h.a.congr fun j hj => by unfold bvals; rw [ht j hj], h.b, h.bl, h.lo, h.ne⟩
end
set_option maxRecDepth 100000 in
set_option maxHeartbeats 4000000 in
theorem reach_any (n m k c : Nat) (A : Option Addr) (E : Nat → Int × Int) (w : World) (h : Prs w A k E) (hv : VG n m k E) : Calls Try.prog 24 #[.int .i64 n, .int .i64 m, .slice A k c] w (RcEnd w n m k E) := by
  have hn := hv.n1
  have hm := hv.m1
  have hk := hv.k2
  have mk1 := make_bools n (by omega)
  have mk2 := make_bools m (by omega)
  have HMA := Lib.hid (mates_any n m k c A E w h hv)
  unfold MaEnd at HMA
  have HH := Lib.hid h
  have HV := Lib.hid hv
  have HM := Lib.hid (maxM hv)
  clear h hv
  go_enter Try.func24, Try.ntmps24
  go_wp2_with fail
  refine HMA.out.mono ?_; rintro e w1 ⟨gM, rfl, hgM, hR, b1⟩
  clear HMA
  go_upto_region 2 with fail
  go_cut [9, 10] from 21 to 24 (fun x y wx => ∃ gA gB, x = .slice (some ⟨gA, 0, none⟩) n n ∧ y = .slice (some ⟨gB, 0, none⟩) m m ∧ wx.heap[gA]? = some (.cells (madeCells #[.bool false] n) 4) ∧ wx.heap[gB]? = some (.cells (madeCells #[.bool false] m) 4) ∧ Below w1.heap.size w1 wx ∧ w1.heap.size ≤ gA ∧ w1.heap.size ≤ gB ∧ gA ≠ gB)
  case first =>
    clear HH HV HM hR b1
    go_region
    all_goals
      go_wp2_with fail
      go_meet
    all_goals
      first
        | exact ⟨w1.heap.size, w1.heap.size + 1, rfl, rfl, (al2 w1 _ _).1, (al2 w1 _ _).2.1, (al2 w1 _ _).2.2.drew, Nat.le_refl _, Nat.le_succ _, by omega⟩
        | exact ⟨w1.heap.size + 1, w1.heap.size, rfl, rfl, (al2 w1 _ _).2.1, (al2 w1 _ _).1, (al2 w1 _ _).2.2.drew, Nat.le_succ _, Nat.le_refl _, by omega⟩
  case rest =>
    obtain ⟨gA, gB, rfl, rfl, eA, eB, bx, lA, lB, hAB⟩ := hcut
    have hMl := hR.lt
    have hb1 := b1.size
    have hW : ReW w wc n m gM gA gB (maxS (nbs E k) m n).R (fun v => decide (v < 0)) (fun _ => false) :=
      ⟨row_below hR bx, (row_of_made eA).congr fun j _ => by show Value.bool false = Value.bool (decide (j < 0)); rw [decide_eq_false (Nat.not_lt_zero _)], row_of_made eB, below_next b1 bx, ⟨by omega, by omega⟩, by omega, by omega, hAB⟩
    clear mk1 mk2 eA eB bx hR b1 lA lB hAB hMl hb1
    go_wp2_with fail
    go_loopw [11] (fun i wr => ∃ K : Nat, K ≤ n ∧ i = .int .i64 K ∧ ReW w wr n m gM gA gB (maxS (nbs E k) m n).R (fun v => decide (v < K)) (fun _ => false)) (fun i _ => n - (intOf i).toNat)
    case atStart => exact ⟨0, Nat.zero_le _, rfl, hW⟩
    case round =>
      clear hW
      obtain ⟨K, hK, rfl, hW⟩ := hrel
      by_cases hlt : K < n
      · have x0 : wr.cell? ⟨gA, K, none⟩ = _ := hW.a.cell hlt
        have f0 := hW.a.frozen K
        have hwrap : IntKind.i64.wrap ((K : Int) + 1) = (K : Int) + 1 := IntWalk.i64_in _ (by omega)
        have hW2 := hW.setA K true (t := fun v => decide (v < K + 1)) (fun j _ => by
          by_cases e : j = K
          · rw [if_pos e, decide_eq_true (by omega)]
          · rw [if_neg e]
            by_cases e2 : j < K
            · rw [decide_eq_true e2, decide_eq_true (by omega)]
            · rw [decide_eq_false e2, decide_eq_false (by omega)])
        clear hW
        go_wp2_with fail
        go_roundw
        case rel => exact ⟨K + 1, hlt, by go_num, hW2⟩
        case measure => simp [intOf]; omega
      · obtain rfl : K = n := by omega
        have hW1 : ReW w wr K m gM gA gB (maxS (nbs E k) m K).R (un4 (maxS (nbs E k) m K).R 0) (fun _ => false) := hW.congrA fun j hj => decide_eq_true hj
        clear hW
        go_wp2_with fail
        go_loopw [12] (fun i wr => ∃ J : Nat, J ≤ m ∧ i = .int .i64 J ∧ ReW w wr K m gM gA gB (maxS (nbs E k) m K).R (un4 (maxS (nbs E k) m K).R J) (fun _ => false)) (fun i _ => m - (intOf i).toNat)
        case atStart => exact ⟨0, Nat.zero_le _, rfl, hW1⟩
        case round =>
          clear hW1
          obtain ⟨J, hJ, rfl, hW⟩ := hrel
          by_cases hlt2 : J < m
          · have x0 : wr.cell? ⟨gM, J, none⟩ = some (.int .i64 ((maxS (nbs E k) m K).R J)) := hW.r.cell hlt2
            have hwrap : IntKind.i64.wrap ((J : Int) + 1) = (J : Int) + 1 := IntWalk.i64_in _ (by omega)
            rcases Mat.r HM.out J hlt2 with h1 | ⟨d, hd, h1, _⟩
            · have hst : Hid (un4 (maxS (nbs E k) m K).R (J + 1) = un4 (maxS (nbs E k) m K).R J) := by
                show (if 0 ≤ (maxS (nbs E k) m K).R J then _ else _) = _
                rw [if_neg (by omega)]
              rw [h1] at x0
              clear h1
              go_wp2_with fail
              go_roundw
              case rel => exact ⟨J + 1, hlt2, by go_num, by rw [hst.out]; exact hW⟩
              case measure => simp [intOf]; omega
            · have hW2 := hW.setA d false (t := un4 (maxS (nbs E k) m K).R (J + 1)) (fun j _ => by
                show _ = (if 0 ≤ (maxS (nbs E k) m K).R J then (fun v => if v = ((maxS (nbs E k) m K).R J).toNat then false else un4 (maxS (nbs E k) m K).R J v) else un4 (maxS (nbs E k) m K).R J) j
                have h0 : 0 ≤ (maxS (nbs E k) m K).R J := by omega
                rw [if_pos h0, h1]; rfl)
              have y0 : wr.cell? ⟨gA, d, none⟩ = _ := hW.a.cell hd
              have f0 := hW.a.frozen d
              rw [h1] at x0
              have q1 : decide ((0 : Int) ≤ (d : Int)) = true := decide_eq_true (by omega)
              clear h1 hW
              go_wp2_with fail
              go_roundw
              case rel => exact ⟨J + 1, hlt2, by go_num, hW2⟩
              case measure => simp [intOf]; omega
          · obtain rfl : J = m := by omega
            have hW1 : ReW w wr K J gM gA gB (maxS (nbs E k) J K).R (lfR (maxS (nbs E k) J K).L (fun _ => false)) (fun _ => false) := hW.congrA fun j hj => un4_end HM.out hj
            clear hW
            go_wp2_with fail
            go_loopw [13] (fun x wr => ∃ (cb : Bool) (s : Nat → Bool), x = .bool cb ∧ ReW w wr K J gM gA gB (maxS (nbs E k) J K).R (lfR (maxS (nbs E k) J K).L s) s ∧ Hid (∀ b, s b = true → mseen K J k E b = true) ∧ Hid (cb = false → ∀ i, i < k → lfR (maxS (nbs E k) J K).L s (E i).1.toNat = true → s (E i).2.toNat = true)) (fun x wr => un (rd wr gB) J + tru x)
            case atStart => exact ⟨true, _, rfl, hW1, Lib.hid (fun _ h => absurd h Bool.false_ne_true), Lib.hid (fun h => absurd h.symm Bool.false_ne_true)⟩
            case round =>
              clear hW1
              obtain ⟨cb, s, rfl, hW, hS, hC⟩ := hrel
              cases cb with
              | false =>
                have he := seen_end HV.out hS.out (hC.out rfl)
                have hA : wr.rowIs gA 4 K (bvals (mleft K J k E)) := by have := hW.a; rw [he] at this; exact this
                have hB : wr.rowIs gB 4 J (bvals (mseen K J k E)) := by rw [← he]; exact hW.b
                have h1 := hW.bl
                have h2 := hW.lo
                have h3 := hW.ne
                clear hW hS hC he
                go_wp2_with fail
                go_ret2
                exact ⟨gA, gB, rfl, h3.2.2, h2.1, h2.2, hA, hB, h1⟩
              | true =>
                have hu0 : Hid (un (rd wr gB) J = un s J) := Lib.hid (un_congr (rd_row hW.b))
                clear hC
                go_wp2_with fail
                go_loopw [13, 14] (fun x i wr => ∃ (cb : Bool) (t : Nat → Bool) (I : Nat), I ≤ k ∧ x = .bool cb ∧ i = .int .i64 I ∧ ReW w wr K J gM gA gB (maxS (nbs E k) J K).R (lfR (maxS (nbs E k) J K).L t) t ∧ Hid (∀ b, t b = true → mseen K J k E b = true) ∧ Hid (un t J ≤ un s J) ∧ Hid (cb = true → un t J < un s J) ∧ Hid (cb = false → ∀ i, i < I → lfR (maxS (nbs E k) J K).L t (E i).1.toNat = true → t (E i).2.toNat = true)) (fun _ i _ => k - (intOf i).toNat)
                case atStart => exact ⟨false, s, 0, Nat.zero_le _, rfl, rfl, hW, hS, Lib.hid (Nat.le_refl _), Lib.hid (fun h => absurd h Bool.false_ne_true), Lib.hid (fun _ _ h => absurd h (Nat.not_lt_zero _))⟩
                case round =>
                  clear hW hS
                  obtain ⟨cb, t, I, hI, rfl, rfl, hW, hS, hu1, hu2, hC⟩ := hrel
                  by_cases hlt3 : I < k
                  · obtain ⟨b0, off, rfl, hbl, hcz⟩ := (HH.out.below hW.bl) (by omega)
                    obtain ⟨x0, x1⟩ := hcz I hlt3
                    clear hcz
                    obtain ⟨⟨g1, g2⟩, g3, g4⟩ := HV.out.ran I hlt3
                    obtain ⟨a, ha⟩ := Int.eq_ofNat_of_zero_le g1
                    obtain ⟨b, hb⟩ := Int.eq_ofNat_of_zero_le g3
                    have han : a < K := by omega
                    have hbm : b < J := by omega
                    have hEI : Hid (E I = ((a : Int), (b : Int))) := Lib.hid (Prod.ext ha hb)
                    rw [ha] at x0
                    rw [hb] at x1
                    clear ha hb g1 g2 g3 g4
                    have hwrap : IntKind.i64.wrap ((I : Int) + 1) = (I : Int) + 1 := IntWalk.i64_in _ (by omega)
                    go_upto_region 18 with fail
                    go_quiet (fail)
                    have hW2 := hW.drewN nq
                    clear hW x0 x1 hbl
                    generalize wr.drewN nq = w3 at *
                    have y0 : w3.cell? ⟨gA, a, none⟩ = some (.bool (lfR (maxS (nbs E k) J K).L t a)) := hW2.a.cell han
                    have y1 : w3.cell? ⟨gB, b, none⟩ = some (.bool (t b)) := hW2.b.cell hbm
                    have hskip : (lfR (maxS (nbs E k) J K).L t a = false ∨ t b = true) → Hid (cb = false → ∀ i, i < I + 1 → lfR (maxS (nbs E k) J K).L t (E i).1.toNat = true → t (E i).2.toNat = true) := fun hor => Lib.hid fun hc i hi hl => by
                      by_cases e : i = I
                      · subst e
                        rw [hEI.out] at hl ⊢
                        rcases hor with h | h
                        · have hl2 : lfR (maxS (nbs E k) J K).L t a = true := hl
                          rw [h] at hl2; exact absurd hl2 Bool.false_ne_true
                        · exact h
                      · exact hC.out hc i (by omega) hl
                    cases hla : lfR (maxS (nbs E k) J K).L t a with
                    | false =>
                      have hC2 := hskip (.inl hla)
                      rw [hla] at y0
                      clear hskip hla hC
                      go_wp2_with fail
                      go_roundw
                      case rel => exact ⟨cb, t, I + 1, hlt3, rfl, by go_num, hW2, hS, hu1, hu2, hC2⟩
                      case measure => simp [intOf]; omega
                    | true =>
                      rw [hla] at y0
                      cases hrb : t b with
                      | true =>
                        have hC2 := hskip (.inr hrb)
                        rw [hrb] at y1
                        clear hskip hla hC hrb
                        go_wp2_with fail
                        go_roundw
                        case rel => exact ⟨cb, t, I + 1, hlt3, rfl, by go_num, hW2, hS, hu1, hu2, hC2⟩
                        case measure => simp [intOf]; omega
                      | false =>
                        obtain ⟨d, hd⟩ := step_f HV.out hS.out hlt3 hEI.out hla hrb
                        have hW3 := hW2.setB b
                        have HW4 := Lib.hid (hW3.setA d true (t := lfR (maxS (nbs E k) J K).L (mark t b)) hd.row)
                        have HS2 := Lib.hid hd.sub
                        have HU : Hid (un (mark t b) J < un s J) := Lib.hid (by have := hd.un_; have := hu1.out; omega)
                        have f1 := hW2.b.frozen b
                        have r0 : (w3.setCell ⟨gB, b, none⟩ (.bool true)).cell? ⟨gM, b, none⟩ = some (.int .i64 (d : Int)) := by
                          have : (w3.setCell ⟨gB, b, none⟩ (.bool true)).cell? ⟨gM, b, none⟩ = some (.int .i64 ((maxS (nbs E k) J K).R b)) := hW3.r.cell hbm
                          rw [hd.rb] at this; exact this
                        have z0 : (w3.setCell ⟨gB, b, none⟩ (.bool true)).cell? ⟨gA, d, none⟩ = _ := hW3.a.cell hd.dn
                        have f2 := hW3.a.frozen d
                        have hdn := hd.dn
                        have q1 : decide ((0 : Int) ≤ (d : Int)) = true := decide_eq_true (by omega)
                        rw [hrb] at y1
                        clear hskip hla hC hrb hd hS hu1 hu2 hW2 hW3
                        go_wp2_with fail
                        go_roundw
                        case rel => exact ⟨true, mark t b, I + 1, hlt3, rfl, by go_num, HW4.out, HS2, Lib.hid (Nat.le_of_lt HU.out), Lib.hid (fun _ => HU.out), Lib.hid (fun h => absurd h.symm Bool.false_ne_true)⟩
                        case measure => simp [intOf]; omega
                  · obtain rfl : I = k := by omega
                    have hu3 : un (rd wr gB) J = un t J := un_congr (rd_row hW.b)
                    go_wp2_with fail
                    go_roundw
                    case rel => exact ⟨cb, t, rfl, hW, hS, hC⟩
                    case measure =>
                      rw [hu0.out, hu3]
                      have q1 := hu1.out
                      cases cb with
                      | false => show un t J + 0 < un s J + 1; omega
                      | true => have q2 := hu2.out rfl; show un t J + 1 < un s J + 1; omega
end Go.Proofs.Ytmafnncpdccfdaa
