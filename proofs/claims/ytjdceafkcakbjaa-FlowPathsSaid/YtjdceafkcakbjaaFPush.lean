/- The contract of push. -/
import Derived.Test.YtjdceafkcakbjaaFPM
import Derived.Test.YtjdceafkcakbjaaFDist
namespace Go.Proofs.Ytjdceafkcakbjaa
open Go.RowKit
/- the pointers: a row with room behind it -/
structure AtR (w : World) (g c n : Nat) (A : Nat → Int) : Prop where
  row : ∃ f, w.rowIs g 3 c f ∧ ∀ v, v < n → f v = .int .i64 (A v)
  le : n ≤ c
section
variable {w w' : World} {g c n : Nat} {A : Nat → Int}
theorem AtR.cell (h : AtR w g c n A) {v : Nat} (hv : v < n) : w.cell? ⟨g, v, none⟩ = some (.int .i64 (A v)) := by
  obtain ⟨f, h1, h2⟩ := h.row
  rw [h1.cell (i := v) (by have := h.le; omega), h2 v hv]
theorem AtR.lt (h : AtR w g c n A) : g < w.heap.size := by obtain ⟨f, h1, _⟩ := h.row; exact h1.lt
theorem AtR.frozen (h : AtR w g c n A) (v : Nat) : w.frozen? ⟨g, v, none⟩ = false := by obtain ⟨f, h1, _⟩ := h.row; exact h1.frozen v
theorem AtR.below (h : AtR w g c n A) (hb : Below w.heap.size w w') : AtR w' g c n A := by
  obtain ⟨f, h1, h2⟩ := h.row
  exact ⟨⟨f, row_below h1 hb, h2⟩, h.le⟩
theorem AtR.setOther (h : AtR w g c n A) {a : Addr} (ha : g ≠ a.block) (u : Value) : AtR (w.setCell a u) g c n A := by
  obtain ⟨f, h1, h2⟩ := h.row
  exact ⟨⟨f, h1.setOther ha u, h2⟩, h.le⟩
theorem AtR.set (h : AtR w g c n A) (v : Nat) (x : Int) : AtR (w.setCell ⟨g, v, none⟩ (.int .i64 x)) g c n (up A v x) := by
  obtain ⟨f, h1, h2⟩ := h.row
  refine ⟨⟨_, h1.set v (.int .i64 x), fun j hj => ?_⟩, h.le⟩
  unfold up
  by_cases e : j = v
  · rw [if_pos e, if_pos e]
  · rw [if_neg e, if_neg e]; exact h2 j hj
end
structure PhAt (w : World) (N : Net) (gp gr gA gF gD gT cT t : Nat) (R d A : Nat → Int) : Prop where
  box : w.heap[gp]? = some (.cells #[.pointer (some ⟨gr, 0, none⟩), .slice (some ⟨gD, 0, none⟩) N.n N.n, .slice (some ⟨gT, 0, none⟩) N.n cT, .int .i64 (t : Int)] 97 (0, 0))
  res : Rsd w N gr gA gF R
  dist : w.rowIs gD 3 N.n (ivals d)
  at_ : AtR w gT cT N.n A
  nAT : gA ≠ gT
  nAD : gD ≠ gA
  nTD : gD ≠ gT
  npA : gp ≠ gA
  npT : gp ≠ gT
  nrT : gr ≠ gT
  nFT : gF ≠ gT
section
variable {w w' : World} {N : Net} {gp gr gA gF gD gT cT t : Nat} {R d A : Nat → Int}
theorem PhAt.b0 (h : PhAt w N gp gr gA gF gD gT cT t R d A) : w.cell? ⟨gp, 0, none⟩ = some (.pointer (some ⟨gr, 0, none⟩)) := cell_of_row _ _ 0 _ _ _ h.box
theorem PhAt.b1 (h : PhAt w N gp gr gA gF gD gT cT t R d A) : w.cell? ⟨gp, 1, none⟩ = some (.slice (some ⟨gD, 0, none⟩) N.n N.n) := cell_of_row _ _ 1 _ _ _ h.box
theorem PhAt.b2 (h : PhAt w N gp gr gA gF gD gT cT t R d A) : w.cell? ⟨gp, 2, none⟩ = some (.slice (some ⟨gT, 0, none⟩) N.n cT) := cell_of_row _ _ 2 _ _ _ h.box
theorem PhAt.b3 (h : PhAt w N gp gr gA gF gD gT cT t R d A) : w.cell? ⟨gp, 3, none⟩ = some (.int .i64 (t : Int)) := cell_of_row _ _ 3 _ _ _ h.box
theorem PhAt.a (h : PhAt w N gp gr gA gF gD gT cT t R d A) {v : Nat} (hv : v < N.n) : w.cell? ⟨gT, v, none⟩ = some (.int .i64 (A v)) := h.at_.cell hv
theorem PhAt.dd (h : PhAt w N gp gr gA gF gD gT cT t R d A) {v : Nat} (hv : v < N.n) : w.cell? ⟨gD, v, none⟩ = some (.int .i64 (d v)) := h.dist.cell hv
theorem PhAt.below (h : PhAt w N gp gr gA gF gD gT cT t R d A) (hb : Below w.heap.size w w') : PhAt w' N gp gr gA gF gD gT cT t R d A :=
  ⟨(hb.block gp (lt_of_block h.box)).trans h.box, ResB.below h.res hb, row_below h.dist hb, h.at_.below hb, h.nAT, h.nAD, h.nTD, h.npA, h.npT, h.nrT, h.nFT⟩
theorem PhAt.drew (h : PhAt w N gp gr gA gF gD gT cT t R d A) : PhAt w.drew N gp gr gA gF gD gT cT t R d A :=
  ⟨h.box, ResB.drew h.res, h.dist, ⟨h.at_.row, h.at_.le⟩, h.nAT, h.nAD, h.nTD, h.npA, h.npT, h.nrT, h.nFT⟩
theorem PhAt.drewN (h : PhAt w N gp gr gA gF gD gT cT t R d A) (q : Nat) : PhAt (w.drewN q) N gp gr gA gF gD gT cT t R d A :=
  ⟨h.box, ⟨h.res.box, h.res.arcs, h.res.first, h.res.n1, h.res.n2, h.res.n3⟩, h.dist, ⟨h.at_.row, h.at_.le⟩, h.nAT, h.nAD, h.nTD, h.npA, h.npT, h.nrT, h.nFT⟩
theorem PhAt.setRest (h : PhAt w N gp gr gA gF gD gT cT t R d A) (k : Nat) (x : Int) : PhAt (w.setCell ⟨gA, k * 4 + 1, none⟩ (.int .i64 x)) N gp gr gA gF gD gT cT t (up R k x) d A :=
  ⟨(Below.heap_setCell _ _ _ _ (by exact h.npA)).trans h.box, ResB.setRest h.res k x, h.dist.setOther (by exact h.nAD) _, h.at_.setOther (by exact Ne.symm h.nAT) _, h.nAT, h.nAD, h.nTD, h.npA, h.npT, h.nrT, h.nFT⟩
theorem PhAt.setAt (h : PhAt w N gp gr gA gF gD gT cT t R d A) (v : Nat) (x : Int) : PhAt (w.setCell ⟨gT, v, none⟩ (.int .i64 x)) N gp gr gA gF gD gT cT t R d (up A v x) :=
  ⟨(Below.heap_setCell _ _ _ _ (by exact h.npT)).trans h.box, ⟨(Below.heap_setCell _ _ _ _ (by exact h.nrT)).trans h.res.box, h.res.arcs.setOther (by exact h.nAT) _, h.res.first.setOther (by exact h.nFT) _, h.res.n1, h.res.n2, h.res.n3⟩, h.dist.setOther (by exact h.nTD) _, h.at_.set v x, h.nAT, h.nAD, h.nTD, h.npA, h.npT, h.nrT, h.nFT⟩
theorem PhAt.congr {R' A' : Nat → Int} (h : PhAt w N gp gr gA gF gD gT cT t R d A) (eR : ∀ k, R k = R' k) (eA : ∀ v, A v = A' v) : PhAt w N gp gr gA gF gD gT cT t R' d A' := by
  obtain rfl : R = R' := funext eR
  obtain rfl : A = A' := funext eA
  exact h
theorem PhAt.lA (h : PhAt w N gp gr gA gF gD gT cT t R d A) : gA < w.heap.size := h.res.arcs.lt
theorem PhAt.lT (h : PhAt w N gp gr gA gF gD gT cT t R d A) : gT < w.heap.size := h.at_.lt
end
def PushEnd (w : World) (lim : Nat) (N : Net) (gp gr gA gF gD gT cT t : Nat) (C R d A : Nat → Int) (a : Nat) (limit : Int) (e : Ending) (w' : World) : Prop :=
  ∃ sent R' A', e = .returned (.int .i64 sent) ∧ PhAt w' N gp gr gA gF gD gT cT t R' d A' ∧ Pushed N C d t a limit R A sent R' A' ∧ Below lim w w' ∧ Apart w w' gA gT
theorem Apart.trans {a b c : World} {g h : Nat} (k : Apart a b g h) (l : Apart b c g h) (hs : a.heap.size ≤ b.heap.size) : Apart a c g h := fun i hi h1 h2 =>
  (l i (by omega) h1 h2).trans (k i hi h1 h2)
theorem up_sent1 (R : Nat → Int) (k : Nat) (p : Int) : ∀ j, up (up R k (R k - p)) (bk k) (R (bk k) + p) j = sent1 R k p j := fun j => by
  unfold up sent1
  by_cases e : j = k
  · rw [if_pos e, if_neg (fun h => bk_ne k (h.symm.trans e)), if_pos e]
  · rw [if_neg e, if_neg e]
theorem up_la (A : Nat → Int) (a : Nat) (x : Int) : ∀ v, up A a x v = (fun v => if v = a then x else A v) v := fun _ => rfl
set_option maxRecDepth 100000 in
set_option maxHeartbeats 8000000 in
theorem push_any (lim : Nat) (N : Net) (gp gr gA gF gD gT cT t s : Nat) (C d R0 : Nat → Int) (ok : N.Ok) (hd : N.Dst R0 s d) (hC : ∀ i, i < N.m → C i ≤ 1125899906842624) (ht : t < N.n) (l1 : lim ≤ gA) (l2 : lim ≤ gT) :
    ∀ (j : Nat) (a : Nat) (limit : Int) (R A : Nat → Int) (w : World), a < N.n → 0 ≤ d a → (N.n : Int) - d a ≤ j → 0 < limit → limit ≤ 9223372036854775807 → N.Rest C R → N.AtOk A → PhAt w N gp gr gA gF gD gT cT t R d A →
    Calls Try.prog 70 #[.pointer (some ⟨gp, 0, none⟩), .int .i64 a, .int .i64 limit] w (PushEnd w lim N gp gr gA gF gD gT cT t C R d A a limit) := by
  intro j
  induction j with
  | zero =>
    intro a limit R A w ha h0 hj
    rcases hd.rng a ha with h1 | h1 <;> omega
  | succ j ih =>
    intro a limit R A w ha h0 hj hl0 hl1 hR hA h
    have HOK := Lib.hid ok
    have HD := Lib.hid hd
    have HC := Lib.hid hC
    have IH := Lib.hid ih
    clear ok hd hC ih
    have c3 := h.b3
    by_cases hat : a = t
    · subst hat
      have q : ((a : Int) == (a : Int)) = true := by simp
      have hend := Lib.hid (pushed_end (d := d) (t := a) (limit := limit) hR hA hl0)
      clear hR hA
      go_enter Try.func70, Try.ntmps70
      go_wp2_with fail
      go_ret
      exact ⟨limit, R, A, rfl, h, hend.out, Below.refl _ _, fun _ _ _ _ => rfl⟩
    · have q : ((a : Int) == (t : Int)) = false := beq_false_of_ne (by omega)
      have hst := Lib.hid (Pushing.start (d := d) (t := t) (a := a) (limit := limit) hR hA hl0)
      have HAT := Lib.hid hat
      clear hR hA hat
      go_enter Try.func70, Try.ntmps70
      go_wp2_with fail
      clear c3 q
      go_loopw [7, 8, 9, 10] (fun x _ _ _ wr => ∃ (sent : Int) (R' A' : Nat → Int), x = .int .i64 sent ∧ Hid (Pushing N C d t a limit R A sent R' A') ∧ PhAt wr N gp gr gA gF gD gT cT t R' d A' ∧ Below lim w wr ∧ Hid (Apart w wr gA gT) ∧ w.heap.size ≤ wr.heap.size) (fun _ _ _ _ wr => (intOf ((wr.cell? ⟨gT, a, none⟩).getD (.int .i64 0)) + 1).toNat)
      case atStart => exact ⟨0, R, A, rfl, hst, h, Below.refl _ _, fun _ _ _ _ => rfl, Nat.le_refl _⟩
      case round =>
        clear hst h
        obtain ⟨sent, R', A', rfl, hps, hP, hB, hAp, hsz⟩ := hrel
        have c2 := hP.b2
        have ca := hP.a ha
        by_cases hK : A' a = -1
        · have q : (A' a != -1) = false := by rw [hK]; rfl
          have hend := Lib.hid (hps.out.stop HAT.out hK)
          generalize A' a = z at *
          go_wp2_with fail
          go_ret
          exact ⟨sent, R', A', rfl, hP, hend.out, hB, hAp.out⟩
        · obtain ⟨k, hk, hk2, hkf⟩ : ∃ k : Nat, A' a = (k : Int) ∧ k < 2 * N.m ∧ N.aF k = a := (hps.out.ok a ha).resolve_left hK
          have q : ((k : Int) != -1) = true := bne_iff_ne.2 (by omega)
          have hcell : (intOf ((wr.cell? ⟨gT, a, none⟩).getD (.int .i64 0)) + 1).toNat = k + 1 := by rw [ca, hk]; simp [intOf]
          rw [hk] at ca
          have c0 := hP.b0
          have r0 := hP.res.b0
          have kt := hP.res.t hk2
          have kr := hP.res.r hk2
          have kb := hP.res.b hk2
          have kx := hP.res.x hk2
          have hbn := HOK.out.aT hk2
          have HK := Lib.hid hk
          clear hK hk
          replace kx : wr.cell? ⟨gA, k * 4 + 3, none⟩ = some (.int .i64 (N.la a k)) := by rw [kx]; show some (Value.int .i64 (N.la (N.aF k) k)) = _; rw [hkf]
          have HKF := Lib.hid hkf
          clear hkf
          have bx := below_new wr (.cells #[.int .i64 ((N.aT k : Nat) : Int), .int .i64 (R' k), .int .i64 ((bk k : Nat) : Int), .int .i64 (N.la a k)] 71)
          have hPx := hP.below bx
          have ex : (wr.alloc (.cells #[.int .i64 ((N.aT k : Nat) : Int), .int .i64 (R' k), .int .i64 ((bk k : Nat) : Int), .int .i64 (N.la a k)] 71)).heap[wr.heap.size]? = some (.cells #[.int .i64 ((N.aT k : Nat) : Int), .int .i64 (R' k), .int .i64 ((bk k : Nat) : Int), .int .i64 (N.la a k)] 71 (0, 0)) := heap_alloc_new wr _
          have hxl := lt_of_block ex
          have hxA : wr.heap.size ≠ gA := fun e => by have := hP.lA; omega
          have hxT : wr.heap.size ≠ gT := fun e => by have := hP.lT; omega
          go_upto_region 7 with fail
          generalize hW : wr.alloc (.cells #[.int .i64 ((N.aT k : Nat) : Int), .int .i64 (R' k), .int .i64 ((bk k : Nat) : Int), .int .i64 (N.la a k)] 71) = W at *
          clear hW c0 c2 r0 kt kr kb kx ca
          have y0 : W.cell? ⟨wr.heap.size, 0, none⟩ = some (.int .i64 ((N.aT k : Nat) : Int)) := cell_of_row _ _ 0 _ _ _ ex
          have y1 : W.cell? ⟨wr.heap.size, 1, none⟩ = some (.int .i64 (R' k)) := cell_of_row _ _ 1 _ _ _ ex
          have c1 := hPx.b1
          have ca := hPx.dd ha
          have cb := hPx.dd hbn
          have hda : d a < N.n := by rcases HD.out.rng a ha with h1 | h1 <;> omega
          have hwr : IntKind.i64.wrap (d a + 1) = d a + 1 := IntWalk.i64_in _ (by have := HOK.out.n2; omega)
          have y2 : W.cell? ⟨wr.heap.size, 2, none⟩ = some (.int .i64 ((bk k : Nat) : Int)) := cell_of_row _ _ 2 _ _ _ ex
          clear ex
          obtain ⟨b, hb⟩ : ∃ b, b = N.aT k := ⟨_, rfl⟩
          rw [← hb] at y0 cb hbn
          have HBT := Lib.hid hb
          obtain ⟨rk, hrk⟩ : ∃ rk, rk = R' k := ⟨_, rfl⟩
          rw [← hrk] at y1
          have HRK := Lib.hid hrk
          go_cut [64] from 18 to 128 (fun c wx => c = .bool (decide (0 < rk ∧ d b = d a + 1)) ∧ ∃ q, wx = W.drewN q)
          case first =>
            clear hps hP hB hAp hPx HRK HBT hrk hb
            by_cases h1 : 0 < rk
            · have q1 : decide (0 < rk) = true := decide_eq_true h1
              by_cases h2 : d b = d a + 1
              · have q2 : (d b == d a + 1) = true := beq_iff_eq.2 h2
                have q3 : decide (0 < rk ∧ d b = d a + 1) = true := decide_eq_true ⟨h1, h2⟩
                have Q3 := Lib.hid q3
                clear q3
                clear h1 h2
                generalize d a = da at *
                generalize d b = db at *
                go_quiet (fail)
                go_wp2_with fail
                go_meet
                all_goals exact ⟨congrArg Value.bool Q3.out.symm, _, rfl⟩
              · have q2 : (d b == d a + 1) = false := beq_false_of_ne h2
                have q3 : decide (0 < rk ∧ d b = d a + 1) = false := decide_eq_false (fun h => h2 h.2)
                have Q3 := Lib.hid q3
                clear q3
                clear h1 h2
                generalize d a = da at *
                generalize d b = db at *
                go_quiet (fail)
                go_wp2_with fail
                go_meet
                all_goals exact ⟨congrArg Value.bool Q3.out.symm, _, rfl⟩
            · have q1 : decide (0 < rk) = false := decide_eq_false h1
              have q3 : decide (0 < rk ∧ d b = d a + 1) = false := decide_eq_false (fun h => h1 h.1)
              have Q3 := Lib.hid q3
              clear q3
              clear h1
              generalize d a = da at *
              generalize d b = db at *
              go_quiet (fail)
              go_wp2_with fail
              go_meet
              all_goals exact ⟨congrArg Value.bool Q3.out.symm, _, rfl⟩
          case rest =>
            obtain ⟨rfl, q, rfl⟩ := hcut
            have hPq := hPx.drewN q
            have z0 : (W.drewN q).cell? ⟨wr.heap.size, 0, none⟩ = some (.int .i64 (b : Int)) := y0
            have z1 : (W.drewN q).cell? ⟨wr.heap.size, 1, none⟩ = some (.int .i64 rk) := y1
            have z2 : (W.drewN q).cell? ⟨wr.heap.size, 2, none⟩ = some (.int .i64 ((bk k : Nat) : Int)) := y2
            have bq := below_drewN bx q
            have hxq : wr.heap.size < (W.drewN q).heap.size := hxl
            clear y0 y1 y2 c1 ca cb hPx bx hxl hrk hb
            generalize W.drewN q = V at *
            have hs0 := hps.out.s0
            have hs1 := hps.out.s1
            by_cases hel : 0 < rk ∧ d b = d a + 1
            · have hde : decide (0 < rk ∧ d b = d a + 1) = true := decide_eq_true hel
              have HCAL : Hid (∀ L : Int, 0 < L → L ≤ limit - sent → L ≤ rk → Calls Try.prog 70 #[.pointer (some ⟨gp, 0, none⟩), .int .i64 b, .int .i64 L] V (PushEnd V lim N gp gr gA gF gD gT cT t C R' d A' b L)) := fun L x1 x2 x3 =>
                IH.out b L R' A' V hbn (by omega) (by omega) x1 (by omega) hps.out.rest hps.out.ok hPq
              have hw1 : IntKind.i64.wrap (limit - sent) = limit - sent := IntWalk.i64_in _ (by omega)
              have hr0 : 0 < R' k := by rw [← HRK.out]; exact hel.1
              have hd0 : d (N.aT k) = d a + 1 := by rw [← HBT.out]; exact hel.2
              have HEL := Lib.hid hel
              have hel1 := hel.1
              clear hel
              rw [hde]
              go_wp2_with fail
              all_goals
                refine (HCAL.out _ (by omega) (by omega) (by omega)).mono ?_
                rintro e w1 ⟨part, R1, A1, rfl, hP1, hpd, b1, a1⟩
                have HBT' := HBT.out
                subst HBT'
                have HPD := Lib.hid hpd
                have hlb := HRK.out
                obtain ⟨e1, e2, e3, _, _, _, _⟩ := hps.out.child HK.out hk2 HKF.out ha HOK.out hr0 hd0 hpd (by omega) (by omega)
                have hp0 := hpd.s0
                have hp1 := hpd.s1
                have f1 := Lib.hid (fun hf => hps.out.full HK.out hk2 HKF.out ha HOK.out hr0 hd0 hpd (by omega) (by omega) hf)
                have f2 := Lib.hid (fun hf => hps.out.next HK.out hk2 HKF.out ha HOK.out hr0 hd0 hpd (by omega) (by omega) hf)
                have hCk := HC.out (k / 2) (by omega)
                have hpr := hpd.rest.pair hk2
                have hrb := hpd.rest.r0 _ (bk_lt hk2)
                have hrk0 := hpd.rest.r0 _ hk2
                have hw2 : IntKind.i64.wrap (R1 k - part) = R1 k - part := IntWalk.i64_in _ (by omega)
                have hw3 : IntKind.i64.wrap (R1 (bk k) + part) = R1 (bk k) + part := IntWalk.i64_in _ (by omega)
                have hw4 : IntKind.i64.wrap (sent + part) = sent + part := IntWalk.i64_in _ (by omega)
                have hE2 := Lib.hid e2
                have hbx : w1.heap[wr.heap.size]? = V.heap[wr.heap.size]? := a1 _ hxq hxA hxT
                have x2 : w1.cell? ⟨wr.heap.size, 2, none⟩ = some (.int .i64 ((bk k : Nat) : Int)) := (World.cell?_of_block (w := V) hbx).trans z2
                have c0 := hP1.b0
                have r0 := hP1.res.b0
                have kr := hP1.res.r hk2
                have kf := hP1.res.arcs.frozen (k * 4 + 1)
                have hP2 := hP1.setRest k (R1 k - part)
                clear e1 e2 e3 hpd hlb hpr hbx HCAL hCk
                have x2' : (w1.setCell ⟨gA, k * 4 + 1, none⟩ (.int .i64 (R1 k - part))).cell? ⟨wr.heap.size, 2, none⟩ = some (.int .i64 ((bk k : Nat) : Int)) := (World.cell?_of_block (w := w1) (Below.heap_setCell w1 _ _ _ (by exact hxA))).trans x2
                have kr' : (w1.setCell ⟨gA, k * 4 + 1, none⟩ (.int .i64 (R1 k - part))).cell? ⟨gA, bk k * 4 + 1, none⟩ = some (.int .i64 (R1 (bk k))) := by
                  rw [hP2.res.r (bk_lt hk2)]; unfold up; rw [if_neg (bk_ne k)]
                have b2 := b1.setCell (p := ⟨gA, k * 4 + 1, none⟩) (by exact l1) (.int .i64 (R1 k - part))
                have a2 := apart_set a1 (q := ⟨gA, k * 4 + 1, none⟩) (Or.inl rfl) (.int .i64 (R1 k - part))
                have hP3 := ((hP2.drew).setRest (bk k) (R1 (bk k) + part)).congr (up_sent1 R1 k part) (fun _ => rfl)
                go_upto_region 10 with fail
                generalize w1.setCell ⟨gA, k * 4 + 1, none⟩ (.int .i64 (R1 k - part)) = V2 at *
                have hsz1 := hP1.lA
                clear c0 r0 kr kf x2 hP1 a1 b1
                have c0 := hP2.b0
                have r0 := hP2.res.b0
                have kf := hP2.res.arcs.frozen (bk k * 4 + 1)
                have hbl := bk_lt hk2
                clear hP2
                generalize bk k = kb at *
                have hbi : (kb : Int) < 2 * (N.m : Int) := by omega
                go_still_tail 16, (by kernel_rfl)
                change wpList _ _ _ _ _ V2.drew
                have b3 := b2.drew.setCell (p := ⟨gA, kb * 4 + 1, none⟩) (by exact l1) (.int .i64 (R1 kb + part))
                have a3 := apart_set a2.drew (q := ⟨gA, kb * 4 + 1, none⟩) (Or.inl rfl) (.int .i64 (R1 kb + part))
                have kr9 : V2.drew.cell? ⟨gA, kb * 4 + 1, none⟩ = some (.int .i64 (R1 kb)) := kr'
                have kf9 : V2.drew.frozen? ⟨gA, kb * 4 + 1, none⟩ = false := kf
                generalize V2.drew = V8 at *
                go_upto_region 12 with fail
                generalize V8.setCell ⟨gA, kb * 4 + 1, none⟩ (.int .i64 (R1 kb + part)) = V3 at *
                clear c0 r0 kf kr' x2' b2 a2 kr9 kf9
                have hlw : lim ≤ wr.heap.size := by have := hP.lA; omega
                have b9 := (hB.trans (bq.mono hlw)).trans b3
                have a9 := (Apart.trans hAp.out (fun i hi _ _ => bq.block i hi) hsz).trans a3 (Nat.le_trans hsz bq.size)
                by_cases hf : sent + part = limit
                · have q3 : (sent + part == limit) = true := beq_iff_eq.2 hf
                  have F1 := Lib.hid (f1.out hf)
                  have A9 := Lib.hid a9
                  clear a9 a3 f1 f2 hf
                  generalize sent + part = sp at *
                  go_wp2_with fail
                  go_ret
                  exact ⟨sp, _, A1, rfl, hP3, F1.out, b9, A9.out⟩
                · have q3 : (sent + part == limit) = false := beq_false_of_ne hf
                  have b4sz : wr.heap.size ≤ V3.heap.size := Nat.le_trans bq.size b3.size
                  have c0 := hP3.b0
                  have c2 := hP3.b2
                  have r0 := hP3.res.b0
                  have kx : V3.cell? ⟨gA, k * 4 + 3, none⟩ = some (.int .i64 (N.la a k)) := by rw [hP3.res.x hk2]; show some (Value.int .i64 (N.la (N.aF k) k)) = _; rw [HKF.out]
                  have tf := hP3.at_.frozen a
                  have ta := hP3.a ha
                  have hP4 := (hP3.drew.setAt a (N.la a k)).congr (fun _ => rfl) (up_la A1 a (N.la a k))
                  have hlz := N.la_lt a k; have hki : (k : Int) < 2 * (N.m : Int) := by omega
                  have hmeas : (intOf (((V3.drew.setCell ⟨gT, a, none⟩ (.int .i64 (N.la a k))).cell? ⟨gT, a, none⟩).getD (.int .i64 0)) + 1).toNat < (intOf ((wr.cell? ⟨gT, a, none⟩).getD (.int .i64 0)) + 1).toNat := by
                    rw [hcell, hP4.a ha]
                    simp [intOf]
                    omega
                  have HM := Lib.hid hmeas
                  have b4 := (b9).drew.setCell (p := ⟨gT, a, none⟩) (by exact l2) (.int .i64 (N.la a k))
                  have a4 := Lib.hid (apart_set (Apart.drew (a9)) (q := ⟨gT, a, none⟩) (Or.inr rfl) (.int .i64 (N.la a k)))
                  have F4 : Hid (Pushing N C d t a limit R A (sent + part) (sent1 R1 k part) (fun v => if v = a then N.la a k else A1 v)) := by have := f2.out hf; rw [HKF.out] at this; exact this
                  clear hmeas hcell
                  go_upto_region 13 with fail
                  go_still_tail 17, (by kernel_rfl)
                  change wpList _ _ _ _ _ V3.drew
                  have ta9 : V3.drew.cell? ⟨gT, a, none⟩ = _ := ta
                  have tf9 : V3.drew.frozen? ⟨gT, a, none⟩ = false := tf
                  generalize V3.drew = V9 at *
                  generalize N.la a k = la at *
                  generalize hV5 : V9.setCell ⟨gT, a, none⟩ (.int .i64 la) = V5 at *
                  go_wp2_with fail
                  go_roundw
                  case rel => exact ⟨_, _, _, rfl, F4, hP4, b4, a4, b4.size⟩
                  case measure => exact HM.out
            · have hde : decide (0 < rk ∧ d b = d a + 1) = false := decide_eq_false hel
              rw [hde]
              have hno : ¬ (0 < R' k ∧ d (N.aT k) = d a + 1) := by rw [← HRK.out, ← HBT.out]; exact hel
              have q3 : (sent == limit) = false := beq_false_of_ne (by omega)
              have hlw : lim ≤ wr.heap.size := by have := hP.lA; omega
              have b9 := hB.trans (bq.mono hlw)
              have a9 := Apart.trans hAp.out (fun i hi _ _ => bq.block i hi) hsz
              have b4sz := bq.size
              have c0 := hPq.b0
              have c2 := hPq.b2
              have r0 := hPq.res.b0
              have kx : V.cell? ⟨gA, k * 4 + 3, none⟩ = some (.int .i64 (N.la a k)) := by rw [hPq.res.x hk2]; show some (Value.int .i64 (N.la (N.aF k) k)) = _; rw [HKF.out]
              have tf := hPq.at_.frozen a
              have ta := hPq.a ha
              have hP4 := (hPq.drew.setAt a (N.la a k)).congr (fun _ => rfl) (up_la A' a (N.la a k))
              have hlz := N.la_lt a k; have hki : (k : Int) < 2 * (N.m : Int) := by omega
              have hmeas : (intOf (((V.drew.setCell ⟨gT, a, none⟩ (.int .i64 (N.la a k))).cell? ⟨gT, a, none⟩).getD (.int .i64 0)) + 1).toNat < (intOf ((wr.cell? ⟨gT, a, none⟩).getD (.int .i64 0)) + 1).toNat := by
                rw [hcell, hP4.a ha]
                simp [intOf]
                omega
              have HM := Lib.hid hmeas
              have b4 := (b9).drew.setCell (p := ⟨gT, a, none⟩) (by exact l2) (.int .i64 (N.la a k))
              have a4 := Lib.hid (apart_set (Apart.drew (a9)) (q := ⟨gT, a, none⟩) (Or.inr rfl) (.int .i64 (N.la a k)))
              have F4 : Hid (Pushing N C d t a limit R A sent R' (fun v => if v = a then N.la a k else A' v)) := by have := hps.out.skip HK.out hk2 HKF.out HOK.out hno; rw [HKF.out] at this; exact this
              clear hmeas hcell
              go_upto_region 13 with fail
              go_still_tail 17, (by kernel_rfl)
              change wpList _ _ _ _ _ V.drew
              have ta9 : V.drew.cell? ⟨gT, a, none⟩ = _ := ta
              have tf9 : V.drew.frozen? ⟨gT, a, none⟩ = false := tf
              generalize V.drew = V9 at *
              generalize N.la a k = la at *
              generalize hV5 : V9.setCell ⟨gT, a, none⟩ (.int .i64 la) = V5 at *
              go_wp2_with fail
              go_roundw
              case rel => exact ⟨_, _, _, rfl, F4, hP4, b4, a4, b4.size⟩
              case measure => exact HM.out
end Go.Proofs.Ytjdceafkcakbjaa
