/- The reference's reach, walked. -/
import Derived.Test.YtjdceafkcakbjaaFRea
namespace Go.Proofs.Ytjdceafkcakbjaa
open Go.RowKit
theorem QAt.form {w : World} {base g : Nat} {v : Value} {l : List Nat} (h : QAt w base g v l) : ∃ o cap, v = .slice (some ⟨g, o, none⟩) l.length cap := by
  obtain ⟨o, cap, _, _, e, _⟩ := h
  exact ⟨o, cap, e⟩
def lenV : Value → Nat
  | .slice _ l _ => l
  | _ => 0
def ReaEnd (w : World) (N : Net) (R : Nat → Int) (s : Nat) (e : Ending) (w' : World) : Prop :=
  ∃ gS gB q b, e = .returned (.tuple #[.slice (some ⟨gS, 0, none⟩) N.n N.n, .slice (some ⟨gB, 0, none⟩) N.n N.n]) ∧ w'.rowIs gS 4 N.n (bvals q) ∧ w'.rowIs gB 3 N.n (ivals b) ∧ N.Rb R s q.length q b ∧ w.heap.size ≤ gS ∧ w.heap.size ≤ gB ∧ gS ≠ gB ∧ Below w.heap.size w w'
def negs (K : Nat) : Nat → Int := fun j => if j < K then -1 else 0
theorem negs_step (K : Nat) : ∀ j, up (negs K) K (-1) j = negs (K + 1) j := fun j => by
  unfold up negs
  by_cases e : j = K
  · rw [if_pos e, if_pos (by omega)]
  · rw [if_neg e]
    by_cases h : j < K
    · rw [if_pos h, if_pos (by omega)]
    · rw [if_neg h, if_neg (by omega)]
/- everything that the search has in memory -/
structure ReaAt (w wr : World) (n m c p0 gS gB g : Nat) (A : Option Addr) (v : Value) (todo q : List Nat) (b : Nat → Int) : Prop where
  net : NetAt wr p0 n A m c
  se : wr.rowIs gS 4 n (bvals q)
  by_ : wr.rowIs gB 3 n (ivals b)
  qu : QAt wr (w.heap.size + 3) g v todo
  bl : Below w.heap.size w wr
theorem Net.aF_ev (N : Net) (i : Nat) : N.aF (2 * i) = N.fr i := by unfold Net.aF; rw [if_pos (by omega), show 2 * i / 2 = i by omega]
theorem Net.aT_ev (N : Net) (i : Nat) : N.aT (2 * i) = N.tt i := by unfold Net.aT; rw [if_pos (by omega), show 2 * i / 2 = i by omega]
theorem Net.aF_od (N : Net) (i : Nat) : N.aF (2 * i + 1) = N.tt i := by unfold Net.aF; rw [if_neg (by omega), show (2 * i + 1) / 2 = i by omega]
theorem Net.aT_od (N : Net) (i : Nat) : N.aT (2 * i + 1) = N.fr i := by unfold Net.aT; rw [if_neg (by omega), show (2 * i + 1) / 2 = i by omega]
section
variable {w wr w2 : World} {n m c p0 gS gB g : Nat} {A : Option Addr} {v : Value} {todo q : List Nat} {b : Nat → Int}
theorem ReaAt.below (h : ReaAt w wr n m c p0 gS gB g A v todo q b) (k : Below wr.heap.size wr w2) : ReaAt w w2 n m c p0 gS gB g A v todo q b :=
  ⟨h.net.below k, row_below h.se k, row_below h.by_ k, h.qu.below k, below_next h.bl k⟩
theorem ReaAt.drewN (h : ReaAt w wr n m c p0 gS gB g A v todo q b) (k : Nat) : ReaAt w (wr.drewN k) n m c p0 gS gB g A v todo q b := h.below (below_drewN (Below.refl _ _) k)
/- a node found: both rows, and the box for the queue -/
theorem ReaAt.found (h : ReaAt w wr n m c w.heap.size (w.heap.size + 1) (w.heap.size + 2) g A v todo q b) (t : Nat) (x : Int) :
    ReaAt w (((wr.setCell ⟨w.heap.size + 1, t, none⟩ (.bool true)).setCell ⟨w.heap.size + 2, t, none⟩ (.int .i64 x)).alloc (.cells #[.int .i64 (t : Int)] 3)) n m c w.heap.size (w.heap.size + 1) (w.heap.size + 2) g A v todo (q ++ [t]) (fun y => if y = t then x else b y) ∧
    (((wr.setCell ⟨w.heap.size + 1, t, none⟩ (.bool true)).setCell ⟨w.heap.size + 2, t, none⟩ (.int .i64 x)).alloc (.cells #[.int .i64 (t : Int)] 3)).heap[wr.heap.size]? = some (.cells #[.int .i64 (t : Int)] 3 (0, 0)) := by
  have hq := h.qu.lt
  refine ⟨⟨((h.net.far (by show w.heap.size ≠ w.heap.size + 1; omega) _).far (by show w.heap.size ≠ w.heap.size + 2; omega) _).alloc _, ?_, ?_, ?_, ?_⟩, ?_⟩
  · refine (((h.se.set t (.bool true)).setOther (a := ⟨w.heap.size + 2, t, none⟩) (by show w.heap.size + 1 ≠ w.heap.size + 2; omega) _).alloc _).congr fun j _ => ?_
    show (if j = t then Value.bool true else bvals q j) = bvals (q ++ [t]) j
    unfold bvals
    by_cases e : j = t <;> simp [e]
  · refine (((h.by_.setOther (a := ⟨w.heap.size + 1, t, none⟩) (by show w.heap.size + 2 ≠ w.heap.size + 1; omega) (.bool true)).set t (.int .i64 x)).alloc _).congr fun j _ => ?_
    show (if j = t then Value.int .i64 x else .int .i64 (b j)) = .int .i64 (if j = t then x else b j)
    by_cases e : j = t
    · rw [if_pos e, if_pos e]
    · rw [if_neg e, if_neg e]
  · refine h.qu.of_block ?_
    rw [Below.heap_alloc _ _ _ (by simp [World.setCell]; exact hq.2), Below.heap_setCell _ _ _ _ (by show g ≠ w.heap.size + 2; omega), Below.heap_setCell _ _ _ _ (by show g ≠ w.heap.size + 1; omega)]
  · have b1 := (h.bl.setCell (p := ⟨w.heap.size + 1, t, none⟩) (by show w.heap.size ≤ w.heap.size + 1; omega) (.bool true)).setCell (p := ⟨w.heap.size + 2, t, none⟩) (by show w.heap.size ≤ w.heap.size + 2; omega) (.int .i64 x)
    exact b1.alloc b1.size _
  · have := heap_alloc_new ((wr.setCell ⟨w.heap.size + 1, t, none⟩ (.bool true)).setCell ⟨w.heap.size + 2, t, none⟩ (.int .i64 x)) (.cells #[.int .i64 (t : Int)] 3)
    rw [show ((wr.setCell ⟨w.heap.size + 1, t, none⟩ (.bool true)).setCell ⟨w.heap.size + 2, t, none⟩ (.int .i64 x)).heap.size = wr.heap.size by simp [World.setCell]] at this
    exact this
theorem ReaAt.pushed {v' : Value} {g' : Nat} (h : ReaAt w wr n m c w.heap.size (w.heap.size + 1) (w.heap.size + 2) g A v todo q b) (i : Nat) (hq : QAt w2 (w.heap.size + 3) g' v' (todo ++ [i])) (hb : Below (w.heap.size + 3) wr w2) :
    ReaAt w w2 n m c w.heap.size (w.heap.size + 1) (w.heap.size + 2) g' A v' (todo ++ [i]) q b :=
  ⟨(hb.block _ (by omega)).trans h.net, h.se.of_block (hb.block _ (by omega)), h.by_.of_block (hb.block _ (by omega)), hq, h.bl.trans (hb.mono (by omega))⟩
theorem ReaAt.se_at (h : ReaAt w wr n m c p0 gS gB g A v todo q b) {t : Nat} (ht : t < n) (x : Bool) (hx : x = true ↔ t ∈ q) : wr.cell? ⟨gS, t, none⟩ = some (.bool x) := by
  rw [h.se.cell ht]; unfold bvals
  cases x with
  | true => rw [decide_eq_true (hx.1 rfl)]
  | false => rw [decide_eq_false (fun e => by cases hx.2 e)]
end
set_option maxRecDepth 100000 in
set_option maxHeartbeats 16000000 in
set_option pp.deepTerms true in
set_option pp.maxSteps 100000 in
theorem reach_any (n m c cl s : Nat) (A L : Option Addr) (E : Nat → EdgeD) (g : Nat → Int) (w : World) (h : Edges w A m E) (hv : VNet n m E) (hL : Ints w L m g) (hs : s < n) :
    Calls Try.prog 51 #[.agg #[.int .i64 n, .slice A m c], .int .i64 s, .slice L m cl] w (ReaEnd w (netOf n m E) (resid (netOf n m E).cp g) s) := by
  have HH := Lib.hid h; clear h
  have HL := Lib.hid hL; clear hL
  have hm := hv.2.2.1
  have hn5 : n ≤ 512 := by have := hv.2.1; omega
  have HV := Lib.hid hv; clear hv
  have n0 := netAt_new w n A m c
  have b0 := below_new w (.cells #[.int .i64 n, .slice A m c] 24)
  have c0 := n0.c0
  have hmk1 := make_bools n (by omega)
  have hmk2 := make_ints n (by omega)
  have n1 := n0.alloc (.cells (madeCells #[.bool false] n) 4)
  have n2 := n1.alloc (.cells (madeCells #[.int .i64 0] n) 3)
  have b1 := b0.alloc b0.size (.cells (madeCells #[.bool false] n) 4)
  have b2 := b1.alloc b1.size (.cells (madeCells #[.int .i64 0] n) 3)
  have c2 := n1.c0
  have hS : ((w.alloc (.cells #[.int .i64 n, .slice A m c] 24)).alloc (.cells (madeCells #[.bool false] n) 4)).rowIs (w.heap.size + 1) 4 n (bvals []) := by
    have := World.rowIs_made (w.alloc (.cells #[.int .i64 n, .slice A m c] 24)) (.bool false) n 4
    rw [show (w.alloc (.cells #[.int .i64 n, .slice A m c] 24)).heap.size = w.heap.size + 1 by simp] at this
    exact this.congr fun j _ => by unfold bvals; simp
  have hS2 := hS.alloc (.cells (madeCells #[.int .i64 0] n) 3)
  have hBy : (((w.alloc (.cells #[.int .i64 n, .slice A m c] 24)).alloc (.cells (madeCells #[.bool false] n) 4)).alloc (.cells (madeCells #[.int .i64 0] n) 3)).rowIs (w.heap.size + 2) 3 n (ivals (negs 0)) := by
    have := World.rowIs_made ((w.alloc (.cells #[.int .i64 n, .slice A m c] 24)).alloc (.cells (madeCells #[.bool false] n) 4)) (.int .i64 0) n 3
    rw [show ((w.alloc (.cells #[.int .i64 n, .slice A m c] 24)).alloc (.cells (madeCells #[.bool false] n) 4)).heap.size = w.heap.size + 2 by simp] at this
    exact this.congr fun j _ => by unfold ivals negs; rw [if_neg (Nat.not_lt_zero _)]
  have hsz : (((w.alloc (.cells #[.int .i64 n, .slice A m c] 24)).alloc (.cells (madeCells #[.bool false] n) 4)).alloc (.cells (madeCells #[.int .i64 0] n) 3)).heap.size = w.heap.size + 3 := by simp
  go_enter Try.func51, Try.ntmps51
  go_wp2_with fail
  clear c0 c2 hmk1 hmk2 n0 n1 b0 b1 hS
  generalize hW : ((w.alloc (.cells #[.int .i64 (n : Int), .slice A m c] 24)).alloc (.cells (madeCells #[.bool false] n) 4)).alloc (.cells (madeCells #[.int .i64 0] n) 3) = W at *
  clear hW
  go_loopw [10] (fun i wr => ∃ K : Nat, K ≤ n ∧ i = .int .i64 K ∧ NetAt wr w.heap.size n A m c ∧ wr.rowIs (w.heap.size + 1) 4 n (bvals []) ∧ wr.rowIs (w.heap.size + 2) 3 n (ivals (negs K)) ∧ Below w.heap.size w wr ∧ wr.heap.size = w.heap.size + 3) (fun i _ => n - (intOf i).toNat)
  case atStart => exact ⟨0, by omega, rfl, n2, hS2, hBy, b2, hsz⟩
  case round =>
    clear n2 hS2 hBy b2 hsz
    obtain ⟨K, hK, rfl, hN, hS, hBy, hB, hz⟩ := hrel
    have k0 := hN.c0
    have hwrap : IntKind.i64.wrap ((K : Int) + 1) = (K : Int) + 1 := IntWalk.i64_in _ (by omega)
    by_cases hlt : K < n
    · have z0 := hBy.cell hlt
      have z1 := hBy.frozen K
      have hBy3 := ivals_set hBy (negs_step K)
      have hN3 := hN.far (q := ⟨w.heap.size + 2, K, none⟩) (by show w.heap.size ≠ w.heap.size + 2; omega) (.int .i64 (-1))
      have hS3 := hS.setOther (a := ⟨w.heap.size + 2, K, none⟩) (by show w.heap.size + 1 ≠ w.heap.size + 2; omega) (.int .i64 (-1))
      have B3 := hB.setCell (p := ⟨w.heap.size + 2, K, none⟩) (by show w.heap.size ≤ w.heap.size + 2; omega) (.int .i64 (-1))
      have hz3 : (wr.setCell ⟨w.heap.size + 2, K, none⟩ (.int .i64 (-1))).heap.size = w.heap.size + 3 := by simp [World.setCell, hz]
      clear hN hS hBy hB hz
      go_wp2_with fail
      go_roundw
      case rel => exact ⟨K + 1, by omega, by go_num, hN3, hS3, hBy3, B3, hz3⟩
      case measure => simp [intOf]; omega
    · obtain rfl : K = n := by omega
      have z0 := hS.cell hs
      replace z0 : wr.cell? ⟨w.heap.size + 1, s, none⟩ = some (.bool false) := by rw [z0]; unfold bvals; simp
      have z1 := hS.frozen s
      have hS3 := (hS.set s (.bool true)).congr (g := bvals [s]) (fun j _ => by
        show (if j = s then Value.bool true else bvals [] j) = bvals [s] j
        unfold bvals
        by_cases e : j = s <;> simp [e])
      have hN3 := hN.far (q := ⟨w.heap.size + 1, s, none⟩) (by show w.heap.size ≠ w.heap.size + 1; omega) (.bool true)
      have hBy3 := hBy.setOther (a := ⟨w.heap.size + 1, s, none⟩) (by show w.heap.size + 2 ≠ w.heap.size + 1; omega) (.bool true)
      have B3 := hB.setCell (p := ⟨w.heap.size + 1, s, none⟩) (by show w.heap.size ≤ w.heap.size + 1; omega) (.bool true)
      have hz3 : (wr.setCell ⟨w.heap.size + 1, s, none⟩ (.bool true)).heap.size = w.heap.size + 3 := by simp [World.setCell, hz]
      have hq := q_new (wr.setCell ⟨w.heap.size + 1, s, none⟩ (.bool true)) s
      rw [hz3] at hq
      have hA : ReaAt w ((wr.setCell ⟨w.heap.size + 1, s, none⟩ (.bool true)).alloc (.cells #[.int .i64 (s : Int)] 3)) K m c w.heap.size (w.heap.size + 1) (w.heap.size + 2) (w.heap.size + 3) A (.slice (some ⟨w.heap.size + 3, 0, none⟩) 1 1) [s] [s] (negs K) :=
        ⟨hN3.alloc _, hS3.alloc _, hBy3.alloc _, hq, B3.alloc B3.size _⟩
      have hrb := Lib.hid (rb_start (N := netOf K m E) (R := resid (netOf K m E).cp g) (by exact hs) (negs K))
      have HA := Lib.hid hA
      clear hN hS hBy hB hS3 hN3 hBy3 B3 hq hA
      go_wp2_with fail
      go_loopw [11, 12, 13, 14] (fun v _ _ _ wr => ∃ a q b gq, a ≤ q.length ∧ Hid ((netOf K m E).Rb (resid (netOf K m E).cp g) s a q b) ∧ ReaAt w wr K m c w.heap.size (w.heap.size + 1) (w.heap.size + 2) gq A v (q.drop a) q b) (fun v _ _ _ w' => K + lenV v - seenC w' (w.heap.size + 1) K)
      case atStart =>
        refine ⟨0, [s], negs K, w.heap.size + 3, by simp, hrb, ?_⟩
        have := HA.out
        simpa [hz] using this
      case round =>
        clear hz hz3 z0 z1 k0 HA hrb hwrap
        obtain ⟨a, q, b, gq, haq, hrb, hA⟩ := hrel
        by_cases hlt2 : a < q.length
        · have hdrop : q.drop a = q[a] :: q.drop (a + 1) := List.drop_eq_getElem_cons hlt2
          obtain ⟨cc, hcc⟩ : ∃ cc, q[a] = cc := ⟨_, rfl⟩
          have hqc : q[a]? = some cc := by rw [List.getElem?_eq_getElem hlt2, hcc]
          rw [hdrop, hcc] at hA
          obtain ⟨hN, hSe, hBy, hQ, hB⟩ := hA
          have hlen := hrb.out.len
          replace hlen : q.length ≤ K := hlen
          have hm1 := seenC_row hSe hrb.out.nd hrb.out.lt
          obtain ⟨o, cap, rfl, y0, hnext⟩ := hQ.head
          have hcap : (q.drop (a + 1)).length ≤ cap := by
            obtain ⟨_, _, _, _, e, _, _, h1, _⟩ := hnext (o + 1) (Or.inl rfl)
            injection e with _ _ e2
            omega
          have hln := Lib.hid (show (q.drop (a + 1)).length = q.length - (a + 1) from List.length_drop)
          have hri := Lib.hid (hrb.out.begin hqc)
          have hn1 := hnext (o + 1) (Or.inl rfl)
          have hn0 := fun e : cap = 0 => hnext o (Or.inr ⟨e, rfl⟩)
          have HN1 := Lib.hid hn1
          have HN0 := Lib.hid hn0
          clear hnext hQ hdrop hcc hqc hrb hn1 hn0
          generalize hLL : (q.drop (a + 1)).length = LL at *
          have HLL := Lib.hid hLL
          clear hLL
          by_cases hc0 : cap = 0
          · have hql := Lib.hid (HN0.out hc0)
            subst hc0
            obtain rfl : LL = 0 := by omega
            go_wp2_with fail
            go_loopw [11, 13, 14] (fun v i _ w2 => ∃ I q b gq, I ≤ m ∧ i = .int .i64 I ∧ a < q.length ∧ Hid ((netOf K m E).Ri (resid (netOf K m E).cp g) s a cc (2 * I) q b) ∧ ReaAt w w2 K m c w.heap.size (w.heap.size + 1) (w.heap.size + 2) gq A v (q.drop (a + 1)) q b) (fun _ i _ _ => m - (intOf i).toNat)
            case atStart => exact ⟨0, q, b, gq, by omega, rfl, hlt2, hri, ⟨hN, hSe, hBy, hql.out, hB⟩⟩
            case round =>
              clear hri hN hSe hBy hql hB HN1 HN0 HLL
              obtain ⟨I, q, b, gq, hI, rfl, hlt2, hri, hA⟩ := hrel
              obtain ⟨hN, hSe, hBy, hQ, hB⟩ := hA
              have k1 := hN.c1
              by_cases hlt3 : I < m
              · obtain ⟨bE, oE, rfl, hbl, hcz⟩ := (HH.out.below hB) (by omega)
                obtain ⟨x0, x1, x2⟩ := hcz I hlt3
                obtain ⟨bL, oL, rfl, hbL0, hcL⟩ := HL.out (by omega)
                have hxl := hcL I hlt3
                clear hcz hcL
                have hfn := HV.out.ok.fr I hlt3
                have htn := HV.out.ok.tt I hlt3
                have hne := HV.out.ok.ne I hlt3
                rw [HV.out.fr hlt3] at x0
                rw [HV.out.tt hlt3] at x1
                have hwrap : IntKind.i64.wrap ((I : Int) + 1) = (I : Int) + 1 := IntWalk.i64_in _ (by omega)
                have hw2 : IntKind.i64.wrap (-2 - (I : Int)) = -2 - (I : Int) := IntWalk.i64_in _ (by omega)
                replace hne : (netOf K m E).fr I ≠ (netOf K m E).tt I := hne
                replace hfn : (netOf K m E).fr I < K := hfn
                replace htn : (netOf K m E).tt I < K := htn
                have HSK : Hid (∀ q b, (netOf K m E).Ri (resid (netOf K m E).cp g) s a cc (2 * I) q b → ((netOf K m E).tt I ∈ q ∨ (netOf K m E).fr I ≠ cc ∨ ¬ g I < (E I).c) → (netOf K m E).Ri (resid (netOf K m E).cp g) s a cc (2 * I + 1) q b) := fun q b h hx => h.skip (fun h1 h2 => by
                  rw [Net.aF_ev] at h1; rw [resid_even] at h2; rw [Net.aT_ev]
                  have h3 : (netOf K m E).cp I = (E I).c := rfl
                  rcases hx with hx | hx | hx
                  · exact hx
                  · exact absurd h1 hx
                  · omega)
                have HFD : Hid (∀ q b, (netOf K m E).Ri (resid (netOf K m E).cp g) s a cc (2 * I) q b → (netOf K m E).fr I = cc → g I < (E I).c → (netOf K m E).tt I ∉ q → (netOf K m E).Ri (resid (netOf K m E).cp g) s a cc (2 * I + 1) (q ++ [(netOf K m E).tt I]) (fun y => if y = (netOf K m E).tt I then (I : Int) else b y)) := fun q b h h1 h2 h3 => by
                  have := h.found (K := 2 * I) (v := (netOf K m E).tt I) (by show 2 * I < 2 * m; omega) htn (by rw [Net.aF_ev]; exact h1) (Net.aT_ev _ _) (by rw [resid_even]; have h3 : (netOf K m E).cp I = (E I).c := rfl; omega) h3
                  rw [code_even] at this; exact this
                have HSK2 : Hid (∀ q b, (netOf K m E).Ri (resid (netOf K m E).cp g) s a cc (2 * I + 1) q b → ((netOf K m E).fr I ∈ q ∨ (netOf K m E).tt I ≠ cc ∨ ¬ 0 < g I) → (netOf K m E).Ri (resid (netOf K m E).cp g) s a cc (2 * (I + 1)) q b) := fun q b h hx => h.skip (fun h1 h2 => by
                  rw [Net.aF_od] at h1; rw [resid_odd] at h2; rw [Net.aT_od]
                  rcases hx with hx | hx | hx
                  · exact hx
                  · exact absurd h1 hx
                  · exact absurd h2 hx)
                have HFD2 : Hid (∀ q b, (netOf K m E).Ri (resid (netOf K m E).cp g) s a cc (2 * I + 1) q b → (netOf K m E).tt I = cc → 0 < g I → (netOf K m E).fr I ∉ q → (netOf K m E).Ri (resid (netOf K m E).cp g) s a cc (2 * (I + 1)) (q ++ [(netOf K m E).fr I]) (fun y => if y = (netOf K m E).fr I then (-2 - (I : Int)) else b y)) := fun q b h h1 h2 h3 => by
                  have := h.found (K := 2 * I + 1) (v := (netOf K m E).fr I) (by show 2 * I + 1 < 2 * m; omega) hfn (by rw [Net.aF_od]; exact h1) (Net.aT_od _ _) (by rw [resid_odd]; exact h2) h3
                  rw [code_odd] at this; exact this
                have bX := below_new wr (.cells #[.int .i64 ((netOf K m E).fr I : Nat), .int .i64 ((netOf K m E).tt I : Nat), .int .i64 (E I).c] 50)
                have e2 : (wr.alloc (.cells #[.int .i64 ((netOf K m E).fr I : Nat), .int .i64 ((netOf K m E).tt I : Nat), .int .i64 (E I).c] 50)).heap[wr.heap.size]? = some (.cells #[.int .i64 ((netOf K m E).fr I : Nat), .int .i64 ((netOf K m E).tt I : Nat), .int .i64 (E I).c] 50 (0, 0)) := heap_alloc_new wr _
                have hA : ReaAt w wr K m c w.heap.size (w.heap.size + 1) (w.heap.size + 2) gq (some ⟨bE, oE, none⟩) u11 (q.drop (a + 1)) q b := ⟨hN, hSe, hBy, hQ, hB⟩
                have hA := hA.below bX
                have HXL : Hid (∀ u : World, Below w.heap.size w u → u.cell? ⟨bL, oL + I, none⟩ = some (.int .i64 (g I))) := fun u hu => (hu.cell (p := ⟨bL, oL + I, none⟩) hbL0).trans hxl
                have hQl := hQ.lt
                have hgq : gq < wr.heap.size ∧ w.heap.size + 3 ≤ gq := ⟨hQl.2, hQl.1⟩
                clear hN hSe hBy hQ hB hxl bX hQl
                generalize (E I).c = ec at *
                generalize (netOf K m E).fr I = f at *
                generalize (netOf K m E).tt I = t at *
                generalize hgI : g I = gI at *
                clear hgI
                go_upto_region 16 with fail
                have hpe3 : w.heap.size + 3 < wr.heap.size := by omega
                generalize hpe : wr.heap.size = pe at *
                generalize wr.alloc (.cells #[.int .i64 (f : Nat), .int .i64 (t : Nat), .int .i64 ec] 50) = W at *
                clear hpe x0 x1 x2 k1
                have HE := Lib.hid e2
                clear e2
                go_cut [75] from 54 to 75 (fun sc wx => ∃ vv : Bool, sc = .bool vv ∧ (vv = true → Hid (f = cc ∧ gI < ec ∧ t ∉ q)) ∧ (vv = false → Hid (t ∈ q ∨ f ≠ cc ∨ ¬ gI < ec)) ∧ ReaAt w wx K m c w.heap.size (w.heap.size + 1) (w.heap.size + 2) gq (some ⟨bE, oE, none⟩) u11 (q.drop (a + 1)) q b ∧ wx.heap[pe]? = some (.cells #[.int .i64 (f : Int), .int .i64 (t : Int), .int .i64 ec] 50 (0, 0)))
                case first =>
                  have y0 : W.cell? ⟨pe, 0, none⟩ = some (.int .i64 (f : Int)) := cell_of_row _ _ 0 _ _ _ HE.out
                  have y1 : W.cell? ⟨pe, 1, none⟩ = some (.int .i64 (t : Int)) := cell_of_row _ _ 1 _ _ _ HE.out
                  have y2 : W.cell? ⟨pe, 2, none⟩ = some (.int .i64 ec) := cell_of_row _ _ 2 _ _ _ HE.out
                  have xL := HXL.out W hA.bl
                  clear HSK HFD HSK2 HFD2 hri
                  by_cases hf : f = cc
                  · have q1 : (((f : Nat) : Int) == ((cc : Nat) : Int)) = true := beq_iff_eq.2 (by omega)
                    by_cases hr : gI < ec
                    · have q2 : decide (gI < ec) = true := decide_eq_true hr
                      by_cases hs : t ∈ q
                      · have z0 := hA.se_at htn true ⟨fun _ => hs, fun _ => rfl⟩
                        have HV : Hid (t ∈ q ∨ f ≠ cc ∨ ¬ gI < ec) := Or.inl hs
                        clear hf hr hs
                        go_quiet (fail)
                        clear y0 y1 y2 xL
                        generalize hWq : W.drewN _ = Wq
                        have hA2 : ReaAt w Wq K m c w.heap.size (w.heap.size + 1) (w.heap.size + 2) gq (some ⟨bE, oE, none⟩) u11 (q.drop (a + 1)) q b := by rw [← hWq]; exact hA.drewN _
                        have hE2 : Wq.heap[pe]? = some (.cells #[.int .i64 (f : Int), .int .i64 (t : Int), .int .i64 ec] 50 (0, 0)) := by rw [← hWq]; exact HE.out
                        clear hWq hA HE
                        go_wp2_with fail
                        go_meet
                        exact ⟨false, rfl, (fun h => by cases h), fun _ => HV, hA2, hE2⟩
                      · have z0 := hA.se_at htn false ⟨(fun e => by cases e), fun e => absurd e hs⟩
                        have HV : Hid (f = cc ∧ gI < ec ∧ t ∉ q) := ⟨hf, hr, hs⟩
                        clear hf hr hs
                        go_quiet (fail)
                        clear y0 y1 y2 xL
                        generalize hWq : W.drewN _ = Wq
                        have hA2 : ReaAt w Wq K m c w.heap.size (w.heap.size + 1) (w.heap.size + 2) gq (some ⟨bE, oE, none⟩) u11 (q.drop (a + 1)) q b := by rw [← hWq]; exact hA.drewN _
                        have hE2 : Wq.heap[pe]? = some (.cells #[.int .i64 (f : Int), .int .i64 (t : Int), .int .i64 ec] 50 (0, 0)) := by rw [← hWq]; exact HE.out
                        clear hWq hA HE
                        go_wp2_with fail
                        go_meet
                        exact ⟨true, rfl, fun _ => HV, (fun h => by cases h), hA2, hE2⟩
                    · have q2 : decide (gI < ec) = false := decide_eq_false hr
                      have HV : Hid (t ∈ q ∨ f ≠ cc ∨ ¬ gI < ec) := Or.inr (Or.inr hr)
                      clear hf hr
                      go_quiet (fail)
                      clear y0 y1 y2 xL
                      generalize hWq : W.drewN _ = Wq
                      have hA2 : ReaAt w Wq K m c w.heap.size (w.heap.size + 1) (w.heap.size + 2) gq (some ⟨bE, oE, none⟩) u11 (q.drop (a + 1)) q b := by rw [← hWq]; exact hA.drewN _
                      have hE2 : Wq.heap[pe]? = some (.cells #[.int .i64 (f : Int), .int .i64 (t : Int), .int .i64 ec] 50 (0, 0)) := by rw [← hWq]; exact HE.out
                      clear hWq hA HE
                      go_wp2_with fail
                      go_meet
                      exact ⟨false, rfl, (fun h => by cases h), fun _ => HV, hA2, hE2⟩
                  · have q1 : (((f : Nat) : Int) == ((cc : Nat) : Int)) = false := beq_false_of_ne (by omega)
                    have HV : Hid (t ∈ q ∨ f ≠ cc ∨ ¬ gI < ec) := Or.inr (Or.inl hf)
                    clear hf
                    go_quiet (fail)
                    clear y0 y1 y2 xL
                    generalize hWq : W.drewN _ = Wq
                    have hA2 : ReaAt w Wq K m c w.heap.size (w.heap.size + 1) (w.heap.size + 2) gq (some ⟨bE, oE, none⟩) u11 (q.drop (a + 1)) q b := by rw [← hWq]; exact hA.drewN _
                    have hE2 : Wq.heap[pe]? = some (.cells #[.int .i64 (f : Int), .int .i64 (t : Int), .int .i64 ec] 50 (0, 0)) := by rw [← hWq]; exact HE.out
                    clear hWq hA HE
                    go_wp2_with fail
                    go_meet
                    exact ⟨false, rfl, (fun h => by cases h), fun _ => HV, hA2, hE2⟩
                case rest =>
                  clear hA HE
                  obtain ⟨vv, rfl, hT, hF, hA, hE⟩ := hcut
                  have HE := Lib.hid hE
                  clear hE
                  generalize wc = W at *
                  go_upto_if 75 with fail
                  go_cut [11] from 76 to 89 (fun v wx => ∃ q b gq, Hid ((netOf K m E).Ri (resid (netOf K m E).cp g) s a cc (2 * I + 1) q b) ∧ ReaAt w wx K m c w.heap.size (w.heap.size + 1) (w.heap.size + 2) gq (some ⟨bE, oE, none⟩) v (q.drop (a + 1)) q b ∧ wx.heap[pe]? = some (.cells #[.int .i64 (f : Int), .int .i64 (t : Int), .int .i64 ec] 50 (0, 0)) ∧ a < q.length ∧ gq ≠ pe)
                  case first =>
                    clear HSK2 HFD2
                    have hgp : gq ≠ pe := by omega
                    cases vv with
                    | false =>
                      have hnx := Lib.hid (HSK.out q b hri.out (hF rfl).out)
                      clear hT hF HSK HFD hri
                      go_wp2_with fail
                      go_meet
                      exact ⟨q, b, gq, hnx, hA, HE.out, hlt2, by omega⟩
                    | true =>
                      obtain ⟨hf, hr, hs⟩ := (hT rfl).out
                      have hnx := Lib.hid (HFD.out q b hri.out hf hr hs)
                      have hE2 := HE.out
                      have hpeq := lt_of_block hE2
                      obtain ⟨hA3, hB3⟩ := hA.found t (I : Int)
                      have z0 := hA.se_at htn false ⟨(fun e => by cases e), fun e => absurd e hs⟩
                      have z1 := hA.se.frozen t
                      have z2 := hA.by_.cell htn
                      have z3 := hA.by_.frozen t
                      have z2' : (W.setCell ⟨w.heap.size + 1, t, none⟩ (.bool true)).cell? ⟨w.heap.size + 2, t, none⟩ = some (.int .i64 (b t)) := (World.cell?_of_block (w := W) (Below.heap_setCell W _ _ _ (by show w.heap.size + 2 ≠ w.heap.size + 1; omega))).trans z2
                      have z3' : (W.setCell ⟨w.heap.size + 1, t, none⟩ (.bool true)).frozen? ⟨w.heap.size + 2, t, none⟩ = false := by have := (hA.by_.setOther (a := ⟨w.heap.size + 1, t, none⟩) (by show w.heap.size + 2 ≠ w.heap.size + 1; omega) (.bool true)).frozen t; exact this
                      have y0 : W.cell? ⟨pe, 1, none⟩ = some (.int .i64 (t : Int)) := cell_of_row _ _ 1 _ _ _ hE2
                      have e1 : (W.setCell ⟨w.heap.size + 1, t, none⟩ (.bool true)).heap[pe]? = _ := (Below.heap_setCell W _ _ pe (by show pe ≠ w.heap.size + 1; omega)).trans hE2
                      have e2 : ((W.setCell ⟨w.heap.size + 1, t, none⟩ (.bool true)).setCell ⟨w.heap.size + 2, t, none⟩ (.int .i64 (I : Int))).heap[pe]? = _ := (Below.heap_setCell _ _ _ pe (by show pe ≠ w.heap.size + 2; omega)).trans e1
                      have y3 : (W.setCell ⟨w.heap.size + 1, t, none⟩ (.bool true)).cell? ⟨pe, 1, none⟩ = some (.int .i64 (t : Int)) := cell_of_row _ _ 1 _ _ _ e1
                      have y4 : ((W.setCell ⟨w.heap.size + 1, t, none⟩ (.bool true)).setCell ⟨w.heap.size + 2, t, none⟩ (.int .i64 (I : Int))).cell? ⟨pe, 1, none⟩ = some (.int .i64 (t : Int)) := cell_of_row _ _ 1 _ _ _ e2
                      have e3 := (Below.heap_alloc ((W.setCell ⟨w.heap.size + 1, t, none⟩ (.bool true)).setCell ⟨w.heap.size + 2, t, none⟩ (.int .i64 (I : Int))) (.cells #[.int .i64 (t : Int)] 3) pe (lt_of_block e2)).trans e2
                      have HA3 := Lib.hid hA3
                      have HB3 := Lib.hid hB3
                      have E3 := Lib.hid e3
                      have hpq := hA.qu.lt
                      have hlq : (q.drop (a + 1)).length ≤ 1000000 := by have := hri.out.b.len; have h2 : (netOf K m E).n = K := rfl; rw [List.length_drop]; omega
                      have HLQ := Lib.hid hlq
                      have hdr := Lib.hid (show q.drop (a + 1) ++ [t] = (q ++ [t]).drop (a + 1) from (List.drop_append_of_le_length (by omega)).symm)
                      have hl3 : a < (q ++ [t]).length := by simp; omega
                      have hszq : w.heap.size + 3 ≤ W.heap.size := by omega
                      clear hT hF hA3 hB3 e1 e2 e3 hE2 hA z2 hlq hri HSK HFD hf hr hs HE
                      go_wp2_with (at_builtin; refine append_q rfl (.tmp 85) (.tmp 88) rfl (w.heap.size + 3) gq _ (q.drop (a + 1)) t _ _ rfl HA3.out.qu W.heap.size rfl HB3.out rfl HLQ.out (by simp [World.setCell]; omega) ?_)
                      intro g5 v5 w5 hq5 hg5 b5 hblk5
                      have hA5 := HA3.out.pushed t hq5 b5
                      rw [hdr.out] at hA5
                      have e5 := (hblk5 pe (fun e => by omega) (by omega)).trans E3.out
                      have hgp5 : g5 ≠ pe := by omega
                      clear hq5 hg5 b5 hblk5 HA3 HB3 E3 y0 y3 y4 z0 z1 z2' z3 z3'
                      go_wp2_with fail
                      go_meet
                      exact ⟨q ++ [t], _, g5, hnx, hA5, e5, hl3, hgp5⟩
                  case rest =>
                    clear hT hF hA hri HSK HFD HE hlt2 hgq
                    obtain ⟨q, b, gq, hri, hA, hE, hlt2, hgp⟩ := hcut
                    have HE := Lib.hid hE
                    clear hE
                    have HSK := HSK2
                    have HFD := HFD2
                    clear HSK2 HFD2
                    generalize wc = W at *
                    go_upto_region 20 with fail
                    go_cut [108] from 90 to 108 (fun sc wx => ∃ vv : Bool, sc = .bool vv ∧ (vv = true → Hid (t = cc ∧ 0 < gI ∧ f ∉ q)) ∧ (vv = false → Hid (f ∈ q ∨ t ≠ cc ∨ ¬ 0 < gI)) ∧ ReaAt w wx K m c w.heap.size (w.heap.size + 1) (w.heap.size + 2) gq (some ⟨bE, oE, none⟩) u11 (q.drop (a + 1)) q b ∧ wx.heap[pe]? = some (.cells #[.int .i64 (f : Int), .int .i64 (t : Int), .int .i64 ec] 50 (0, 0)))
                    case first =>
                      have y0 : W.cell? ⟨pe, 0, none⟩ = some (.int .i64 (f : Int)) := cell_of_row _ _ 0 _ _ _ HE.out
                      have y1 : W.cell? ⟨pe, 1, none⟩ = some (.int .i64 (t : Int)) := cell_of_row _ _ 1 _ _ _ HE.out
                      have xL := HXL.out W hA.bl
                      clear HSK HFD hri
                      by_cases hf : t = cc
                      · have q1 : (((t : Nat) : Int) == ((cc : Nat) : Int)) = true := beq_iff_eq.2 (by omega)
                        by_cases hr : 0 < gI
                        · have q2 : decide (0 < gI) = true := decide_eq_true hr
                          by_cases hs : f ∈ q
                          · have z0 := hA.se_at hfn true ⟨fun _ => hs, fun _ => rfl⟩
                            have HV : Hid (f ∈ q ∨ t ≠ cc ∨ ¬ 0 < gI) := Or.inl hs
                            clear hf hr hs
                            go_wp2_with fail
                            go_meet
                            exact ⟨false, rfl, (fun h => by cases h), fun _ => HV, hA, HE.out⟩
                          · have z0 := hA.se_at hfn false ⟨(fun e => by cases e), fun e => absurd e hs⟩
                            have HV : Hid (t = cc ∧ 0 < gI ∧ f ∉ q) := ⟨hf, hr, hs⟩
                            clear hf hr hs
                            go_wp2_with fail
                            go_meet
                            exact ⟨true, rfl, fun _ => HV, (fun h => by cases h), hA, HE.out⟩
                        · have q2 : decide (0 < gI) = false := decide_eq_false hr
                          have HV : Hid (f ∈ q ∨ t ≠ cc ∨ ¬ 0 < gI) := Or.inr (Or.inr hr)
                          clear hf hr
                          go_wp2_with fail
                          go_meet
                          exact ⟨false, rfl, (fun h => by cases h), fun _ => HV, hA, HE.out⟩
                      · have q1 : (((t : Nat) : Int) == ((cc : Nat) : Int)) = false := beq_false_of_ne (by omega)
                        have HV : Hid (f ∈ q ∨ t ≠ cc ∨ ¬ 0 < gI) := Or.inr (Or.inl hf)
                        clear hf
                        go_wp2_with fail
                        go_meet
                        exact ⟨false, rfl, (fun h => by cases h), fun _ => HV, hA, HE.out⟩
                    case rest =>
                      clear hA HE
                      obtain ⟨vv, rfl, hT, hF, hA, hE⟩ := hcut
                      have HE := Lib.hid hE
                      clear hE
                      generalize wc = W at *
                      cases vv with
                      | false =>
                        have hnx := Lib.hid (HSK.out q b hri.out (hF rfl).out)
                        clear hT hF HSK HFD hri
                        go_wp2_with fail
                        go_roundw
                        case rel => exact ⟨I + 1, q, b, gq, by omega, by go_num, hlt2, hnx, hA⟩
                        case measure => simp [intOf]; omega
                      | true =>
                        obtain ⟨hf, hr, hs⟩ := (hT rfl).out
                        have hnx := Lib.hid (HFD.out q b hri.out hf hr hs)
                        have hE2 := HE.out
                        have hpeq := lt_of_block hE2
                        obtain ⟨hA3, hB3⟩ := hA.found f (-2 - (I : Int))
                        have z0 := hA.se_at hfn false ⟨(fun e => by cases e), fun e => absurd e hs⟩
                        have z1 := hA.se.frozen f
                        have z2 := hA.by_.cell hfn
                        have z3 := hA.by_.frozen f
                        have z2' : (W.setCell ⟨w.heap.size + 1, f, none⟩ (.bool true)).cell? ⟨w.heap.size + 2, f, none⟩ = some (.int .i64 (b f)) := (World.cell?_of_block (w := W) (Below.heap_setCell W _ _ _ (by show w.heap.size + 2 ≠ w.heap.size + 1; omega))).trans z2
                        have z3' : (W.setCell ⟨w.heap.size + 1, f, none⟩ (.bool true)).frozen? ⟨w.heap.size + 2, f, none⟩ = false := by have := (hA.by_.setOther (a := ⟨w.heap.size + 1, f, none⟩) (by show w.heap.size + 2 ≠ w.heap.size + 1; omega) (.bool true)).frozen f; exact this
                        have y0 : W.cell? ⟨pe, 0, none⟩ = some (.int .i64 (f : Int)) := cell_of_row _ _ 0 _ _ _ hE2
                        have e1 : (W.setCell ⟨w.heap.size + 1, f, none⟩ (.bool true)).heap[pe]? = _ := (Below.heap_setCell W _ _ pe (by show pe ≠ w.heap.size + 1; omega)).trans hE2
                        have e2 : ((W.setCell ⟨w.heap.size + 1, f, none⟩ (.bool true)).setCell ⟨w.heap.size + 2, f, none⟩ (.int .i64 (-2 - (I : Int)))).heap[pe]? = _ := (Below.heap_setCell _ _ _ pe (by show pe ≠ w.heap.size + 2; omega)).trans e1
                        have y3 : (W.setCell ⟨w.heap.size + 1, f, none⟩ (.bool true)).cell? ⟨pe, 0, none⟩ = some (.int .i64 (f : Int)) := cell_of_row _ _ 0 _ _ _ e1
                        have y4 : ((W.setCell ⟨w.heap.size + 1, f, none⟩ (.bool true)).setCell ⟨w.heap.size + 2, f, none⟩ (.int .i64 (-2 - (I : Int)))).cell? ⟨pe, 0, none⟩ = some (.int .i64 (f : Int)) := cell_of_row _ _ 0 _ _ _ e2
                        have e3 := (Below.heap_alloc ((W.setCell ⟨w.heap.size + 1, f, none⟩ (.bool true)).setCell ⟨w.heap.size + 2, f, none⟩ (.int .i64 (-2 - (I : Int)))) (.cells #[.int .i64 (f : Int)] 3) pe (lt_of_block e2)).trans e2
                        have HA3 := Lib.hid hA3
                        have HB3 := Lib.hid hB3
                        have E3 := Lib.hid e3
                        have hpq := hA.qu.lt
                        have hlq : (q.drop (a + 1)).length ≤ 1000000 := by have := hri.out.b.len; have h2 : (netOf K m E).n = K := rfl; rw [List.length_drop]; omega
                        have HLQ := Lib.hid hlq
                        have hdr := Lib.hid (show q.drop (a + 1) ++ [f] = (q ++ [f]).drop (a + 1) from (List.drop_append_of_le_length (by omega)).symm)
                        have hl3 : a < (q ++ [f]).length := by simp; omega
                        have hszq : w.heap.size + 3 ≤ W.heap.size := by omega
                        clear hT hF hA3 hB3 e1 e2 e3 hE2 hA z2 hlq hri HSK HFD hf hr hs HE
                        go_wp2_with (at_builtin; refine append_q rfl (.tmp 119) (.tmp 122) rfl (w.heap.size + 3) gq _ (q.drop (a + 1)) f _ _ rfl HA3.out.qu W.heap.size rfl HB3.out rfl HLQ.out (by simp [World.setCell]; omega) ?_)
                        intro g5 v5 w5 hq5 hg5 b5 hblk5
                        have hA5 := HA3.out.pushed f hq5 b5
                        rw [hdr.out] at hA5
                        have e5 := (hblk5 pe (fun e => by omega) (by omega)).trans E3.out
                        have hgp5 : g5 ≠ pe := by omega
                        clear hq5 hg5 b5 hblk5 HA3 HB3 E3 y0 y3 y4 z0 z1 z2' z3 z3'
                        go_wp2_with fail
                        go_roundw
                        case rel => exact ⟨I + 1, q ++ [f], _, g5, by omega, by go_num, hl3, hnx, hA5⟩
                        case measure => simp [intOf]; omega
              · obtain rfl : I = m := by omega
                have hrb := Lib.hid (hri.out.done (Nat.le_refl _))
                have hm2 := seenC_row hSe hrb.out.nd hrb.out.lt
                have hlen2 : q.length ≤ K := hrb.out.len
                have HQ := Lib.hid hQ
                have hdl := Lib.hid (show (q.drop (a + 1)).length = q.length - (a + 1) from List.length_drop)
                obtain ⟨o2, cap2, rfl⟩ := hQ.form
                clear hQ
                generalize (q.drop (a + 1)).length = LQ at *
                go_wp2_with fail
                go_roundw
                case rel => exact ⟨a + 1, q, b, gq, by omega, hrb, ⟨hN, hSe, hBy, HQ.out, hB⟩⟩
                case measure => have hd := hdl.out; have ho := hln.out; simp [lenV]; omega
          · have hql := HN1
            have hc1 : ¬ cap + 1 = 1 := by omega
            go_wp2_with fail
            go_loopw [11, 13, 14] (fun v i _ w2 => ∃ I q b gq, I ≤ m ∧ i = .int .i64 I ∧ a < q.length ∧ Hid ((netOf K m E).Ri (resid (netOf K m E).cp g) s a cc (2 * I) q b) ∧ ReaAt w w2 K m c w.heap.size (w.heap.size + 1) (w.heap.size + 2) gq A v (q.drop (a + 1)) q b) (fun _ i _ _ => m - (intOf i).toNat)
            case atStart => exact ⟨0, q, b, gq, by omega, rfl, hlt2, hri, ⟨hN, hSe, hBy, hql.out, hB⟩⟩
            case round =>
              clear hri hN hSe hBy hql hB HN1 HN0 HLL
              obtain ⟨I, q, b, gq, hI, rfl, hlt2, hri, hA⟩ := hrel
              obtain ⟨hN, hSe, hBy, hQ, hB⟩ := hA
              have k1 := hN.c1
              by_cases hlt3 : I < m
              · obtain ⟨bE, oE, rfl, hbl, hcz⟩ := (HH.out.below hB) (by omega)
                obtain ⟨x0, x1, x2⟩ := hcz I hlt3
                obtain ⟨bL, oL, rfl, hbL0, hcL⟩ := HL.out (by omega)
                have hxl := hcL I hlt3
                clear hcz hcL
                have hfn := HV.out.ok.fr I hlt3
                have htn := HV.out.ok.tt I hlt3
                have hne := HV.out.ok.ne I hlt3
                rw [HV.out.fr hlt3] at x0
                rw [HV.out.tt hlt3] at x1
                have hwrap : IntKind.i64.wrap ((I : Int) + 1) = (I : Int) + 1 := IntWalk.i64_in _ (by omega)
                have hw2 : IntKind.i64.wrap (-2 - (I : Int)) = -2 - (I : Int) := IntWalk.i64_in _ (by omega)
                replace hne : (netOf K m E).fr I ≠ (netOf K m E).tt I := hne
                replace hfn : (netOf K m E).fr I < K := hfn
                replace htn : (netOf K m E).tt I < K := htn
                have HSK : Hid (∀ q b, (netOf K m E).Ri (resid (netOf K m E).cp g) s a cc (2 * I) q b → ((netOf K m E).tt I ∈ q ∨ (netOf K m E).fr I ≠ cc ∨ ¬ g I < (E I).c) → (netOf K m E).Ri (resid (netOf K m E).cp g) s a cc (2 * I + 1) q b) := fun q b h hx => h.skip (fun h1 h2 => by
                  rw [Net.aF_ev] at h1; rw [resid_even] at h2; rw [Net.aT_ev]
                  have h3 : (netOf K m E).cp I = (E I).c := rfl
                  rcases hx with hx | hx | hx
                  · exact hx
                  · exact absurd h1 hx
                  · omega)
                have HFD : Hid (∀ q b, (netOf K m E).Ri (resid (netOf K m E).cp g) s a cc (2 * I) q b → (netOf K m E).fr I = cc → g I < (E I).c → (netOf K m E).tt I ∉ q → (netOf K m E).Ri (resid (netOf K m E).cp g) s a cc (2 * I + 1) (q ++ [(netOf K m E).tt I]) (fun y => if y = (netOf K m E).tt I then (I : Int) else b y)) := fun q b h h1 h2 h3 => by
                  have := h.found (K := 2 * I) (v := (netOf K m E).tt I) (by show 2 * I < 2 * m; omega) htn (by rw [Net.aF_ev]; exact h1) (Net.aT_ev _ _) (by rw [resid_even]; have h3 : (netOf K m E).cp I = (E I).c := rfl; omega) h3
                  rw [code_even] at this; exact this
                have HSK2 : Hid (∀ q b, (netOf K m E).Ri (resid (netOf K m E).cp g) s a cc (2 * I + 1) q b → ((netOf K m E).fr I ∈ q ∨ (netOf K m E).tt I ≠ cc ∨ ¬ 0 < g I) → (netOf K m E).Ri (resid (netOf K m E).cp g) s a cc (2 * (I + 1)) q b) := fun q b h hx => h.skip (fun h1 h2 => by
                  rw [Net.aF_od] at h1; rw [resid_odd] at h2; rw [Net.aT_od]
                  rcases hx with hx | hx | hx
                  · exact hx
                  · exact absurd h1 hx
                  · exact absurd h2 hx)
                have HFD2 : Hid (∀ q b, (netOf K m E).Ri (resid (netOf K m E).cp g) s a cc (2 * I + 1) q b → (netOf K m E).tt I = cc → 0 < g I → (netOf K m E).fr I ∉ q → (netOf K m E).Ri (resid (netOf K m E).cp g) s a cc (2 * (I + 1)) (q ++ [(netOf K m E).fr I]) (fun y => if y = (netOf K m E).fr I then (-2 - (I : Int)) else b y)) := fun q b h h1 h2 h3 => by
                  have := h.found (K := 2 * I + 1) (v := (netOf K m E).fr I) (by show 2 * I + 1 < 2 * m; omega) hfn (by rw [Net.aF_od]; exact h1) (Net.aT_od _ _) (by rw [resid_odd]; exact h2) h3
                  rw [code_odd] at this; exact this
                have bX := below_new wr (.cells #[.int .i64 ((netOf K m E).fr I : Nat), .int .i64 ((netOf K m E).tt I : Nat), .int .i64 (E I).c] 50)
                have e2 : (wr.alloc (.cells #[.int .i64 ((netOf K m E).fr I : Nat), .int .i64 ((netOf K m E).tt I : Nat), .int .i64 (E I).c] 50)).heap[wr.heap.size]? = some (.cells #[.int .i64 ((netOf K m E).fr I : Nat), .int .i64 ((netOf K m E).tt I : Nat), .int .i64 (E I).c] 50 (0, 0)) := heap_alloc_new wr _
                have hA : ReaAt w wr K m c w.heap.size (w.heap.size + 1) (w.heap.size + 2) gq (some ⟨bE, oE, none⟩) u11 (q.drop (a + 1)) q b := ⟨hN, hSe, hBy, hQ, hB⟩
                have hA := hA.below bX
                have HXL : Hid (∀ u : World, Below w.heap.size w u → u.cell? ⟨bL, oL + I, none⟩ = some (.int .i64 (g I))) := fun u hu => (hu.cell (p := ⟨bL, oL + I, none⟩) hbL0).trans hxl
                have hQl := hQ.lt
                have hgq : gq < wr.heap.size ∧ w.heap.size + 3 ≤ gq := ⟨hQl.2, hQl.1⟩
                clear hN hSe hBy hQ hB hxl bX hQl
                generalize (E I).c = ec at *
                generalize (netOf K m E).fr I = f at *
                generalize (netOf K m E).tt I = t at *
                generalize hgI : g I = gI at *
                clear hgI
                go_upto_region 16 with fail
                have hpe3 : w.heap.size + 3 < wr.heap.size := by omega
                generalize hpe : wr.heap.size = pe at *
                generalize wr.alloc (.cells #[.int .i64 (f : Nat), .int .i64 (t : Nat), .int .i64 ec] 50) = W at *
                clear hpe x0 x1 x2 k1
                have HE := Lib.hid e2
                clear e2
                go_cut [75] from 54 to 75 (fun sc wx => ∃ vv : Bool, sc = .bool vv ∧ (vv = true → Hid (f = cc ∧ gI < ec ∧ t ∉ q)) ∧ (vv = false → Hid (t ∈ q ∨ f ≠ cc ∨ ¬ gI < ec)) ∧ ReaAt w wx K m c w.heap.size (w.heap.size + 1) (w.heap.size + 2) gq (some ⟨bE, oE, none⟩) u11 (q.drop (a + 1)) q b ∧ wx.heap[pe]? = some (.cells #[.int .i64 (f : Int), .int .i64 (t : Int), .int .i64 ec] 50 (0, 0)))
                case first =>
                  have y0 : W.cell? ⟨pe, 0, none⟩ = some (.int .i64 (f : Int)) := cell_of_row _ _ 0 _ _ _ HE.out
                  have y1 : W.cell? ⟨pe, 1, none⟩ = some (.int .i64 (t : Int)) := cell_of_row _ _ 1 _ _ _ HE.out
                  have y2 : W.cell? ⟨pe, 2, none⟩ = some (.int .i64 ec) := cell_of_row _ _ 2 _ _ _ HE.out
                  have xL := HXL.out W hA.bl
                  clear HSK HFD HSK2 HFD2 hri
                  by_cases hf : f = cc
                  · have q1 : (((f : Nat) : Int) == ((cc : Nat) : Int)) = true := beq_iff_eq.2 (by omega)
                    by_cases hr : gI < ec
                    · have q2 : decide (gI < ec) = true := decide_eq_true hr
                      by_cases hs : t ∈ q
                      · have z0 := hA.se_at htn true ⟨fun _ => hs, fun _ => rfl⟩
                        have HV : Hid (t ∈ q ∨ f ≠ cc ∨ ¬ gI < ec) := Or.inl hs
                        clear hf hr hs
                        go_quiet (fail)
                        clear y0 y1 y2 xL
                        generalize hWq : W.drewN _ = Wq
                        have hA2 : ReaAt w Wq K m c w.heap.size (w.heap.size + 1) (w.heap.size + 2) gq (some ⟨bE, oE, none⟩) u11 (q.drop (a + 1)) q b := by rw [← hWq]; exact hA.drewN _
                        have hE2 : Wq.heap[pe]? = some (.cells #[.int .i64 (f : Int), .int .i64 (t : Int), .int .i64 ec] 50 (0, 0)) := by rw [← hWq]; exact HE.out
                        clear hWq hA HE
                        go_wp2_with fail
                        go_meet
                        exact ⟨false, rfl, (fun h => by cases h), fun _ => HV, hA2, hE2⟩
                      · have z0 := hA.se_at htn false ⟨(fun e => by cases e), fun e => absurd e hs⟩
                        have HV : Hid (f = cc ∧ gI < ec ∧ t ∉ q) := ⟨hf, hr, hs⟩
                        clear hf hr hs
                        go_quiet (fail)
                        clear y0 y1 y2 xL
                        generalize hWq : W.drewN _ = Wq
                        have hA2 : ReaAt w Wq K m c w.heap.size (w.heap.size + 1) (w.heap.size + 2) gq (some ⟨bE, oE, none⟩) u11 (q.drop (a + 1)) q b := by rw [← hWq]; exact hA.drewN _
                        have hE2 : Wq.heap[pe]? = some (.cells #[.int .i64 (f : Int), .int .i64 (t : Int), .int .i64 ec] 50 (0, 0)) := by rw [← hWq]; exact HE.out
                        clear hWq hA HE
                        go_wp2_with fail
                        go_meet
                        exact ⟨true, rfl, fun _ => HV, (fun h => by cases h), hA2, hE2⟩
                    · have q2 : decide (gI < ec) = false := decide_eq_false hr
                      have HV : Hid (t ∈ q ∨ f ≠ cc ∨ ¬ gI < ec) := Or.inr (Or.inr hr)
                      clear hf hr
                      go_quiet (fail)
                      clear y0 y1 y2 xL
                      generalize hWq : W.drewN _ = Wq
                      have hA2 : ReaAt w Wq K m c w.heap.size (w.heap.size + 1) (w.heap.size + 2) gq (some ⟨bE, oE, none⟩) u11 (q.drop (a + 1)) q b := by rw [← hWq]; exact hA.drewN _
                      have hE2 : Wq.heap[pe]? = some (.cells #[.int .i64 (f : Int), .int .i64 (t : Int), .int .i64 ec] 50 (0, 0)) := by rw [← hWq]; exact HE.out
                      clear hWq hA HE
                      go_wp2_with fail
                      go_meet
                      exact ⟨false, rfl, (fun h => by cases h), fun _ => HV, hA2, hE2⟩
                  · have q1 : (((f : Nat) : Int) == ((cc : Nat) : Int)) = false := beq_false_of_ne (by omega)
                    have HV : Hid (t ∈ q ∨ f ≠ cc ∨ ¬ gI < ec) := Or.inr (Or.inl hf)
                    clear hf
                    go_quiet (fail)
                    clear y0 y1 y2 xL
                    generalize hWq : W.drewN _ = Wq
                    have hA2 : ReaAt w Wq K m c w.heap.size (w.heap.size + 1) (w.heap.size + 2) gq (some ⟨bE, oE, none⟩) u11 (q.drop (a + 1)) q b := by rw [← hWq]; exact hA.drewN _
                    have hE2 : Wq.heap[pe]? = some (.cells #[.int .i64 (f : Int), .int .i64 (t : Int), .int .i64 ec] 50 (0, 0)) := by rw [← hWq]; exact HE.out
                    clear hWq hA HE
                    go_wp2_with fail
                    go_meet
                    exact ⟨false, rfl, (fun h => by cases h), fun _ => HV, hA2, hE2⟩
                case rest =>
                  clear hA HE
                  obtain ⟨vv, rfl, hT, hF, hA, hE⟩ := hcut
                  have HE := Lib.hid hE
                  clear hE
                  generalize wc = W at *
                  go_upto_if 75 with fail
                  go_cut [11] from 76 to 89 (fun v wx => ∃ q b gq, Hid ((netOf K m E).Ri (resid (netOf K m E).cp g) s a cc (2 * I + 1) q b) ∧ ReaAt w wx K m c w.heap.size (w.heap.size + 1) (w.heap.size + 2) gq (some ⟨bE, oE, none⟩) v (q.drop (a + 1)) q b ∧ wx.heap[pe]? = some (.cells #[.int .i64 (f : Int), .int .i64 (t : Int), .int .i64 ec] 50 (0, 0)) ∧ a < q.length ∧ gq ≠ pe)
                  case first =>
                    clear HSK2 HFD2
                    have hgp : gq ≠ pe := by omega
                    cases vv with
                    | false =>
                      have hnx := Lib.hid (HSK.out q b hri.out (hF rfl).out)
                      clear hT hF HSK HFD hri
                      go_wp2_with fail
                      go_meet
                      exact ⟨q, b, gq, hnx, hA, HE.out, hlt2, by omega⟩
                    | true =>
                      obtain ⟨hf, hr, hs⟩ := (hT rfl).out
                      have hnx := Lib.hid (HFD.out q b hri.out hf hr hs)
                      have hE2 := HE.out
                      have hpeq := lt_of_block hE2
                      obtain ⟨hA3, hB3⟩ := hA.found t (I : Int)
                      have z0 := hA.se_at htn false ⟨(fun e => by cases e), fun e => absurd e hs⟩
                      have z1 := hA.se.frozen t
                      have z2 := hA.by_.cell htn
                      have z3 := hA.by_.frozen t
                      have z2' : (W.setCell ⟨w.heap.size + 1, t, none⟩ (.bool true)).cell? ⟨w.heap.size + 2, t, none⟩ = some (.int .i64 (b t)) := (World.cell?_of_block (w := W) (Below.heap_setCell W _ _ _ (by show w.heap.size + 2 ≠ w.heap.size + 1; omega))).trans z2
                      have z3' : (W.setCell ⟨w.heap.size + 1, t, none⟩ (.bool true)).frozen? ⟨w.heap.size + 2, t, none⟩ = false := by have := (hA.by_.setOther (a := ⟨w.heap.size + 1, t, none⟩) (by show w.heap.size + 2 ≠ w.heap.size + 1; omega) (.bool true)).frozen t; exact this
                      have y0 : W.cell? ⟨pe, 1, none⟩ = some (.int .i64 (t : Int)) := cell_of_row _ _ 1 _ _ _ hE2
                      have e1 : (W.setCell ⟨w.heap.size + 1, t, none⟩ (.bool true)).heap[pe]? = _ := (Below.heap_setCell W _ _ pe (by show pe ≠ w.heap.size + 1; omega)).trans hE2
                      have e2 : ((W.setCell ⟨w.heap.size + 1, t, none⟩ (.bool true)).setCell ⟨w.heap.size + 2, t, none⟩ (.int .i64 (I : Int))).heap[pe]? = _ := (Below.heap_setCell _ _ _ pe (by show pe ≠ w.heap.size + 2; omega)).trans e1
                      have y3 : (W.setCell ⟨w.heap.size + 1, t, none⟩ (.bool true)).cell? ⟨pe, 1, none⟩ = some (.int .i64 (t : Int)) := cell_of_row _ _ 1 _ _ _ e1
                      have y4 : ((W.setCell ⟨w.heap.size + 1, t, none⟩ (.bool true)).setCell ⟨w.heap.size + 2, t, none⟩ (.int .i64 (I : Int))).cell? ⟨pe, 1, none⟩ = some (.int .i64 (t : Int)) := cell_of_row _ _ 1 _ _ _ e2
                      have e3 := (Below.heap_alloc ((W.setCell ⟨w.heap.size + 1, t, none⟩ (.bool true)).setCell ⟨w.heap.size + 2, t, none⟩ (.int .i64 (I : Int))) (.cells #[.int .i64 (t : Int)] 3) pe (lt_of_block e2)).trans e2
                      have HA3 := Lib.hid hA3
                      have HB3 := Lib.hid hB3
                      have E3 := Lib.hid e3
                      have hpq := hA.qu.lt
                      have hlq : (q.drop (a + 1)).length ≤ 1000000 := by have := hri.out.b.len; have h2 : (netOf K m E).n = K := rfl; rw [List.length_drop]; omega
                      have HLQ := Lib.hid hlq
                      have hdr := Lib.hid (show q.drop (a + 1) ++ [t] = (q ++ [t]).drop (a + 1) from (List.drop_append_of_le_length (by omega)).symm)
                      have hl3 : a < (q ++ [t]).length := by simp; omega
                      have hszq : w.heap.size + 3 ≤ W.heap.size := by omega
                      clear hT hF hA3 hB3 e1 e2 e3 hE2 hA z2 hlq hri HSK HFD hf hr hs HE
                      go_wp2_with (at_builtin; refine append_q rfl (.tmp 85) (.tmp 88) rfl (w.heap.size + 3) gq _ (q.drop (a + 1)) t _ _ rfl HA3.out.qu W.heap.size rfl HB3.out rfl HLQ.out (by simp [World.setCell]; omega) ?_)
                      intro g5 v5 w5 hq5 hg5 b5 hblk5
                      have hA5 := HA3.out.pushed t hq5 b5
                      rw [hdr.out] at hA5
                      have e5 := (hblk5 pe (fun e => by omega) (by omega)).trans E3.out
                      have hgp5 : g5 ≠ pe := by omega
                      clear hq5 hg5 b5 hblk5 HA3 HB3 E3 y0 y3 y4 z0 z1 z2' z3 z3'
                      go_wp2_with fail
                      go_meet
                      exact ⟨q ++ [t], _, g5, hnx, hA5, e5, hl3, hgp5⟩
                  case rest =>
                    clear hT hF hA hri HSK HFD HE hlt2 hgq
                    obtain ⟨q, b, gq, hri, hA, hE, hlt2, hgp⟩ := hcut
                    have HE := Lib.hid hE
                    clear hE
                    have HSK := HSK2
                    have HFD := HFD2
                    clear HSK2 HFD2
                    generalize wc = W at *
                    go_upto_region 20 with fail
                    go_cut [108] from 90 to 108 (fun sc wx => ∃ vv : Bool, sc = .bool vv ∧ (vv = true → Hid (t = cc ∧ 0 < gI ∧ f ∉ q)) ∧ (vv = false → Hid (f ∈ q ∨ t ≠ cc ∨ ¬ 0 < gI)) ∧ ReaAt w wx K m c w.heap.size (w.heap.size + 1) (w.heap.size + 2) gq (some ⟨bE, oE, none⟩) u11 (q.drop (a + 1)) q b ∧ wx.heap[pe]? = some (.cells #[.int .i64 (f : Int), .int .i64 (t : Int), .int .i64 ec] 50 (0, 0)))
                    case first =>
                      have y0 : W.cell? ⟨pe, 0, none⟩ = some (.int .i64 (f : Int)) := cell_of_row _ _ 0 _ _ _ HE.out
                      have y1 : W.cell? ⟨pe, 1, none⟩ = some (.int .i64 (t : Int)) := cell_of_row _ _ 1 _ _ _ HE.out
                      have xL := HXL.out W hA.bl
                      clear HSK HFD hri
                      by_cases hf : t = cc
                      · have q1 : (((t : Nat) : Int) == ((cc : Nat) : Int)) = true := beq_iff_eq.2 (by omega)
                        by_cases hr : 0 < gI
                        · have q2 : decide (0 < gI) = true := decide_eq_true hr
                          by_cases hs : f ∈ q
                          · have z0 := hA.se_at hfn true ⟨fun _ => hs, fun _ => rfl⟩
                            have HV : Hid (f ∈ q ∨ t ≠ cc ∨ ¬ 0 < gI) := Or.inl hs
                            clear hf hr hs
                            go_wp2_with fail
                            go_meet
                            exact ⟨false, rfl, (fun h => by cases h), fun _ => HV, hA, HE.out⟩
                          · have z0 := hA.se_at hfn false ⟨(fun e => by cases e), fun e => absurd e hs⟩
                            have HV : Hid (t = cc ∧ 0 < gI ∧ f ∉ q) := ⟨hf, hr, hs⟩
                            clear hf hr hs
                            go_wp2_with fail
                            go_meet
                            exact ⟨true, rfl, fun _ => HV, (fun h => by cases h), hA, HE.out⟩
                        · have q2 : decide (0 < gI) = false := decide_eq_false hr
                          have HV : Hid (f ∈ q ∨ t ≠ cc ∨ ¬ 0 < gI) := Or.inr (Or.inr hr)
                          clear hf hr
                          go_wp2_with fail
                          go_meet
                          exact ⟨false, rfl, (fun h => by cases h), fun _ => HV, hA, HE.out⟩
                      · have q1 : (((t : Nat) : Int) == ((cc : Nat) : Int)) = false := beq_false_of_ne (by omega)
                        have HV : Hid (f ∈ q ∨ t ≠ cc ∨ ¬ 0 < gI) := Or.inr (Or.inl hf)
                        clear hf
                        go_wp2_with fail
                        go_meet
                        exact ⟨false, rfl, (fun h => by cases h), fun _ => HV, hA, HE.out⟩
                    case rest =>
                      clear hA HE
                      obtain ⟨vv, rfl, hT, hF, hA, hE⟩ := hcut
                      have HE := Lib.hid hE
                      clear hE
                      generalize wc = W at *
                      cases vv with
                      | false =>
                        have hnx := Lib.hid (HSK.out q b hri.out (hF rfl).out)
                        clear hT hF HSK HFD hri
                        go_wp2_with fail
                        go_roundw
                        case rel => exact ⟨I + 1, q, b, gq, by omega, by go_num, hlt2, hnx, hA⟩
                        case measure => simp [intOf]; omega
                      | true =>
                        obtain ⟨hf, hr, hs⟩ := (hT rfl).out
                        have hnx := Lib.hid (HFD.out q b hri.out hf hr hs)
                        have hE2 := HE.out
                        have hpeq := lt_of_block hE2
                        obtain ⟨hA3, hB3⟩ := hA.found f (-2 - (I : Int))
                        have z0 := hA.se_at hfn false ⟨(fun e => by cases e), fun e => absurd e hs⟩
                        have z1 := hA.se.frozen f
                        have z2 := hA.by_.cell hfn
                        have z3 := hA.by_.frozen f
                        have z2' : (W.setCell ⟨w.heap.size + 1, f, none⟩ (.bool true)).cell? ⟨w.heap.size + 2, f, none⟩ = some (.int .i64 (b f)) := (World.cell?_of_block (w := W) (Below.heap_setCell W _ _ _ (by show w.heap.size + 2 ≠ w.heap.size + 1; omega))).trans z2
                        have z3' : (W.setCell ⟨w.heap.size + 1, f, none⟩ (.bool true)).frozen? ⟨w.heap.size + 2, f, none⟩ = false := by have := (hA.by_.setOther (a := ⟨w.heap.size + 1, f, none⟩) (by show w.heap.size + 2 ≠ w.heap.size + 1; omega) (.bool true)).frozen f; exact this
                        have y0 : W.cell? ⟨pe, 0, none⟩ = some (.int .i64 (f : Int)) := cell_of_row _ _ 0 _ _ _ hE2
                        have e1 : (W.setCell ⟨w.heap.size + 1, f, none⟩ (.bool true)).heap[pe]? = _ := (Below.heap_setCell W _ _ pe (by show pe ≠ w.heap.size + 1; omega)).trans hE2
                        have e2 : ((W.setCell ⟨w.heap.size + 1, f, none⟩ (.bool true)).setCell ⟨w.heap.size + 2, f, none⟩ (.int .i64 (-2 - (I : Int)))).heap[pe]? = _ := (Below.heap_setCell _ _ _ pe (by show pe ≠ w.heap.size + 2; omega)).trans e1
                        have y3 : (W.setCell ⟨w.heap.size + 1, f, none⟩ (.bool true)).cell? ⟨pe, 0, none⟩ = some (.int .i64 (f : Int)) := cell_of_row _ _ 0 _ _ _ e1
                        have y4 : ((W.setCell ⟨w.heap.size + 1, f, none⟩ (.bool true)).setCell ⟨w.heap.size + 2, f, none⟩ (.int .i64 (-2 - (I : Int)))).cell? ⟨pe, 0, none⟩ = some (.int .i64 (f : Int)) := cell_of_row _ _ 0 _ _ _ e2
                        have e3 := (Below.heap_alloc ((W.setCell ⟨w.heap.size + 1, f, none⟩ (.bool true)).setCell ⟨w.heap.size + 2, f, none⟩ (.int .i64 (-2 - (I : Int)))) (.cells #[.int .i64 (f : Int)] 3) pe (lt_of_block e2)).trans e2
                        have HA3 := Lib.hid hA3
                        have HB3 := Lib.hid hB3
                        have E3 := Lib.hid e3
                        have hpq := hA.qu.lt
                        have hlq : (q.drop (a + 1)).length ≤ 1000000 := by have := hri.out.b.len; have h2 : (netOf K m E).n = K := rfl; rw [List.length_drop]; omega
                        have HLQ := Lib.hid hlq
                        have hdr := Lib.hid (show q.drop (a + 1) ++ [f] = (q ++ [f]).drop (a + 1) from (List.drop_append_of_le_length (by omega)).symm)
                        have hl3 : a < (q ++ [f]).length := by simp; omega
                        have hszq : w.heap.size + 3 ≤ W.heap.size := by omega
                        clear hT hF hA3 hB3 e1 e2 e3 hE2 hA z2 hlq hri HSK HFD hf hr hs HE
                        go_wp2_with (at_builtin; refine append_q rfl (.tmp 119) (.tmp 122) rfl (w.heap.size + 3) gq _ (q.drop (a + 1)) f _ _ rfl HA3.out.qu W.heap.size rfl HB3.out rfl HLQ.out (by simp [World.setCell]; omega) ?_)
                        intro g5 v5 w5 hq5 hg5 b5 hblk5
                        have hA5 := HA3.out.pushed f hq5 b5
                        rw [hdr.out] at hA5
                        have e5 := (hblk5 pe (fun e => by omega) (by omega)).trans E3.out
                        have hgp5 : g5 ≠ pe := by omega
                        clear hq5 hg5 b5 hblk5 HA3 HB3 E3 y0 y3 y4 z0 z1 z2' z3 z3'
                        go_wp2_with fail
                        go_roundw
                        case rel => exact ⟨I + 1, q ++ [f], _, g5, by omega, by go_num, hl3, hnx, hA5⟩
                        case measure => simp [intOf]; omega
              · obtain rfl : I = m := by omega
                have hrb := Lib.hid (hri.out.done (Nat.le_refl _))
                have hm2 := seenC_row hSe hrb.out.nd hrb.out.lt
                have hlen2 : q.length ≤ K := hrb.out.len
                have HQ := Lib.hid hQ
                have hdl := Lib.hid (show (q.drop (a + 1)).length = q.length - (a + 1) from List.length_drop)
                obtain ⟨o2, cap2, rfl⟩ := hQ.form
                clear hQ
                generalize (q.drop (a + 1)).length = LQ at *
                go_wp2_with fail
                go_roundw
                case rel => exact ⟨a + 1, q, b, gq, by omega, hrb, ⟨hN, hSe, hBy, HQ.out, hB⟩⟩
                case measure => have hd := hdl.out; have ho := hln.out; simp [lenV]; omega
        · have hde : q.drop a = [] := List.drop_eq_nil_of_le (by omega)
          rw [hde] at hA
          obtain ⟨hN, hSe, hBy, hQ, hB⟩ := hA
          obtain ⟨o, cap, S, F, rfl, _, _, _, _, _⟩ := hQ
          obtain rfl : a = q.length := by omega
          go_wp2_with fail
          go_ret2
          exact ⟨_, _, q, b, rfl, hSe, hBy, hrb.out, by omega, by omega, by omega, hB⟩
end Go.Proofs.Ytjdceafkcakbjaa
