/- Matching, ported: MRch. -/
import Derived.Test.YtngpfondnampjaaDoorMSet
namespace Go.Proofs.YtngpfondnampjaaDoor
open Go.RowKit
/- mathematics -/
theorem maxC {n m : Nat} {nb : Nat → List Nat} (hnb : ∀ a b, b ∈ nb a → b < m) : ∀ a, a ≤ n → ∃ C : Nat → Prop, Closed m nb (maxS nb m a).R C ∧ ∀ a', a' < a → (maxS nb m a).L a' = -1 → ∀ b, b ∈ nb a' → C b
  | 0, _ => ⟨fun _ => False, fun _ h => h.elim, fun _ h => absurd h (Nat.not_lt_zero _)⟩
  | a + 1, ha => by
    obtain ⟨C, hC, hF⟩ := maxC (n := n) hnb a (by omega)
    have ih := maxI (n := n) hnb a (by omega)
    have hres := vis_res (n := n) hnb (m + 1) a (maxS nb m a) ih.mat (by omega) (.inl (ih.free a (Nat.le_refl _))) (by rw [maxS_seen, un_none]; omega)
    cases hr : (vis nb (m + 1) a (maxS nb m a)).1 with
    | false =>
      have fl := hres.no hr
      have eL : (maxS nb m (a + 1)).L = (maxS nb m a).L := fl.eL
      have eR : (maxS nb m (a + 1)).R = (maxS nb m a).R := fl.eR
      have hs : ∀ b, ¬ (maxS nb m a).seen b = true := fun b => by rw [maxS_seen]; exact Bool.false_ne_true
      refine ⟨fun b => C b ∨ (vis nb (m + 1) a (maxS nb m a)).2.seen b = true, ?_, ?_⟩
      · rw [eR]
        intro b hb
        rcases hb with hb | hb
        · exact ⟨(hC b hb).1, (hC b hb).2.1, fun c hc => .inl ((hC b hb).2.2 c hc)⟩
        · obtain ⟨h1, h2, h3⟩ := (fl.new b hb).resolve_left (hs b)
          exact ⟨h1, h2, fun c hc => .inr (h3 c hc)⟩
      · rw [eL]
        intro a' ha' hL b hb
        by_cases e : a' = a
        · subst e; exact .inr (fl.all b hb)
        · exact .inl (hF a' (by omega) hL b hb)
    | true =>
      have dn := hres.yes hr
      obtain ⟨_, h2⟩ := dn.cl C hC
      refine ⟨C, fun b hb => ?_, fun a' ha' hL b hb => ?_⟩
      · have e : (maxS nb m (a + 1)).R b = (maxS nb m a).R b := h2 b hb
        rw [e]; exact hC b hb
      · have hL' : (vis nb (m + 1) a (maxS nb m a)).2.L a' = -1 := hL
        have hn : ¬ ((maxS nb m a).L a' ≠ -1 ∨ a' = a) := fun h => (dn.ml a').2 h hL'
        have h3 : (maxS nb m a).L a' = -1 := by
          by_cases e : (maxS nb m a).L a' = -1
          · exact e
          · exact absurd (.inl e) hn
        exact hF a' (by have : a' ≠ a := fun e => hn (.inr e); omega) h3 b hb
/- what reached marks, from the left nodes below a -/
def rS (nb : Nat → List Nat) (m : Nat) (g : Gr) : Nat → Gr
  | 0 => ⟨fun _ => false, g.L, g.R⟩
  | a + 1 => if g.L a = -1 then (vis nb (m + 1) a (rS nb m g a)).2 else rS nb m g a
structure RsI (n m : Nat) (nb : Nat → List Nat) (g : Gr) (a : Nat) : Prop where
  eL : (rS nb m g a).L = g.L
  eR : (rS nb m g a).R = g.R
  cl : Closed m nb g.R (fun b => (rS nb m g a).seen b = true)
  all : ∀ a', a' < a → g.L a' = -1 → ∀ b, b ∈ nb a' → (rS nb m g a).seen b = true
  least : ∀ C, Closed m nb g.R C → (∀ a', a' < a → g.L a' = -1 → ∀ b, b ∈ nb a' → C b) → ∀ b, (rS nb m g a).seen b = true → C b
theorem rsI {n m : Nat} {nb : Nat → List Nat} {g : Gr} (hnb : ∀ a b, b ∈ nb a → b < m) (hM : Mat n m nb g) {C : Nat → Prop} (hC : Closed m nb g.R C) (hF : ∀ a', a' < n → g.L a' = -1 → ∀ b, b ∈ nb a' → C b) : ∀ a, a ≤ n → RsI n m nb g a
  | 0, _ => ⟨rfl, rfl, fun b h => absurd h Bool.false_ne_true, fun _ h => absurd h (Nat.not_lt_zero _), fun _ _ _ b h => absurd h Bool.false_ne_true⟩
  | a + 1, ha => by
    have ih := rsI hnb hM hC hF a (by omega)
    by_cases hL : g.L a = -1
    · have e : rS nb m g (a + 1) = (vis nb (m + 1) a (rS nb m g a)).2 := if_pos hL
      have hm2 : Mat n m nb (rS nb m g a) := mat_eq hM ih.eL ih.eR
      have hres := vis_res (n := n) hnb (m + 1) a (rS nb m g a) hm2 (by omega) (.inl (by rw [ih.eL]; exact hL)) (by have := un_le (rS nb m g a).seen m; omega)
      have hr : (vis nb (m + 1) a (rS nb m g a)).1 = false := by
        cases hr : (vis nb (m + 1) a (rS nb m g a)).1 with
        | false => rfl
        | true => exact absurd (hF a (by omega) hL) ((hres.yes hr).cl C (by rw [ih.eR]; exact hC)).1
      have fl := hres.no hr
      rw [← e] at fl
      have mono : ∀ b, (rS nb m g a).seen b = true → (rS nb m g (a + 1)).seen b = true := fun b hb => by rw [e]; exact hres.kept.mono b hb
      refine ⟨fl.eL.trans ih.eL, fl.eR.trans ih.eR, fun b hb => ?_, fun a' ha' hL' b hb => ?_, fun D hD hDF b hb => ?_⟩
      · rcases fl.new b hb with h1 | ⟨h1, h2, h3⟩
        · exact ⟨(ih.cl b h1).1, (ih.cl b h1).2.1, fun c hc => mono c ((ih.cl b h1).2.2 c hc)⟩
        · rw [ih.eR] at h2 h3
          exact ⟨h1, h2, h3⟩
      · by_cases e2 : a' = a
        · subst e2; exact fl.all b hb
        · exact mono b (ih.all a' (by omega) hL' b hb)
      · rcases fl.least D (by rw [ih.eR]; exact hD) (fun c hc => hDF a (Nat.lt_succ_self a) hL c hc) b hb with h1 | h1
        · exact ih.least D hD (fun a' ha' => hDF a' (by omega)) b h1
        · exact h1
    · have e : rS nb m g (a + 1) = rS nb m g a := if_neg hL
      refine ⟨by rw [e]; exact ih.eL, by rw [e]; exact ih.eR, by rw [e]; exact ih.cl, fun a' ha' hL' b hb => ?_, fun D hD hDF b hb => ?_⟩
      · rw [e]
        have : a' ≠ a := fun h => hL (by rw [← h]; exact hL')
        exact ih.all a' (by omega) hL' b hb
      · rw [e] at hb
        exact ih.least D hD (fun a' ha' => hDF a' (by omega)) b hb
def lfR (L : Nat → Int) (s : Nat → Bool) (v : Nat) : Bool := decide (L v = -1) || s (L v).toNat
def lfK (L : Nat → Int) (s : Nat → Bool) (K v : Nat) : Bool := if v < K then lfR L s v else false
theorem lfK_step (L : Nat → Int) (s : Nat → Bool) (K : Nat) (x : Bool) (h : x = lfR L s K) : (fun v => if v = K then x else lfK L s K v) = lfK L s (K + 1) := funext fun v => by
  unfold lfK
  by_cases e : v = K
  · subst e; rw [if_pos rfl, if_pos (Nat.lt_succ_self _), h]
  · rw [if_neg e]
    by_cases e2 : v < K
    · rw [if_pos e2, if_pos (by omega)]
    · rw [if_neg e2, if_neg (by omega)]
theorem row_bool {w : World} {g n k : Nat} {s : Nat → Bool} (h : w.rowIs g 4 n (bvals s)) (x : Bool) : (w.setCell ⟨g, k, none⟩ (.bool x)).rowIs g 4 n (bvals fun v => if v = k then x else s v) := (h.set k _).congr fun j _ => by
  unfold bvals
  by_cases e : j = k
  · subst e; simp
  · simp [e]
theorem al2 (W : World) (a b : Obj) : ((W.alloc a).alloc b).heap[W.heap.size]? = some a ∧ ((W.alloc a).alloc b).heap[W.heap.size + 1]? = some b ∧ Below W.heap.size W ((W.alloc a).alloc b) := by
  have k1 : (W.alloc a).heap.size = W.heap.size + 1 := by simp
  have b2 := below_new (W.alloc a) b
  refine ⟨?_, ?_, below_next (below_new W a) b2⟩
  · rw [b2.block _ (by omega)]; exact heap_alloc_new W a
  · rw [← k1]; exact heap_alloc_new (W.alloc a) b
structure ReEnd (w : World) (lim n m : Nat) (L : Nat → Int) (s : Nat → Bool) (gA gB : Nat) (w' : World) : Prop where
  a : w'.rowIs gA 4 n (bvals (lfR L s))
  b : w'.rowIs gB 4 m (bvals s)
  la : w.heap.size ≤ gA
  lb : w.heap.size ≤ gB
  bl : Below lim w w'
set_option maxRecDepth 100000 in
set_option maxHeartbeats 4000000 in
theorem reached_any (lim base n m gN gL gR : Nat) (nb : Nat → List Nat) (V : Nat → Value) (g : Gr) (w : World) (h : GA lim base w n m gN gL gR nb V g.L g.R) (hlen : ∀ a, (nb a).length ≤ 2000) (hnb : ∀ a b, b ∈ nb a → b < m) (hn : n ≤ 512) (hm : m ≤ 512)
    (hM : Mat n m nb g) {C : Nat → Prop} (hC : Closed m nb g.R C) (hF : ∀ a', a' < n → g.L a' = -1 → ∀ b, b ∈ nb a' → C b) :
    Calls Tryd.prog 79 #[.agg #[.slice (some ⟨gN, 0, none⟩) n n, .slice (some ⟨gL, 0, none⟩) n n, .slice (some ⟨gR, 0, none⟩) m m]] w (fun e w' => ∃ gA gB, e = .returned (.tuple #[.slice (some ⟨gA, 0, none⟩) n n, .slice (some ⟨gB, 0, none⟩) m m]) ∧ ReEnd w lim n m g.L (rS nb m g n).seen gA gB w') := by
  have mk1 := make_bools5 n (by omega)
  have mk2 := make_bools5 m (by omega)
  have HI := Lib.hid (rsI (n := n) hnb hM hC hF)
  have HM := Lib.hid hM
  have HNB := Lib.hid hnb
  have HLEN := Lib.hid hlen
  obtain ⟨o, ho⟩ : ∃ o, o = Obj.cells #[.slice (some ⟨gN, 0, none⟩) n n, .slice (some ⟨gL, 0, none⟩) n n, .slice (some ⟨gR, 0, none⟩) m m] 100 := ⟨_, rfl⟩
  have e1 : (w.alloc o).heap[w.heap.size]? = some o := heap_alloc_new w o
  have b1 := below_new w o
  have s1 : (w.alloc o).heap.size = w.heap.size + 1 := by simp
  rw [ho] at e1 b1 s1
  have HG := Lib.hid h
  clear ho hM hC hF hnb hlen h
  go_enter Tryd.func79, Tryd.ntmps79
  go_upto_region 1 with fail
  generalize w.alloc (.cells #[.slice (some ⟨gN, 0, none⟩) n n, .slice (some ⟨gL, 0, none⟩) n n, .slice (some ⟨gR, 0, none⟩) m m] 100) = W at *
  have c1 : W.cell? ⟨w.heap.size, 1, none⟩ = some (.slice (some ⟨gL, 0, none⟩) n n) := cell_of_row _ _ 1 _ _ _ e1
  have c2 : W.cell? ⟨w.heap.size, 2, none⟩ = some (.slice (some ⟨gR, 0, none⟩) m m) := cell_of_row _ _ 2 _ _ _ e1
  have hwl : w.heap.size < W.heap.size := by omega
  go_cut [2, 3] from 8 to 15 (fun x y wx => ∃ gA gB, x = .slice (some ⟨gA, 0, none⟩) n n ∧ y = .slice (some ⟨gB, 0, none⟩) m m ∧ wx.heap[gA]? = some (.cells (madeCells #[.bool false] n) 4) ∧ wx.heap[gB]? = some (.cells (madeCells #[.bool false] m) 4) ∧ Below W.heap.size W wx ∧ W.heap.size ≤ gA ∧ W.heap.size ≤ gB ∧ gA ≠ gB)
  case first =>
    clear HI HM HNB HLEN HG e1 b1 s1
    go_region
    all_goals
      go_wp2_with fail
      go_meet
    all_goals
      first
        | exact ⟨W.heap.size, W.heap.size + 1, rfl, rfl, (al2 W _ _).1, (al2 W _ _).2.1, (al2 W _ _).2.2.drew, Nat.le_refl _, Nat.le_succ _, by omega⟩
        | exact ⟨W.heap.size + 1, W.heap.size, rfl, rfl, (al2 W _ _).2.1, (al2 W _ _).1, (al2 W _ _).2.2.drew, Nat.le_succ _, Nat.le_refl _, by omega⟩
  case rest =>
    obtain ⟨gA, gB, rfl, rfl, eA, eB, bx, lA, lB, hAB⟩ := hcut
    have hlo := HG.out.lo
    have hhi := HG.out.hi
    have lL := HG.out.l.lt
    have lR := HG.out.r.lt
    have lN := HG.out.tab.rows.lt
    have BW := below_next b1 bx
    have LR := HG.out.ne.2.2
    have hSt : StAt wc n m gL gR gB (rS nb m g 0) := ⟨row_below HG.out.l BW, row_below HG.out.r BW, row_of_made eB⟩
    have hRow : wc.rowIs gA 4 n (bvals fun _ => false) := row_of_made eA
    have hBox : wc.heap[w.heap.size]? = some (.cells #[.slice (some ⟨gN, 0, none⟩) n n, .slice (some ⟨gL, 0, none⟩) n n, .slice (some ⟨gR, 0, none⟩) m m] 100 (0, 0)) := (bx.block _ hwl).trans e1
    have hFar : Hid (∀ b, b < w.heap.size → b ≠ gL → b ≠ gR → wc.heap[b]? = w.heap[b]?) := Lib.hid fun b hb _ _ => BW.block b hb
    have hNb := Lib.hid (HG.out.tab.nbAt (X := Out gL gR gB) ⟨HG.out.ne.1, HG.out.ne.2.1, by omega⟩ fun b h1 h2 => ⟨by omega, by omega, by omega⟩)
    have k1 : wc.cell? ⟨w.heap.size, 1, none⟩ = some (.slice (some ⟨gL, 0, none⟩) n n) := cell_of_row _ _ 1 _ _ _ hBox
    have BL : Below lim w wc := BW.mono (by omega)
    have hszc := BW.size
    clear mk1 mk2 eA eB bx b1 e1 c1 c2 BW
    go_wp2_with fail
    clear k1
    go_loopw [19] (fun i wr => ∃ K : Nat, K ≤ n ∧ i = .int .i64 K ∧ StAt wr n m gL gR gB (rS nb m g K) ∧ wr.rowIs gA 4 n (bvals fun _ => false) ∧ wr.heap[w.heap.size]? = some (.cells #[.slice (some ⟨gN, 0, none⟩) n n, .slice (some ⟨gL, 0, none⟩) n n, .slice (some ⟨gR, 0, none⟩) m m] 100 (0, 0)) ∧ Hid (∀ b, b < w.heap.size → b ≠ gL → b ≠ gR → wr.heap[b]? = w.heap[b]?) ∧ Below lim w wr ∧ w.heap.size ≤ wr.heap.size) (fun i _ => n - (intOf i).toNat)
    case atStart => exact ⟨0, Nat.zero_le _, rfl, hSt, hRow, hBox, hFar, BL, hszc⟩
    case round =>
      clear hSt hRow hBox hFar BL hszc
      obtain ⟨K, hK, rfl, hSt, hRow, hBox, hFar, hB, hsz⟩ := hrel
      have hRI := Lib.hid (HI.out K hK)
      have k0 : wr.cell? ⟨w.heap.size, 0, none⟩ = some (.slice (some ⟨gN, 0, none⟩) n n) := cell_of_row _ _ 0 _ _ _ hBox
      have k1 : wr.cell? ⟨w.heap.size, 1, none⟩ = some (.slice (some ⟨gL, 0, none⟩) n n) := cell_of_row _ _ 1 _ _ _ hBox
      have k2 : wr.cell? ⟨w.heap.size, 2, none⟩ = some (.slice (some ⟨gR, 0, none⟩) m m) := cell_of_row _ _ 2 _ _ _ hBox
      by_cases hlt : K < n
      · have x0 : wr.cell? ⟨gL, K, none⟩ = some (.int .i64 (g.L K)) := by have := hSt.l.cell hlt; rw [hRI.out.eL] at this; exact this
        have hwrap : IntKind.i64.wrap ((K : Int) + 1) = (K : Int) + 1 := IntWalk.i64_in _ (by omega)
        by_cases hL : g.L K = -1
        · have hN := hNb.out.keep hsz (fun b hb hx => hFar.out b hb hx.1 hx.2.1)
          have HC := Lib.hid (improve_any lim n m gN gL gR gB nb (adOf V) (cpOf V) HNB.out HLEN.out hlo.2.1 hlo.2.2 (by omega) (m + 1) K (rS nb m g K) wr hN hSt LR (by omega) (by omega) (mat_eq HM.out hRI.out.eL hRI.out.eR) hlt (.inl (by rw [hRI.out.eL]; exact hL)) (by have := un_le (rS nb m g K).seen m; omega))
          have hst : Hid (rS nb m g (K + 1) = (vis nb (m + 1) K (rS nb m g K)).2) := if_pos hL
          rw [hL] at x0
          have HRow := Lib.hid hRow
          have HBox := Lib.hid hBox
          have hrl := hRow.lt
          have hbl := lt_of_block hBox
          clear hL hN hSt hRow hBox
          go_wp2_with fail
          refine HC.out.mono ?_; rintro e w4 ⟨rfl, S4, b4, kp4⟩
          have KP := Lib.hid kp4
          clear k0 k1 k2 x0 HC kp4
          go_wp2_with fail
          go_roundw
          case rel => exact ⟨K + 1, hlt, by go_num, by rw [hst.out]; exact S4, HRow.out.of_block (KP.out.2 gA hrl ⟨by omega, by omega, hAB⟩), (KP.out.2 _ hbl ⟨by omega, by omega, by omega⟩).trans HBox.out, Lib.hid (fun b hb h1 h2 => (KP.out.2 b (Nat.lt_of_lt_of_le hb hsz) ⟨h1, h2, by omega⟩).trans (hFar.out b hb h1 h2)), hB.trans b4, Nat.le_trans hsz KP.out.1⟩
          case measure => simp [intOf]; omega
        · have hst : Hid (rS nb m g (K + 1) = rS nb m g K) := if_neg hL
          have q1 : (g.L K == -1) = false := beq_false_of_ne hL
          generalize g.L K = y at *
          clear hL k0 k2
          go_wp2_with fail
          go_roundw
          case rel => exact ⟨K + 1, hlt, by go_num, by rw [hst.out]; exact hSt, hRow, hBox, hFar, hB, hsz⟩
          case measure => simp [intOf]; omega
      · obtain rfl : K = n := by omega
        have hl : wr.rowIs gL 3 K (ivals g.L) := by have := hSt.l; rw [hRI.out.eL] at this; exact this
        have hs := hSt.s
        clear k0 k2 hFar hSt
        go_wp2_with fail
        clear k1
        go_loopw [34] (fun i wr => ∃ K2 : Nat, K2 ≤ K ∧ i = .int .i64 K2 ∧ wr.rowIs gL 3 K (ivals g.L) ∧ wr.rowIs gB 4 m (bvals (rS nb m g K).seen) ∧ wr.rowIs gA 4 K (bvals (lfK g.L (rS nb m g K).seen K2)) ∧ Below lim w wr) (fun i _ => K - (intOf i).toNat)
        case atStart => exact ⟨0, Nat.zero_le _, rfl, hl, hs, hRow.congr fun j _ => by unfold bvals lfK; rw [if_neg (Nat.not_lt_zero _)], hB⟩
        case round =>
          clear hl hs hRow hB hBox hsz
          obtain ⟨K2, hK2, rfl, hl, hs, hRow, hB⟩ := hrel
          by_cases hlt2 : K2 < K
          · have x0 : wr.cell? ⟨gL, K2, none⟩ = some (.int .i64 (g.L K2)) := hl.cell hlt2
            have y0 : wr.cell? ⟨gA, K2, none⟩ = _ := hRow.cell hlt2
            have f0 := hRow.frozen K2
            have hwrap : IntKind.i64.wrap ((K2 : Int) + 1) = (K2 : Int) + 1 := IntWalk.i64_in _ (by omega)
            have hfl : gL ≠ gA := by omega
            have hbl : gB ≠ gA := fun e => hAB e.symm
            by_cases hL : g.L K2 = -1
            · have hnew := row_bool (k := K2) hRow true
              rw [lfK_step _ _ _ _ (by unfold lfR; rw [hL]; rfl)] at hnew
              have hB2 := hB.setCell (p := ⟨gA, K2, none⟩) (by show lim ≤ gA; omega) (.bool true)
              have hl2 := hl.setOther (a := ⟨gA, K2, none⟩) (by exact hfl) (.bool true)
              have hs2 := hs.setOther (a := ⟨gA, K2, none⟩) (by exact hbl) (.bool true)
              rw [hL] at x0
              clear hL hRow hB hl hs
              go_wp2_with fail
              go_roundw
              case rel => exact ⟨K2 + 1, hlt2, by go_num, hl2, hs2, hnew, hB2⟩
              case measure => simp [intOf]; omega
            · obtain ⟨b, hbm, hLb, _⟩ := (HM.out.l K2 hlt2).resolve_left hL
              have z0 : wr.cell? ⟨gB, b, none⟩ = some (.bool ((rS nb m g K).seen b)) := hs.cell hbm
              have q1 : ((b : Int) == -1) = false := beq_false_of_ne (by omega)
              have hnew := row_bool (k := K2) hRow ((rS nb m g K).seen b)
              rw [lfK_step _ _ _ _ (by unfold lfR; rw [hLb, decide_eq_false (by omega)]; rfl)] at hnew
              have hB2 := hB.setCell (p := ⟨gA, K2, none⟩) (by show lim ≤ gA; omega) (.bool ((rS nb m g K).seen b))
              have hl2 := hl.setOther (a := ⟨gA, K2, none⟩) (by exact hfl) (.bool ((rS nb m g K).seen b))
              have hs2 := hs.setOther (a := ⟨gA, K2, none⟩) (by exact hbl) (.bool ((rS nb m g K).seen b))
              rw [hLb] at x0
              have HN := Lib.hid hnew
              have HL2 := Lib.hid hl2
              have HS2 := Lib.hid hs2
              generalize (rS nb m g K).seen b = sb at *
              clear hL hRow hB hl hs hnew hl2 hs2 hLb
              go_wp2_with fail
              go_roundw
              case rel => exact ⟨K2 + 1, hlt2, by go_num, HL2.out, HS2.out, HN.out, hB2⟩
              case measure => simp [intOf]; omega
          · obtain rfl : K2 = K := by omega
            go_wp2_with fail
            go_ret2
            exact ⟨gA, gB, rfl, hRow.congr fun j hj => by unfold bvals lfK; rw [if_pos hj], hs, by omega, by omega, hB⟩
end Go.Proofs.YtngpfondnampjaaDoor
