/- The contract of takePath. -/
import Derived.Test.YtjdceafkcakbjaaFRev
import Derived.Test.YtjdceafkcakbjaaFCutK
namespace Go.Proofs.Ytjdceafkcakbjaa
open Go.RowKit
/- a path has been taken off f: g is left -/
structure Took (N : Net) (s t : Nat) (f g : Nat → Int) (p : List Nat) : Prop where
  path : N.Path s t p
  flow : N.Flow s t g
  val : N.bal g s = N.bal f s - 1
  use : ∀ j, N.eS f j - N.eS g j = fc N.n p p.length j
theorem Net.Take.took {N : Net} {s t v : Nat} {f d g : Nat → Int} {p : List Nat} (h : N.Take t f d g p v 0) (hs : ∀ v, v < N.n → d v = 0 → v = s) (hst : s ≠ t) (hf : N.Flow s t f) : Took N s t f g p := by
  obtain ⟨a, b, c⟩ := h.done hs hst hf
  exact ⟨a, b, c, h.use⟩
def TkEnd (w : World) (lim : Nat) (N : Net) (gr gA gF s t : Nat) (f : Nat → Int) (e : Ending) (w' : World) : Prop :=
  ∃ g c p gn, e = .returned (.slice (some ⟨g, 0, none⟩) p.length c) ∧ LAt w' g p ∧ p.length ≤ c ∧ Took N s t f gn p ∧ Rsd w' N gr gA gF (rest0 gn) ∧ w.heap.size ≤ g ∧ Below lim w w' ∧ ∀ b, b ≠ gA → b < w.heap.size → w'.heap[b]? = w.heap[b]?
/- what lies in memory while the path is built -/
structure TkAt (w wr : World) (lim bs : Nat) (N : Net) (gr gA gF gD : Nat) (g d : Nat → Int) (v : Value) (L : List Nat) : Prop where
  res : Rsd wr N gr gA gF (rest0 g)
  dist : wr.rowIs gD 3 N.n (ivals d)
  own : wr.ownsRow bs 3 1 v L.length (vals L)
  bl : Below lim w wr
  fr : ∀ b, b ≠ gA → b < w.heap.size → wr.heap[b]? = w.heap[b]?
  dl : gD < bs
  sz : bs ≤ wr.heap.size
  rl : gr < bs ∧ gA < bs ∧ gF < bs
  bw : w.heap.size ≤ bs
  ad : gD ≠ gA
  la : lim ≤ gA
theorem own_cap {w : World} {base g cap n : Nat} {e : TypeId} {size : Nat} {xs : List Value} (h : w.ownsRow base e size (.slice (some ⟨g, 0, none⟩) n cap) n xs) : n ≤ cap := by
  rcases h.2 with ⟨hv, _⟩ | ⟨g', cap', cur, hv, _, _, hnc, _⟩
  · cases hv
  · injection hv with _ _ e2; subst e2; exact hnc
theorem own_oth {w : World} {base : Nat} {e : TypeId} {size : Nat} {v : Value} {n : Nat} {xs : List Value} (h : w.ownsRow base e size v n xs) {p : Addr} (hp : p.block < base) (u : Value) : (w.setCell p u).ownsRow base e size v n xs :=
  h.kept (row := some p.block) ⟨rfl, rfl, rfl, by simp [World.setCell], fun k _ hne => Below.heap_setCell w p u k (fun e => hne (by rw [e]))⟩ (by
    by_cases hv : v.ownBlock = some p.block
    · exact absurd (h.lt _ hv).1 (by omega)
    · exact Or.inr hv)
section
variable {w wr w9 : World} {lim bs gr gA gF gD : Nat} {N : Net} {g d : Nat → Int} {v v' : Value} {L L' : List Nat}
theorem TkAt.drewN (h : TkAt w wr lim bs N gr gA gF gD g d v L) (k : Nat) : TkAt w (wr.drewN k) lim bs N gr gA gF gD g d v L :=
  ⟨ResB.below h.res (below_drewN (Below.refl _ _) k), h.dist, own_below h.own (below_drewN (Below.refl _ _) k), below_drewN h.bl k, h.fr, h.dl, h.sz, h.rl, h.bw, h.ad, h.la⟩
theorem TkAt.grow {o : Obj} (h : TkAt w wr lim bs N gr gA gF gD g d v L) (hlim : lim ≤ bs) (hown : w9.ownsRow bs 3 1 v' L'.length (vals L')) (hg : (wr.alloc o).grownBy w9 v.ownBlock) : TkAt w w9 lim bs N gr gA gF gD g d v' L' := by
  have hs := h.sz
  have b9 : Below bs wr w9 := (((Below.refl _ wr).alloc (Nat.le_refl _) o).mono hs).trans (grown_below3 (Below.refl _ _) (h.own.alloc o) (Nat.le_refl _) (by simp; omega) hg)
  exact ⟨⟨(b9.block gr h.rl.1).trans (ResB.box h.res), (ResB.arcs h.res).of_block (b9.block gA h.rl.2.1), (ResB.first h.res).of_block (b9.block gF h.rl.2.2), ResB.n1 h.res, ResB.n2 h.res, ResB.n3 h.res⟩, h.dist.of_block (b9.block gD h.dl), hown,
    h.bl.trans (b9.mono hlim), fun b hb hl => (b9.block b (Nat.lt_of_lt_of_le hl h.bw)).trans (h.fr b hb hl), h.dl, Nat.le_trans hs b9.size, h.rl, h.bw, h.ad, h.la⟩
theorem TkAt.less (h : TkAt w wr lim bs N gr gA gF gD g d v L) (e kb : Nat) (hk : kb = 2 * e) : TkAt w (wr.setCell ⟨gA, kb * 4 + 1, none⟩ (.int .i64 (g e - 1))) lim bs N gr gA gF gD (dec1 g e) d v L := by
  subst hk
  exact ⟨ResB.congr (ResB.setRest h.res (2 * e) (g e - 1)) (fun _ _ => rfl) (fun k _ => rest0_dec g e k) (fun _ _ => rfl) (fun _ _ => rfl) (fun _ _ => rfl), h.dist.setOther (by exact h.ad) _, own_oth h.own (by exact h.rl.2.1) _, h.bl.setCell (by exact h.la) _,
    fun b hb hl => (Below.heap_setCell _ _ _ b (by exact hb)).trans (h.fr b hb hl), h.dl, by simp [World.setCell]; exact h.sz, h.rl, h.bw, h.ad, h.la⟩
end
def Suit (N : Net) (g d : Nat → Int) (c : Int) (j : Nat) : Prop := d (N.aT j) = c ∧ 0 < rest0 g (bk j)
theorem no_suit {N : Net} {s t v c : Nat} {f d g : Nat → Int} {p : List Nat} (h : N.Take t f d g p v c) (hd : N.Dst (rest0 f) s d) (hv : v < N.n) (hc : 1 ≤ c) (hn : ∀ j, j < 2 * N.m → N.aF j = v → ¬ Suit N g d ((c : Int) - 1) j) : False := by
  obtain ⟨e, h1, h2, h3, h4⟩ := h.next hd hv (by omega)
  have hb : bk (2 * e + 1) = 2 * e := by unfold bk; rw [if_neg (by omega)]; omega
  refine hn (2 * e + 1) (by omega) ?_ ⟨?_, ?_⟩
  · unfold Net.aF; rw [if_neg (by omega), show (2 * e + 1) / 2 = e by omega]; exact h2
  · unfold Net.aT; rw [if_neg (by omega), show (2 * e + 1) / 2 = e by omega]; exact h3
  · rw [hb, rest0_even]; exact h4
theorem suit_edge {N : Net} {v j : Nat} {d g : Nat → Int} {c : Int} (hj : j < 2 * N.m) (hF : N.aF j = v) (h : Suit N g d c j) : ∃ e, e < N.m ∧ bk j = 2 * e ∧ N.tt e = v ∧ N.fr e = N.aT j ∧ d (N.fr e) = c ∧ 0 < g e := by
  obtain ⟨h1, h2⟩ := h
  by_cases hk : j % 2 = 0
  · have hb : bk j = 2 * (j / 2) + 1 := by unfold bk; rw [if_pos hk]; omega
    rw [hb, rest0_odd] at h2; omega
  · obtain ⟨e, rfl⟩ : ∃ e, j = 2 * e + 1 := ⟨j / 2, by omega⟩
    have hb : bk (2 * e + 1) = 2 * e := by unfold bk; rw [if_neg (by omega)]; omega
    have e1 : N.aF (2 * e + 1) = N.tt e := by unfold Net.aF; rw [if_neg (by omega), show (2 * e + 1) / 2 = e by omega]
    have e2 : N.aT (2 * e + 1) = N.fr e := by unfold Net.aT; rw [if_neg (by omega), show (2 * e + 1) / 2 = e by omega]
    rw [hb, rest0_even] at h2
    exact ⟨e, by omega, hb, by rw [← e1]; exact hF, e2.symm, by rw [← e2]; exact h1, h2⟩
set_option maxRecDepth 100000 in
set_option maxHeartbeats 16000000 in
theorem take_any (lim : Nat) (N : Net) (gr gA gF s t : Nat) (f : Nat → Int) (w : World) (h : Rsd w N gr gA gF (rest0 f)) (ok : N.Ok) (hs : s < N.n) (ht : t < N.n) (hst : s ≠ t) (hf : N.Flow s t f) (hp : 0 < N.bal f s) (l1 : lim ≤ gA) :
    Calls Try.prog 55 #[.pointer (some ⟨gr, 0, none⟩), .int .i64 s, .int .i64 t] w (TkEnd w lim N gr gA gF s t f) := by
  have hreach := hf.leads ok hs hp
  have HD0 := Lib.hid (dist_any N gr gA gF s (rest0 f) w h ok hs)
  have HH := Lib.hid h
  have hlA := (ResB.arcs h).lt
  have hlF := (ResB.first h).lt
  have hlr := lt_of_block (ResB.box h)
  clear h
  have HOK := Lib.hid ok
  have hn1 := ok.n1
  have hn2 := ok.n2
  have HF := Lib.hid hf
  have HST := Lib.hid hst
  clear ok hf hst hp
  go_enter Try.func55, Try.ntmps55
  go_wp2_with fail
  refine HD0.out.mono ?_; rintro e w1 ⟨gD, d, rfl, hrD, hdst, hgD, b1⟩
  have hdt : d t ≠ -1 := (hdst.reach HOK.out ht).2 hreach
  have hdt2 : 0 ≤ d t ∧ d t < N.n := (hdst.rng t ht).resolve_left hdt
  have z0 := hrD.cell ht
  replace z0 : w1.cell? ⟨gD, t, none⟩ = some (.int .i64 (d t)) := z0
  have hdl := hrD.lt
  have hbox : (w1.alloc (.cells #[.int .i64 (t : Int)] 3)).ownsRow w1.heap.size 3 1 (.slice (some ⟨w1.heap.size, 0, none⟩) 1 1) 1 [.int .i64 (t : Int)] := World.ownsRow_lit w1 #[.int .i64 (t : Int)] 1 (Nat.le_refl _) (by decide) rfl
  have bA := below_new w1 (.cells #[.int .i64 (t : Int)] 3)
  have hs1 := b1.size
  have hA0 : TkAt w (w1.alloc (.cells #[.int .i64 (t : Int)] 3)) lim w1.heap.size N gr gA gF gD f d (.slice (some ⟨w1.heap.size, 0, none⟩) 1 1) [t] :=
    ⟨ResB.below (ResB.below HH.out b1) bA, row_below hrD bA, hbox, (below_next b1 bA).mono (by omega), fun b _ hb => (below_next b1 bA).block b hb, hdl, bA.size, ⟨by omega, by omega, by omega⟩, hs1, by omega, l1⟩
  have htk : Hid (N.Take t f d f [t].reverse t (d t)) := Net.Take.start ht HF.out.r0
  have HDST := Lib.hid hdst
  have hw0 : IntKind.i64.wrap (d t - 1) = d t - 1 := IntWalk.i64_in _ (by omega)
  have hzt : (w1.alloc (.cells #[.int .i64 (t : Int)] 3)).cell? ⟨gD, t, none⟩ = some (.int .i64 (d t)) := (bA.cell (p := ⟨gD, t, none⟩) hdl).trans z0
  obtain ⟨dt, hdtE⟩ : ∃ dt : Nat, d t = (dt : Int) := ⟨(d t).toNat, by omega⟩
  rw [hdtE] at htk hw0 hzt z0 hdt2
  have hlb : lim ≤ w1.heap.size := by omega
  clear hbox bA hrD hdst hreach hdt b1 HD0 z0 hdtE hdl hgD
  go_wp2_with fail
  clear hzt hw0
  generalize w1.alloc (.cells #[.int .i64 (t : Int)] 3) = W at *
  generalize w1.heap.size = bs at *
  go_loopw [8, 9, 10, 11, 12, 13] (fun pv left _ _ _ _ wr => ∃ (c : Nat) (g : Nat → Int) (L : List Nat) (v : Nat), c < N.n ∧ left = .int .i64 ((c : Int) - 1) ∧ Hid (N.Take t f d g L.reverse v c) ∧ TkAt w wr lim bs N gr gA gF gD g d pv L) (fun _ left _ _ _ _ _ => (intOf left + 1).toNat)
  case atStart => exact ⟨dt, f, [t], t, by omega, rfl, htk, hA0⟩
  case round =>
    clear hA0 htk hdt2
    obtain ⟨c, g, L, v, hcn, rfl, htk, hA⟩ := hrel
    have hlen : 0 < L.length := by have := (List.getElem?_eq_some_iff.1 htk.out.hd).1; simpa using this
    have hLn : L.length ≤ 1000 := by
      have h1 := (List.getElem?_eq_some_iff.1 htk.out.hd).1
      have hnd : L.reverse.Nodup := List.pairwise_iff_getElem.2 fun i j hi hj hij he => by
        have e1 := htk.out.asc i L.reverse[i] (List.getElem?_eq_getElem hi)
        have e2 := htk.out.asc j L.reverse[j] (List.getElem?_eq_getElem hj)
        rw [he] at e1
        omega
      have := nodup_len _ _ hnd htk.out.lt
      simp at this; omega
    obtain ⟨gp, cap, rfl, _, _⟩ := hA.own.form (by omega)
    by_cases hc : c = 0
    · subst hc
      have q1 : decide ((0 : Int) ≤ ((0 : Nat) : Int) - 1) = false := by decide
      have hlat := own_lat hA.own
      have hRV := Lib.hid (reverse_any gp cap bs L wr hlat (by omega) (hA.own.lt gp rfl).1)
      have htook := Lib.hid (htk.out.took HDST.out.zero HST.out HF.out)
      have hrl : L.reverse.length = L.length := List.length_reverse
      have HRL := Lib.hid hrl
      have HCAP := Lib.hid (own_cap hA.own)
      have hgp := (hA.own.lt gp rfl).1
      clear hlat htk hrl
      go_wp2_with fail
      refine hRV.out.mono ?_; rintro e w9 ⟨rfl, hl9, b9, hf9⟩
      go_wp2_with fail
      go_ret
      refine ⟨gp, cap, L.reverse, g, by rw [HRL.out]; rfl, hl9, by rw [HRL.out]; exact HCAP.out, htook.out, ?_, by have := hA.bw; omega, hA.bl.trans (b9.mono hlb), fun b hb hl => (b9.block b (Nat.lt_of_lt_of_le hl hA.bw)).trans (hA.fr b hb hl)⟩
      exact ⟨(b9.block gr hA.rl.1).trans (ResB.box hA.res), (ResB.arcs hA.res).of_block (b9.block gA hA.rl.2.1), (ResB.first hA.res).of_block (b9.block gF hA.rl.2.2), ResB.n1 hA.res, ResB.n2 hA.res, ResB.n3 hA.res⟩
    · have q1 : decide ((0 : Int) ≤ (c : Int) - 1) = true := decide_eq_true (by omega)
      have q1' : decide ((1 : Int) ≤ (c : Int)) = true := decide_eq_true (by omega)
      obtain ⟨m1, hm1⟩ : ∃ m1, L.length = m1 + 1 := ⟨L.length - 1, by omega⟩
      have hlast : L.getD m1 0 = v := by
        have h1 := htk.out.hd
        rw [List.getElem?_reverse (by omega), show L.length - 1 - 0 = m1 by omega] at h1
        rw [List.getD_eq_getElem?_getD, h1]; rfl
      have hvn : v < N.n := htk.out.lt v (List.mem_iff_getElem?.2 ⟨0, htk.out.hd⟩)
      have y0 := (own_lat hA.own).cellD (k := m1) (by omega)
      rw [hlast] at y0
      have r1 := ResB.b1 hA.res
      have r2 := ResB.f hA.res hvn
      have hla := N.la_lt v (2 * N.m)
      have hrel0 : Hid (N.la v (2 * N.m) = -1 ∨ ∃ j : Nat, N.la v (2 * N.m) = j ∧ j < 2 * N.m ∧ N.aF j = v) := by
        by_cases e : N.la v (2 * N.m) = -1
        · exact Or.inl e
        · exact Or.inr (N.la_at v _ e)
      have hgap0 : Hid (∀ j, j < 2 * N.m → N.aF j = v → N.la v (2 * N.m) < (j : Int) → ¬ Suit N g d ((c : Int) - 1) j) := fun j h1 h2 h3 => absurd h2 (N.la_gap v _ j h1 h3)
      have HM1 := Lib.hid hm1
      have hm1b : m1 ≤ 1000 := by omega
      rw [hm1]
      clear hlast hm1
      have hw1 : IntKind.i64.wrap ((m1 : Int) + 1 - 1) = (m1 : Int) := IntWalk.i64_in _ (by omega) |>.trans (by omega)
      go_wp2_with fail
      clear y0 r1 r2 hw1 q1 q1'
      generalize N.la v (2 * N.m) = K0 at *
      go_loopw [8, 11, 12, 13] (fun pv k _ _ wx => ∃ K : Int, pv = .slice (some ⟨gp, 0, none⟩) L.length cap ∧ k = .int .i64 K ∧ -1 ≤ K ∧ Hid (K = -1 ∨ ∃ j : Nat, K = j ∧ j < 2 * N.m ∧ N.aF j = v) ∧ Hid (∀ j, j < 2 * N.m → N.aF j = v → K < (j : Int) → ¬ Suit N g d ((c : Int) - 1) j) ∧ TkAt w wx lim bs N gr gA gF gD g d (.slice (some ⟨gp, 0, none⟩) L.length cap) L) (fun _ k _ _ _ => (intOf k + 1).toNat)
      case atStart => exact ⟨K0, by rw [HM1.out], rfl, hla.2, hrel0, hgap0, hA⟩
      case round =>
        clear hA hrel0 hgap0 hla
        obtain ⟨K, rfl, rfl, hK, hKr, hgap, hA⟩ := hrel
        by_cases hK1 : K = -1
        · exact absurd (no_suit htk.out HDST.out hvn (by omega) (fun j h1 h2 => hgap.out j h1 h2 (by omega))) id
        · obtain ⟨j, hKj, hj, hjF⟩ := hKr.out.resolve_left hK1
          have hne : (K != -1) = true := bne_iff_ne.2 hK1
          subst hKj
          have t0 := ResB.b0 hA.res
          have t1 := ResB.t hA.res hj
          have t2 := ResB.b hA.res hj
          have t3 := ResB.x hA.res hj
          have hbj : bk j < 2 * N.m := bk_lt hj
          have t4 := ResB.r hA.res hbj
          have haT := HOK.out.aT hj
          have t5 := hA.dist.cell haT
          replace t5 : wr.cell? ⟨gD, N.aT j, none⟩ = some (.int .i64 (d (N.aT j))) := t5
          have hla := N.la_lt (N.aF j) j
          have hm2 := HOK.out.m2
          clear hKr hK1
          go_upto_region 10 with fail
          go_quiet (fail)
          generalize hWq : wr.drewN _ = Wq
          have hA3 : TkAt w Wq lim bs N gr gA gF gD g d (.slice (some ⟨gp, 0, none⟩) L.length cap) L := by rw [← hWq]; exact hA.drewN _
          have s0 : Wq.cell? ⟨gr, 0, none⟩ = some (.slice (some ⟨gA, 0, none⟩) (2 * N.m) (2 * N.m)) := by rw [← hWq]; exact t0
          have s3 : Wq.cell? ⟨gA, j * 4 + 3, none⟩ = some (.int .i64 (N.la (N.aF j) j)) := by rw [← hWq]; exact t3
          have s4 : Wq.cell? ⟨gA, bk j * 4 + 1, none⟩ = some (.int .i64 (rest0 g (bk j))) := by rw [← hWq]; exact t4
          have s5 : Wq.cell? ⟨gD, N.aT j, none⟩ = some (.int .i64 (d (N.aT j))) := by rw [← hWq]; exact t5
          clear hWq hA t0 t1 t2 t3 t4 t5
          have HJF := Lib.hid hjF
          rw [hjF] at s3 hla
          clear hjF
          have hnx : Hid (¬ Suit N g d ((c : Int) - 1) j → ∀ i, i < 2 * N.m → N.aF i = v → N.la v j < (i : Int) → ¬ Suit N g d ((c : Int) - 1) i) := fun hns i h1 h2 h3 => by
            by_cases h4 : (j : Int) < i
            · exact hgap.out i h1 h2 h4
            · by_cases h5 : i = j
              · subst h5; exact hns
              · exact absurd h2 (N.la_gap v j i (by omega) h3)
          have hrel1 : Hid (N.la v j = -1 ∨ ∃ i : Nat, N.la v j = i ∧ i < 2 * N.m ∧ N.aF i = v) := by
            by_cases e : N.la v j = -1
            · exact Or.inl e
            · obtain ⟨i, h1, h2, h3⟩ := N.la_at v _ e
              exact Or.inr ⟨i, h1, by omega, h3⟩
          by_cases h1 : d (N.aT j) = (c : Int) - 1
          · have p1 : (d (N.aT j) == (c : Int) - 1) = true := beq_iff_eq.2 h1
            by_cases h2 : 0 < rest0 g (bk j)
            · have p2 : decide (0 < rest0 g (bk j)) = true := decide_eq_true h2
              obtain ⟨e, e1, e2, e3, e4, e5, e6⟩ := suit_edge hj HJF.out ⟨h1, h2⟩
              have htk2 := htk.out.step HOK.out e1 e3 e5 e6
              rw [e4] at htk2
              have hrevL : N.aT j :: L.reverse = (L ++ [N.aT j]).reverse := by simp
              rw [hrevL] at htk2
              obtain ⟨c1, hc1⟩ : ∃ c1 : Nat, c = c1 + 1 := ⟨c - 1, by omega⟩
              have hcc : (c : Int) - 1 = (c1 : Int) := by omega
              rw [hcc] at htk2
              have HTK2 := Lib.hid htk2
              have hge : rest0 g (bk j) = g e := by rw [e2, rest0_even]
              have hgb := htk.out.g1 e e1
              have hgb2 := HF.out.r1 e e1
              have hgb3 := HOK.out.c1 e e1
              have hA4 := hA3.less e (bk j) e2
              have hws : IntKind.i64.wrap (g e - 1) = g e - 1 := IntWalk.i64_in _ (by omega)
              rw [hge] at p2 s4
              have s6 := (ResB.arcs hA3.res).frozen (bk j * 4 + 1)
              have HA4 := Lib.hid hA4
              have hcw : c1 < N.n := by omega
              have hsz4 := hA4.sz
              have HCC := Lib.hid hcc
              have HC1 := Lib.hid hc1
              have hbs := hA3.sz
              clear hgap hnx hrel1 hge htk2 hrevL hA4 hA3 e6 e5 e4 e3 e2 h2 h1 hc1 htk
              generalize N.aT j = a at *
              generalize d a = da at *
              generalize g e = ge at *
              generalize bk j = kb at *
              have hB9 : ((Wq.setCell ⟨gA, kb * 4 + 1, none⟩ (.int .i64 (ge - 1))).alloc (.cells #[.int .i64 (a : Int)] 3)).heap[Wq.heap.size]? = some (.cells #[.int .i64 (a : Int)] 3 (0, 0)) := by
                have := heap_alloc_new (Wq.setCell ⟨gA, kb * 4 + 1, none⟩ (.int .i64 (ge - 1))) (.cells #[.int .i64 (a : Int)] 3)
                rw [show (Wq.setCell ⟨gA, kb * 4 + 1, none⟩ (.int .i64 (ge - 1))).heap.size = Wq.heap.size by simp [World.setCell]] at this
                exact this
              have HB9 := Lib.hid hB9
              clear hB9 hcc
              go_wp2_with (at_builtin; refine append_nat rfl (.tmp 95) (.tmp 97) rfl bs _ L a a _ rfl (HA4.out.own.alloc _) Wq.heap.size rfl HB9.out rfl (by omega) (by simp [World.setCell]; omega) ?_)
              intro g9 c9 w9 hown9 hg9 _
              have hl9 : (L ++ [a]).length = L.length + 1 := by simp
              have hA9 := HA4.out.grow hlb (by rw [hl9]; exact hown9) hg9
              clear hown9 hg9 s0 s3 s4 s5 s6 HA4 HB9 p1 p2
              go_wp2_with fail
              go_roundw
              case rel => exact ⟨c1, _, L ++ [a], a, hcw, by rw [HCC.out], HTK2, hA9⟩
              case measure => have := HC1.out; simp [intOf]; omega
            · have p2 : decide (0 < rest0 g (bk j)) = false := decide_eq_false h2
              have hgp2 := Lib.hid (hnx.out (fun h => h2 h.2))
              clear hgap hnx h2 h1
              generalize N.aT j = a at *
              generalize d a = da at *
              generalize rest0 g (bk j) = rb at *
              generalize bk j = kb at *
              generalize N.la v j = K2 at *
              go_wp2_with fail
              go_roundw
              case rel => exact ⟨K2, rfl, rfl, hla.2, hrel1, hgp2, hA3⟩
              case measure => simp [intOf]; omega
          · have p1 : (d (N.aT j) == (c : Int) - 1) = false := beq_false_of_ne h1
            have hgp2 := Lib.hid (hnx.out (fun h => h1 h.1))
            clear hgap hnx h1
            generalize N.aT j = a at *
            generalize d a = da at *
            generalize rest0 g (bk j) = rb at *
            generalize bk j = kb at *
            generalize N.la v j = K2 at *
            go_wp2_with fail
            go_roundw
            case rel => exact ⟨K2, rfl, rfl, hla.2, hrel1, hgp2, hA3⟩
            case measure => simp [intOf]; omega
end Go.Proofs.Ytjdceafkcakbjaa
