/- The contracts of slices.Clone at a list of integers, and of maximize. -/
import Derived.Test.YtjdceafkcakbjaaFPush
import Derived.Deep.AppendLies
import Derived.Deep.RegionHeld3
namespace Go.Proofs.Ytjdceafkcakbjaa
open Go.RowKit
def ilist (F : Nat → Int) (n : Nat) : List Value := (List.range n).map fun v => .int .i64 (F v)
set_option maxHeartbeats 2000000 in
theorem clone_any (gF n : Nat) (F : Nat → Int) (w : World) (hn : 1 ≤ n) (hn2 : n ≤ 512) (h : w.rowIs gF 3 n (ivals F)) :
    Calls Try.prog 69 #[.slice (some ⟨gF, 0, none⟩) n n] w fun e w' => ∃ g c, e = .returned (.slice (some ⟨g, 0, none⟩) n c) ∧ AtR w' g c n F ∧ w.heap.size ≤ g ∧ Below w.heap.size w w' := by
  have hb := h.lt
  have HC := Lib.hid h
  clear h
  obtain ⟨i, hi, hz, hs, hby⟩ := info_parts Try.info3
  have q61 : ∀ (w : World) (a : Option Addr) (n c n' c' : Nat), (binOp .eql 25 (.slice a n c) (.slice none n' c')).run Try.prog w = .ok (.bool a.isNone) w := fun w a n c n' c' => Lib.run_eql_slice_nil w _ _ a n c n' c' Try.underlying25
  go_enter Try.func69, Try.ntmps69
  go_wp2_with (at_builtin; refine wpList_append_lies _ rfl (.tmp 5) (.tmp 6) 25 rfl w.heap.size 3 i (.int .i64 0) 1 8 Try.underlying25 hi hz hs hby rfl (by decide) _ 0 [] rfl (World.ownsRow_made w #[] 0 (Nat.le_refl _) (Nat.zero_le _) rfl) ⟨gF, 0, none⟩ n n (ilist F n) rfl ?q1 ?q2 ?q3 hn ?q4 ?q5 ?q6 _ rfl ?_)
  case q1 => simp [ilist]
  case q2 =>
    intro j u hj
    have hjl : j < n := by
      have := (List.getElem?_eq_some_iff.1 hj).1
      simpa [ilist] using this
    rw [add_nil, World.cell?_alloc_past _ _ _ hb, Nat.zero_add, HC.out.cell hjl]
    simpa [ilist, hjl, ivals] using hj
  case q3 => intro u hu; obtain ⟨x, _, rfl⟩ := List.mem_map.1 hu; rfl
  case q4 => unfold maxLen; omega
  case q5 => omega
  case q6 => simp
  intro g cap w1 hown hgrow hat hlt
  go_wp2
  go_ret
  refine ⟨g, cap, by simp, ?_, ?_, ((Below.refl _ w).alloc (Nat.le_refl _) _).grown hgrow (by simp) (by intro k hk; simp [Value.ownBlock] at hk; omega)⟩
  · obtain ⟨g', cap', cur, hv, _, hblk, hnc, _, hsz, htk⟩ : ∃ g' cap' cur, Value.slice (some ⟨g, 0, none⟩) n cap = .slice (some ⟨g', 0, none⟩) n cap' ∧ w.heap.size ≤ g' ∧ w1.heap[g']? = some (.cells cur 3 (0, 0)) ∧ n ≤ cap' ∧ cap' ≤ maxLen ∧ cur.size = cap' * 1 ∧ cur.toList.take (n * 1) = ilist F n := by
      rcases hown.2 with ⟨hbad, _⟩ | h
      · cases hbad
      · exact h
    injection hv with e1 e2 e3
    injection e1 with e1
    injection e1 with e1
    subst e1 e3
    refine ⟨⟨fun j => (cur[j]?).getD undef, ⟨cur, hblk, by omega, fun j hj => ?_⟩, fun v hv => ?_⟩, by omega⟩
    · have hj' : j < cur.size := by omega
      simp [hj']
    · have h1 : (cur.toList.take (n * 1))[v]? = (ilist F n)[v]? := by rw [htk]
      rw [List.getElem?_take_of_lt (by omega)] at h1
      simp [ilist, hv] at h1
      simp [h1]
  · rcases hat with h | h
    · simp [Value.ownBlock] at h; omega
    · rw [h]; simp
theorem start_at (N : Net) : N.AtOk (fun v => N.la v (2 * N.m)) := fun v _ => by
  by_cases e : N.la v (2 * N.m) = -1
  · exact Or.inl e
  · exact Or.inr (N.la_at v _ e)
theorem start_dead (N : Net) (R d : Nat → Int) (t : Nat) : N.Dead R d t (fun v => N.la v (2 * N.m)) := fun k hk _ _ hl => absurd rfl (N.la_gap _ _ k hk hl)
/- the rests as they stand in memory -/
def readR (w : World) (gA : Nat) (k : Nat) : Int := intOf ((w.cell? ⟨gA, k * 4 + 1, none⟩).getD (.int .i64 0))
theorem readR_eq {w : World} {N : Net} {gr gA gF : Nat} {R : Nat → Int} (h : Rsd w N gr gA gF R) {k : Nat} (hk : k < 2 * N.m) : readR w gA k = R k := by
  unfold readR; rw [ResB.r h hk]; rfl
def left (N : Net) (s : Nat) (w : World) (gA : Nat) : Nat := (sumTo N.m N.cp - N.ex (readR w gA) s).toNat
theorem left_eq {w : World} {N : Net} {gr gA gF : Nat} {R : Nat → Int} (h : Rsd w N gr gA gF R) (s : Nat) : left N s w gA = (sumTo N.m N.cp - N.ex R s).toNat := by
  unfold left; rw [Net.ex_congr (fun k hk => readR_eq h hk)]
/- what maximize keeps -/
structure Flowing (N : Net) (s t : Nat) (R : Nat → Int) : Prop where
  rest : N.Rest N.cp R
  bal : ∀ v, v < N.n → v ≠ s → v ≠ t → N.ex R v = 0
theorem Flowing.le {N : Net} {s t : Nat} {R : Nat → Int} (h : Flowing N s t R) : N.ex R s ≤ sumTo N.m N.cp :=
  Net.bal_le (fun i hi => h.rest.r0 _ (by omega)) (fun i hi => by have := h.rest.pr i hi; have := h.rest.r0 (2 * i) (by omega); omega) s
theorem Flowing.push {N : Net} (ok : N.Ok) {s t : Nat} {R : Nat → Int} (h : Flowing N s t R) {d : Nat → Int} (hd : N.Dst R s d) (hst : s ≠ t) (ht : t < N.n) (hdt : d t ≠ -1) {L sent : Int} {R' A' : Nat → Int}
    (hp : Pushed N N.cp d t s L R (fun v => N.la v (2 * N.m)) sent R' A') : Flowing N s t R' ∧ (sumTo N.m N.cp - N.ex R' s).toNat < (sumTo N.m N.cp - N.ex R s).toNat := by
  have h1 : Flowing N s t R' := ⟨hp.rest, fun v hv e1 e2 => by rw [hp.ex v, if_neg e1, if_neg e2, h.bal v hv e1 e2]; rfl⟩
  refine ⟨h1, ?_⟩
  have h2 := h1.le
  have h3 := hp.ex s
  rw [if_pos rfl, if_neg hst] at h3
  have h4 : sent ≠ 0 := fun e => by
    obtain ⟨_, z2, z3, z4⟩ := hp.z e
    have hdead := z4 (start_dead N R d t)
    refine hdead.none ok hd z2 t ht ?_ rfl
    rcases hd.rng t ht with h5 | h5
    · exact absurd h5 hdt
    · by_cases h6 : d t = 0
      · exact absurd (hd.zero t ht h6).symm hst
      · omega
  have := hp.s0
  omega
theorem Flowing.done {N : Net} (ok : N.Ok) {s t : Nat} {R : Nat → Int} (h : Flowing N s t R) {d : Nat → Int} (hd : N.Dst R s d) (ht : t < N.n) (hdt : d t = -1) : N.Done s t R :=
  ⟨h.rest, h.bal, fun hr => (hd.reach ok ht).2 hr hdt⟩
def MaxEnd (w : World) (lim : Nat) (N : Net) (gr gA gF s t : Nat) (e : Ending) (w' : World) : Prop :=
  ∃ R', e = .returned (.tuple #[]) ∧ Rsd w' N gr gA gF R' ∧ N.Done s t R' ∧ Below lim w w'
def Z97 : Obj := .cells #[.pointer none, .slice none 0 0, .slice none 0 0, .int .i64 0] 97
theorem cells97 {w : World} {p : Nat} {a b c d : Value} (h : w.heap[p]? = some (.cells #[a, b, c, d] 97 (0, 0))) :
    w.cell? ⟨p, 0, none⟩ = some a ∧ w.cell? ⟨p, 1, none⟩ = some b ∧ w.cell? ⟨p, 2, none⟩ = some c ∧ w.cell? ⟨p, 3, none⟩ = some d ∧ w.frozen? ⟨p, 0, none⟩ = false ∧ w.frozen? ⟨p, 1, none⟩ = false ∧ w.frozen? ⟨p, 2, none⟩ = false ∧ w.frozen? ⟨p, 3, none⟩ = false :=
  ⟨cell_of_row _ _ 0 _ _ _ h, cell_of_row _ _ 1 _ _ _ h, cell_of_row _ _ 2 _ _ _ h, cell_of_row _ _ 3 _ _ _ h, frozen_of_row _ _ 0 _ _ h, frozen_of_row _ _ 1 _ _ h, frozen_of_row _ _ 2 _ _ h, frozen_of_row _ _ 3 _ _ h⟩
theorem laid_before (w : World) {o : Obj} {w5 : World} (b : Below (w.alloc o).drew.heap.size (w.alloc o).drew w5) : w5.heap[w.heap.size]? = some o := (b.block w.heap.size (by show w.heap.size < (w.alloc o).heap.size; simp)).trans (heap_alloc_new w o)
theorem laid_before2 (w : World) {o : Obj} {w5 : World} (b : Below (w.alloc o).heap.size (w.alloc o) w5) : w5.heap[w.heap.size]? = some o := (b.block w.heap.size (by simp)).trans (heap_alloc_new w o)
theorem below_put4 {B p : Nat} {a w : World} (h : Below B a w) (hp : B ≤ p) (x0 x1 x2 x3 : Value) : Below B a ((((w.setCell ⟨p, 0, none⟩ x0).setCell ⟨p, 1, none⟩ x1).setCell ⟨p, 2, none⟩ x2).setCell ⟨p, 3, none⟩ x3) :=
  (((h.setCell (by exact hp) _).setCell (by exact hp) _).setCell (by exact hp) _).setCell (by exact hp) _
theorem box_put (w : World) (p : Nat) (a b c d x0 x1 x2 x3 : Value) (h : w.heap[p]? = some (.cells #[a, b, c, d] 97 (0, 0))) :
    ((((w.setCell ⟨p, 0, none⟩ x0).setCell ⟨p, 1, none⟩ x1).setCell ⟨p, 2, none⟩ x2).setCell ⟨p, 3, none⟩ x3).heap[p]? = some (.cells #[x0, x1, x2, x3] 97 (0, 0)) := by
  have h0 := heap_setCell_same w p 0 _ _ x0 h
  have h1 := heap_setCell_same _ p 1 _ _ x1 h0
  have h2 := heap_setCell_same _ p 2 _ _ x2 h1
  have h3 := heap_setCell_same _ p 3 _ _ x3 h2
  simpa using h3
/- the blocks of a phase, ahead of its own box -/
structure Pre (w : World) (N : Net) (gr gA gF gD gT cT : Nat) (R d A : Nat → Int) : Prop where
  res : Rsd w N gr gA gF R
  dist : w.rowIs gD 3 N.n (ivals d)
  at_ : AtR w gT cT N.n A
  nAT : gA ≠ gT
  nAD : gD ≠ gA
  nTD : gD ≠ gT
  nrT : gr ≠ gT
  nFT : gF ≠ gT
theorem Pre.alloc {w : World} {N : Net} {gr gA gF gD gT cT : Nat} {R d A : Nat → Int} (h : Pre w N gr gA gF gD gT cT R d A) (t : Nat) :
    PhAt (w.alloc (.cells #[.pointer (some ⟨gr, 0, none⟩), .slice (some ⟨gD, 0, none⟩) N.n N.n, .slice (some ⟨gT, 0, none⟩) N.n cT, .int .i64 (t : Int)] 97)) N w.heap.size gr gA gF gD gT cT t R d A :=
  ⟨heap_alloc_new w _, ResB.below h.res (below_new _ _), row_below h.dist (below_new _ _), h.at_.below (below_new _ _), h.nAT, h.nAD, h.nTD, fun e => by have := (ResB.arcs h.res).lt; omega, fun e => by have := h.at_.lt; omega, h.nrT, h.nFT⟩
theorem Pre.put {w : World} {N : Net} {gr gA gF gD gT cT : Nat} {R d A : Nat → Int} (h : Pre w N gr gA gF gD gT cT R d A) (t p : Nat) (a b c e : Value) (hp : w.heap[p]? = some (.cells #[a, b, c, e] 97 (0, 0)))
    (n1 : p ≠ gr) (n2 : p ≠ gA) (n3 : p ≠ gF) (n4 : p ≠ gD) (n5 : p ≠ gT) :
    PhAt ((((w.setCell ⟨p, 0, none⟩ (.pointer (some ⟨gr, 0, none⟩))).setCell ⟨p, 1, none⟩ (.slice (some ⟨gD, 0, none⟩) N.n N.n)).setCell ⟨p, 2, none⟩ (.slice (some ⟨gT, 0, none⟩) N.n cT)).setCell ⟨p, 3, none⟩ (.int .i64 (t : Int))) N p gr gA gF gD gT cT t R d A := by
  have hr : ∀ {g : Nat} {ty : TypeId} {n : Nat} {f : Nat → Value}, g ≠ p → w.rowIs g ty n f → ((((w.setCell ⟨p, 0, none⟩ (.pointer (some ⟨gr, 0, none⟩))).setCell ⟨p, 1, none⟩ (.slice (some ⟨gD, 0, none⟩) N.n N.n)).setCell ⟨p, 2, none⟩ (.slice (some ⟨gT, 0, none⟩) N.n cT)).setCell ⟨p, 3, none⟩ (.int .i64 (t : Int))).rowIs g ty n f :=
    fun hne hrow => (((hrow.setOther (by exact hne) _).setOther (by exact hne) _).setOther (by exact hne) _).setOther (by exact hne) _
  refine ⟨box_put w p a b c e _ _ _ _ hp, ⟨?_, hr (Ne.symm n2) (ResB.arcs h.res), hr (Ne.symm n3) (ResB.first h.res), (ResB.n1 h.res), (ResB.n2 h.res), (ResB.n3 h.res)⟩, hr (Ne.symm n4) h.dist, ?_, h.nAT, h.nAD, h.nTD, n2, n5, h.nrT, h.nFT⟩
  · rw [Below.heap_setCell _ _ _ _ (by exact Ne.symm n1), Below.heap_setCell _ _ _ _ (by exact Ne.symm n1), Below.heap_setCell _ _ _ _ (by exact Ne.symm n1), Below.heap_setCell _ _ _ _ (by exact Ne.symm n1)]; exact ResB.box h.res
  · exact (((h.at_.setOther (by exact Ne.symm n5) _).setOther (by exact Ne.symm n5) _).setOther (by exact Ne.symm n5) _).setOther (by exact Ne.symm n5) _
set_option maxRecDepth 100000 in
set_option maxHeartbeats 8000000 in
theorem maximize_any (lim : Nat) (N : Net) (gr gA gF s t : Nat) (R : Nat → Int) (w : World) (h : Rsd w N gr gA gF R) (ok : N.Ok) (hs : s < N.n) (ht : t < N.n) (hst : s ≠ t) (hf : Flowing N s t R) (l1 : lim ≤ gA) :
    Calls Try.prog 48 #[.pointer (some ⟨gr, 0, none⟩), .int .i64 s, .int .i64 t] w (MaxEnd w lim N gr gA gF s t) := by
  have HOK := Lib.hid ok; clear ok
  have hf0 := Lib.hid hf; clear hf
  have hn1 := HOK.out.n1
  have hn2 := HOK.out.n2
  go_enter Try.func48, Try.ntmps48
  go_wp2_with fail
  go_loopw [6] (fun _ wr => ∃ R', Rsd wr N gr gA gF R' ∧ Hid (Flowing N s t R') ∧ Below lim w wr) (fun _ wr => left N s wr gA)
  case atStart => exact ⟨R, h, hf0, Below.refl _ _⟩
  case round =>
    clear h hf0
    obtain ⟨R', h, hf, hB⟩ := hrel
    have hlA := ResB.arcs h |>.lt
    have hleft := left_eq h s
    have HH := Lib.hid h
    have hD : Hid (∀ u, Below wr.heap.size wr u → Calls Try.prog 52 #[.pointer (some ⟨gr, 0, none⟩), .int .i64 s] u (DistEnd u N R' s)) := fun u hu => dist_any N gr gA gF s R' u (ResB.below HH.out hu) HOK.out hs
    have hC : Hid (∀ u, Below wr.heap.size wr u → Calls Try.prog 69 #[.slice (some ⟨gF, 0, none⟩) N.n N.n] u fun e w' => ∃ g c, e = .returned (.slice (some ⟨g, 0, none⟩) N.n c) ∧ AtR w' g c N.n (fun v => N.la v (2 * N.m)) ∧ u.heap.size ≤ g ∧ Below u.heap.size u w') := fun u hu => clone_any gF N.n _ u hn1 hn2 (ResB.first (ResB.below HH.out hu))
    have c1 := ResB.b1 h
    have k0 : wr.drew.cell? ⟨gr, 1, none⟩ = some (.slice (some ⟨gF, 0, none⟩) N.n N.n) := c1
    clear h
    go_upto_region 0 with fail
    go_cut [6] from 7 to 25 (fun s6 wx => ∃ gp gD gT cT d, s6 = .pointer (some ⟨gp, 0, none⟩) ∧ PhAt wx N gp gr gA gF gD gT cT t R' d (fun v => N.la v (2 * N.m)) ∧ N.Dst R' s d ∧ Below wr.heap.size wr wx ∧ wr.heap.size ≤ gT)
    case first =>
      have hss : Hid (∀ w', Below wr.heap.size wr w' → Below wr.heap.size wr w' ∧ w'.cell? ⟨gr, 1, none⟩ = some (.slice (some ⟨gF, 0, none⟩) N.n N.n)) := fun w' b => ⟨b, ResB.b1 (ResB.below HH.out b)⟩
      go_region_held3 (fun w' => Below wr.heap.size wr w' ∧ w'.cell? ⟨gr, 1, none⟩ = some (.slice (some ⟨gF, 0, none⟩) N.n N.n))
        (first
          | exact hss.out _ (Below.refl _ _).drew
          | exact hss.out _ bc6
          | exact hss.out _ bc5
          | exact hss.out _ (bc6.alloc bc6.size _)
          | exact hss.out _ (below_put4 bc6 (Nat.le_refl _) _ _ _ _)
          | exact hss.out _ (below_put4 bc6 bc5.size _ _ _ _)
          | exact hss.out _ (bc5.alloc bc5.size _)
          | exact hss.out _ (((Below.refl _ wr).drew).alloc (Nat.le_refl _) _)
          | exact hss.out _ ((below_new wr _).drew)
          | exact hss.out _ (Below.alloc (And.left (by assumption)) (Below.size (And.left (by assumption))) _))
        (first
          | (go_at_call 52; (with_reducible refine (hD.out _ (And.left (by assumption))).mono ?_); rintro e w5 ⟨gD, d, rfl, hrD, hdst, hgD, b5⟩; have bc5 := below_next (And.left (by assumption)) b5; (try have p5 := laid_before wr b5))
          | (go_at_call 69; (with_reducible refine (hC.out _ (And.left (by assumption))).mono ?_); rintro e w6 ⟨gT, cT, rfl, hrT, hgT, b6⟩; have bc6 := below_next (And.left (by assumption)) b6; (first | (have p6 := (b6.block _ (lt_of_block p5)).trans p5; have y0 := (cells97 p6).1; have y1 := (cells97 p6).2.1; have y2 := (cells97 p6).2.2.1; have y3 := (cells97 p6).2.2.2.1; have z0 := (cells97 p6).2.2.2.2.1; have z1 := (cells97 p6).2.2.2.2.2.1; have z2 := (cells97 p6).2.2.2.2.2.2.1; have z3 := (cells97 p6).2.2.2.2.2.2.2) | (have p6 := laid_before2 w5 b6; have y0 := (cells97 p6).1; have y1 := (cells97 p6).2.1; have y2 := (cells97 p6).2.2.1; have y3 := (cells97 p6).2.2.2.1; have z0 := (cells97 p6).2.2.2.2.1; have z1 := (cells97 p6).2.2.2.2.2.1; have z2 := (cells97 p6).2.2.2.2.2.2.1; have z3 := (cells97 p6).2.2.2.2.2.2.2) | skip)))
      all_goals
        have hgD' : wr.heap.size ≤ gD := by first | exact hgD | exact Nat.le_trans (below_new wr _).size hgD
        have hgT' : w5.heap.size ≤ gT := by first | exact hgT | exact Nat.le_trans (below_new w5 _).size hgT
        have hrD6 : w6.rowIs gD 3 N.n (ivals d) := by first | exact row_below hrD b6 | exact row_below (hrD.alloc _) b6
        have hDl := hrD.lt
        have hs5 := bc5.size
        have hlr := lt_of_block (ResB.box HH.out)
        have hlF := (ResB.first HH.out).lt
        have hpre : Pre w6 N gr gA gF gD gT cT R' d (fun v => N.la v (2 * N.m)) := ⟨ResB.below HH.out bc6, hrD6, hrT, by omega, by omega, by omega, by omega, by omega⟩
        go_wp2_with fail
        go_meet
      all_goals
        first
          | exact ⟨w6.heap.size, gD, gT, cT, d, rfl, hpre.alloc t, hdst, bc6.alloc bc6.size _, by omega⟩
          | exact ⟨w5.heap.size, gD, gT, cT, d, rfl, hpre.put t w5.heap.size _ _ _ _ p6 (by omega) (by omega) (by omega) (by omega) (by have := hgT; simp at this; omega), hdst, below_put4 bc6 bc5.size _ _ _ _, by omega⟩
          | exact ⟨wr.heap.size, gD, gT, cT, d, rfl, hpre.put t wr.heap.size _ _ _ _ p6 (by omega) (by omega) (by omega) (by have := hgD; simp at this; omega) (by have := lt_of_block p5; omega), hdst, below_put4 bc6 (Nat.le_refl _) _ _ _ _, by omega⟩
    case rest =>
      obtain ⟨gp, gD, gT, cT, d, rfl, hP, hdst, hBx, hgT⟩ := hcut
      clear hD hC c1 k0
      have q1 := hP.b1
      have qt := hP.dd ht
      have hrng := hdst.rng t ht
      have hlim : lim ≤ wr.heap.size := by omega
      by_cases hdt : d t = -1
      · have q : (d t == -1) = true := by rw [hdt]; rfl
        have hdone := Lib.hid (hf.out.done HOK.out hdst ht hdt)
        generalize d t = dt at *
        go_wp2_with fail
        refine bodyPost_ret (v := .tuple #[]) (by simp [results, Try.results48, go_sem]) rfl ?_
        exact ⟨R', rfl, hP.res, hdone.out, hB.trans (hBx.mono hlim)⟩
      · have q : (d t == -1) = false := beq_false_of_ne hdt
        have hpu := Lib.hid (push_any lim N gp gr gA gF gD gT cT t s N.cp d R' HOK.out hdst HOK.out.c1 ht l1 (by omega) N.n s 9223372036854775807 R' (fun v => N.la v (2 * N.m)) wc hs (by rw [hdst.d0]; omega) (by rw [hdst.d0]; omega) (by omega) (by omega) hf.out.rest (start_at N) hP)
        have hpush := Lib.hid (fun (sent : Int) (R2 A2 : Nat → Int) (hp : Pushed N N.cp d t s 9223372036854775807 R' (fun v => N.la v (2 * N.m)) sent R2 A2) => hf.out.push HOK.out hdst hst ht hdt hp)
        clear hdt
        generalize d t = dt at *
        go_wp2_with fail
        refine hpu.out.mono ?_; rintro e w2 ⟨sent, R2, A2, rfl, hP2, hpd, b2, _⟩
        obtain ⟨hf2, hlt2⟩ := hpush.out _ _ _ hpd
        have HF2 := Lib.hid hf2
        have hl2 := left_eq hP2.res s
        have hmeas : left N s w2 gA < left N s wr gA := by rw [hl2, hleft]; exact hlt2
        have HM := Lib.hid hmeas
        clear hmeas hl2 hleft hlt2 hf2 hpd
        go_wp2_with fail
        go_roundw
        case rel => exact ⟨R2, hP2.res, HF2, (hB.trans (hBx.mono hlim)).trans b2⟩
        case measure => exact HM.out
end Go.Proofs.Ytjdceafkcakbjaa
