/- Merged: WHtM, WHgt, WHei. -/
import Derived.Test.YtngpfondnampjaaDoorWPrs
import Derived.Test.YtngpfondnampjaaDoorMMax
import Derived.Test.YtngpfondnampjaaDoorMSet
/- Heights (mathematics). -/
namespace Go.Proofs.YtngpfondnampjaaDoor
open Go.RowKit Go.Sort
def hmax (g : Nat → Nat) (l : List Nat) : Nat := l.foldl (fun a j => max a (g j)) 0
def hf (n : Nat) (T : Nat → Nat → Bool) : Nat → Nat → Nat
  | 0, _ => 1
  | f + 1, i => hmax (hf n T f) (rowL T n i) + 1
def ht (n : Nat) (T : Nat → Nat → Bool) (i : Nat) : Nat := hf n T (rowL T n i).length i
theorem foldl_congr {g g' : Nat → Nat} : ∀ (l : List Nat) (a : Nat), (∀ j, j ∈ l → g j = g' j) → l.foldl (fun a j => max a (g j)) a = l.foldl (fun a j => max a (g' j)) a
  | [], _, _ => rfl
  | x :: l, a, h => by
    show l.foldl _ (max a (g x)) = l.foldl _ (max a (g' x))
    rw [h x (List.mem_cons_self ..)]
    exact foldl_congr l _ fun j hj => h j (List.mem_cons_of_mem _ hj)
theorem hmax_congr {g g' : Nat → Nat} {l : List Nat} (h : ∀ j, j ∈ l → g j = g' j) : hmax g l = hmax g' l := foldl_congr l 0 h
theorem hmax_snoc (g : Nat → Nat) (l : List Nat) (x : Nat) : hmax g (l ++ [x]) = max (hmax g l) (g x) := by unfold hmax; rw [List.foldl_append]; rfl
theorem foldl_le {g : Nat → Nat} {b : Nat} : ∀ (l : List Nat) (a : Nat), a ≤ b → (∀ j, j ∈ l → g j ≤ b) → l.foldl (fun a j => max a (g j)) a ≤ b
  | [], _, h, _ => h
  | x :: l, _, h, hg => foldl_le l _ (Nat.max_le.2 ⟨h, hg x (List.mem_cons_self ..)⟩) fun j hj => hg j (List.mem_cons_of_mem _ hj)
theorem hmax_le {g : Nat → Nat} {b : Nat} {l : List Nat} (h : ∀ j, j ∈ l → g j ≤ b) : hmax g l ≤ b := foldl_le l 0 (Nat.zero_le _) h
theorem foldl_ge {g : Nat → Nat} : ∀ (l : List Nat) (a : Nat), a ≤ l.foldl (fun a j => max a (g j)) a ∧ ∀ j, j ∈ l → g j ≤ l.foldl (fun a j => max a (g j)) a
  | [], a => ⟨Nat.le_refl _, fun _ h => by cases h⟩
  | x :: l, a => by
    obtain ⟨h1, h2⟩ := foldl_ge (g := g) l (max a (g x))
    refine ⟨Nat.le_trans (Nat.le_max_left _ _) h1, fun j hj => ?_⟩
    rcases List.mem_cons.1 hj with rfl | hj
    · exact Nat.le_trans (Nat.le_max_right _ _) h1
    · exact h2 j hj
theorem hmax_ge {g : Nat → Nat} {l : List Nat} {j : Nat} (h : j ∈ l) : g j ≤ hmax g l := (foldl_ge l 0).2 j h
theorem foldl_in {g : Nat → Nat} : ∀ (l : List Nat) (a : Nat), l.foldl (fun a j => max a (g j)) a = a ∨ ∃ j, j ∈ l ∧ l.foldl (fun a j => max a (g j)) a = g j
  | [], _ => .inl rfl
  | x :: l, a => by
    rcases foldl_in (g := g) l (max a (g x)) with h | ⟨j, hj, h⟩
    · show l.foldl _ (max a (g x)) = a ∨ ∃ j, j ∈ x :: l ∧ l.foldl _ (max a (g x)) = g j
      rw [h]
      rcases Nat.le_total a (g x) with h2 | h2
      · exact .inr ⟨x, List.mem_cons_self .., Nat.max_eq_right h2⟩
      · exact .inl (Nat.max_eq_left h2)
    · exact .inr ⟨j, List.mem_cons_of_mem _ hj, h⟩
theorem hmax_in (g : Nat → Nat) (l : List Nat) : hmax g l = 0 ∨ ∃ j, j ∈ l ∧ hmax g l = g j := foldl_in l 0
theorem in_rowL {T : Nat → Nat → Bool} {n i j : Nat} : j ∈ rowL T n i ↔ j < n ∧ T i j = true := by unfold rowL; rw [List.mem_filter, List.mem_range]
theorem row_less {n : Nat} {T : Nat → Nat → Bool} (h : ∀ i, i < n → POk n T i) {i j : Nat} (hi : i < n) (hj : j < n) (hij : T i j = true) : (rowL T n j).length < (rowL T n i).length :=
  filter_lt hj hij (h j hj).1 fun k hk hjk => (h i hi).2 j hj hij k hk hjk
theorem hf_same {n : Nat} {T : Nat → Nat → Bool} (h : ∀ i, i < n → POk n T i) : ∀ f g i, i < n → (rowL T n i).length ≤ f → (rowL T n i).length ≤ g → hf n T f i = hf n T g i
  | 0, 0, _, _, _, _ => rfl
  | 0, g + 1, i, hi, h1, _ => by
    have : rowL T n i = [] := List.eq_nil_of_length_eq_zero (by omega)
    show 1 = hmax _ (rowL T n i) + 1
    rw [this]; rfl
  | f + 1, 0, i, hi, _, h2 => by
    have : rowL T n i = [] := List.eq_nil_of_length_eq_zero (by omega)
    show hmax _ (rowL T n i) + 1 = 1
    rw [this]; rfl
  | f + 1, g + 1, i, hi, h1, h2 => by
    show hmax _ (rowL T n i) + 1 = hmax _ (rowL T n i) + 1
    rw [hmax_congr (g := hf n T f) (g' := hf n T g) fun j hj => by
      obtain ⟨hjn, hij⟩ := in_rowL.1 hj
      have := row_less h hi hjn hij
      exact hf_same h f g j hjn (by omega) (by omega)]
theorem ht_eq {n : Nat} {T : Nat → Nat → Bool} (h : ∀ i, i < n → POk n T i) {i : Nat} (hi : i < n) : ht n T i = hmax (ht n T) (rowL T n i) + 1 := by
  have e : ht n T i = hf n T ((rowL T n i).length + 1) i := hf_same h _ _ i hi (Nat.le_refl _) (Nat.le_succ _)
  rw [e]
  show hmax _ (rowL T n i) + 1 = _
  rw [hmax_congr (g := hf n T (rowL T n i).length) (g' := ht n T) fun j hj => by
    obtain ⟨hjn, hij⟩ := in_rowL.1 hj
    have := row_less h hi hjn hij
    exact hf_same h _ _ j hjn (by omega) (Nat.le_refl _)]
theorem hf_le {n : Nat} {T : Nat → Nat → Bool} : ∀ f i, hf n T f i ≤ f + 1
  | 0, _ => Nat.le_refl _
  | f + 1, _ => Nat.succ_le_succ (hmax_le fun j _ => hf_le f j)
theorem hf_pos {n : Nat} {T : Nat → Nat → Bool} : ∀ f i, 0 < hf n T f i
  | 0, _ => Nat.one_pos
  | _ + 1, _ => Nat.succ_pos _
theorem ht_pos (n : Nat) (T : Nat → Nat → Bool) (i : Nat) : 0 < ht n T i := hf_pos _ _
theorem ht_le (n : Nat) (T : Nat → Nat → Bool) (i : Nat) : ht n T i ≤ n + 1 := Nat.le_trans (hf_le _ _) (Nat.succ_le_succ (rowL_len T n i))
/- the height of all -/
def hgt (n : Nat) (T : Nat → Nat → Bool) : Nat := hmax (ht n T) (List.range n)
end Go.Proofs.YtngpfondnampjaaDoor
/- Package width: the closure of Height. -/
namespace Go.Proofs.YtngpfondnampjaaDoor
open Go.RowKit Go.Sort
/- but for block g -/
def Kh (g : Nat) (w w' : World) : Prop := w.heap.size ≤ w'.heap.size ∧ ∀ b, b < w.heap.size → b ≠ g → w'.heap[b]? = w.heap[b]?
theorem Kh.refl (g : Nat) (w : World) : Kh g w w := ⟨Nat.le_refl _, fun _ _ _ => rfl⟩
theorem Kh.trans {g : Nat} {w w' w'' : World} (h : Kh g w w') (h' : Kh g w' w'') : Kh g w w'' := ⟨Nat.le_trans h.1 h'.1, fun b hb hx => (h'.2 b (Nat.lt_of_lt_of_le hb h.1) hx).trans (h.2 b hb hx)⟩
theorem kh_below {g : Nat} {w w' : World} (h : Below w.heap.size w w') : Kh g w w' := ⟨h.size, fun b hb _ => h.block b hb⟩
theorem kh_set (g : Nat) (w : World) (q : Addr) (hq : q.block = g) (u : Value) : Kh g w (w.setCell q u) := ⟨by simp, fun b _ hx => Below.heap_setCell w q u b (by rw [hq]; exact hx)⟩
def hcl (p1 p2 p3 : Nat) : Value := .func (Fn.func 51) #[] #[.pointer (some ⟨p1, 0, none⟩), .pointer (some ⟨p2, 0, none⟩), .pointer (some ⟨p3, 0, none⟩)]
structure HEnv (w : World) (n p1 p2 p3 gH c : Nat) (A : Option Addr) : Prop where
  b1 : w.heap[p1]? = some (.cells #[.slice (some ⟨gH, 0, none⟩) n n] 25 (0, 0))
  b2 : RelAt w p2 A n c
  b3 : w.heap[p3]? = some (.cells #[hcl p1 p2 p3] 75 (0, 0))
  x1 : p1 ≠ gH
  x2 : p2 ≠ gH
  x3 : p3 ≠ gH
section
variable {w w' : World} {n p1 p2 p3 gH c : Nat} {A : Option Addr}
theorem HEnv.keep (h : HEnv w n p1 p2 p3 gH c A) (k : Kh gH w w') : HEnv w' n p1 p2 p3 gH c A :=
  ⟨(k.2 p1 (lt_of_block h.b1) h.x1).trans h.b1, (k.2 p2 h.b2.lt h.x2).trans h.b2, (k.2 p3 (lt_of_block h.b3) h.x3).trans h.b3, h.x1, h.x2, h.x3⟩
theorem HEnv.c1 (h : HEnv w n p1 p2 p3 gH c A) : w.cell? ⟨p1, 0, none⟩ = some (.slice (some ⟨gH, 0, none⟩) n n) := cell_of_row _ _ 0 _ _ _ h.b1
theorem HEnv.c3 (h : HEnv w n p1 p2 p3 gH c A) : w.cell? ⟨p3, 0, none⟩ = some (.func (Fn.func 51) #[] #[.pointer (some ⟨p1, 0, none⟩), .pointer (some ⟨p2, 0, none⟩), .pointer (some ⟨p3, 0, none⟩)]) := cell_of_row _ _ 0 _ _ _ h.b3
end
def OkH (n : Nat) (T : Nat → Nat → Bool) (F : Nat → Int) : Prop := ∀ i, i < n → F i = 0 ∨ F i = (ht n T i : Nat)
theorem OkH.put {n : Nat} {T : Nat → Nat → Bool} {F : Nat → Int} (h : OkH n T F) (a : Nat) : OkH n T (put F a ((ht n T a : Nat) : Int)) := fun i hi => by
  show (if i = a then _ else F i) = 0 ∨ (if i = a then _ else F i) = _
  by_cases e : i = a
  · rw [if_pos e, e]; exact .inr rfl
  · rw [if_neg e]; exact h i hi
def HEnd (w : World) (lim n gH : Nat) (T : Nat → Nat → Bool) (a : Nat) (e : Ending) (w' : World) : Prop :=
  e = .returned (.int .i64 ((ht n T a : Nat) : Int)) ∧ ∃ F, OkH n T F ∧ w'.rowIs gH 3 n (ivals F) ∧ Below lim w w' ∧ Kh gH w w'
set_option maxRecDepth 100000 in
set_option maxHeartbeats 4000000 in
theorem height_any (w0 : World) (n p1 p2 p3 gH c : Nat) (A : Option Addr) (R : Nat → RowD) (h : Rel w0 A n R) (hP : POrd n R) (hT : Tab w0) (hl : w0.heap.size ≤ gH) :
    ∀ (f a : Nat) (F : Nat → Int) (w : World), HEnv w n p1 p2 p3 gH c A → OkH n (mat R) F → w.rowIs gH 3 n (ivals F) → Below w0.heap.size w0 w → a < n → (rowL (mat R) n a).length < f →
    Calls Tryd.prog 51 #[.int .i64 a, .pointer (some ⟨p1, 0, none⟩), .pointer (some ⟨p2, 0, none⟩), .pointer (some ⟨p3, 0, none⟩)] w (HEnd w w0.heap.size n gH (mat R) a) := by
  intro f
  have HH := Lib.hid h
  have HP := Lib.hid hP
  have hn := hP.1.1
  clear h hP
  induction f with
  | zero => intro a F w _ _ _ _ _ h; exact absurd h (Nat.not_lt_zero _)
  | succ f ih =>
    intro a F w hE hF hr hB ha hlen
    have IH := Lib.hid ih; clear ih
    have HE := Lib.hid hE
    have HF := Lib.hid hF
    have HR := Lib.hid hr
    have HLE := Lib.hid hlen
    have c1 := hE.c1
    have x0 : w.cell? ⟨gH, a, none⟩ = some (.int .i64 (F a)) := hr.cell ha
    clear hE hF hr hlen
    rcases HF.out a ha with hz | hz
    · rw [hz] at x0
      clear hz
      have c2 := HE.out.b2.c0
      obtain ⟨b, off, hA, hbl, hcz⟩ := (HH.out.below hB) (by omega)
      obtain ⟨y0, y1, yw⟩ := hcz a ha
      have hvk := HP.out.1.2 a ha
      have HM := Lib.hid (wmembers_any n (R a) w yw hvk (hT.below hB))
      have hrl : Hid ((List.range n).filter (bt (R a).f) = rowL (mat R) n a) := Lib.hid rfl
      rw [hrl.out] at HM
      have hll := rowL_len (mat R) n a
      have HLR : Hid (∀ j, j ∈ rowL (mat R) n a → j < n ∧ (rowL (mat R) n j).length < f) := Lib.hid fun j hj => by
        obtain ⟨h1, h2⟩ := in_rowL.1 hj
        have := row_less HP.out.2 ha h1 h2
        have := HLE.out
        exact ⟨h1, by omega⟩
      have hht := Lib.hid (ht_eq HP.out.2 ha)
      have hhl := ht_le n (mat R) a
      subst hA
      clear hcz yw hvk hrl HLE
      generalize (R a).N = N1 at *
      generalize (R a).A = A1 at *
      generalize (R a).l = l1 at *
      generalize (R a).c = c9 at *
      generalize rowL (mat R) n a = L at *
      generalize hT9 : mat R = T at *
      unfold RowOut at HM
      go_enter Tryd.func51, Tryd.ntmps51
      go_wp2_with fail
      refine HM.out.mono ?_; rintro e w2 ⟨vL, rfl, hown, b2⟩
      obtain ⟨AL, cL, rfl, _, _⟩ := own_ints hown
      have B2 := hB.trans (b2.mono hB.size)
      have E2 := HE.out.keep (kh_below b2)
      have R2 := row_below HR.out b2
      have K2 := kh_below (g := gH) b2
      have BW2 := b2.mono hB.size
      have HOB : Hid (∀ g, (Value.slice AL L.length cL).ownBlock = some g → w.heap.size ≤ g ∧ g < w2.heap.size) := Lib.hid fun g hg => hown.lt g hg
      have hgH := HR.out.lt
      clear c1 c2 x0 y0 y1 HM b2 hB HE HR
      go_wp2_with fail
      go_loopw [6, 21] (fun x i wr => ∃ (K : Nat) (F' : Nat → Int), K ≤ L.length ∧ i = .int .i64 K ∧ x = .int .i64 ((hmax (ht n T) (L.take K) : Nat) : Int) ∧ Hid (OkH n T F') ∧ wr.rowIs gH 3 n (ivals F') ∧ HEnv wr n p1 p2 p3 gH c (some ⟨b, off, none⟩) ∧ wr.ownsRow w.heap.size 3 1 (.slice AL L.length cL) L.length (vals L) ∧ Below w0.heap.size w0 wr ∧ Below w0.heap.size w wr ∧ Hid (Kh gH w wr)) (fun _ i _ => L.length - (intOf i).toNat)
      case atStart => exact ⟨0, F, Nat.zero_le _, rfl, rfl, HF, R2, E2, hown, B2, BW2, Lib.hid K2⟩
      case round =>
        clear R2 E2 hown B2 K2 BW2
        obtain ⟨K, F', hK, rfl, rfl, HF', hr, hE, hown, hB, hBw, HK⟩ := hrel
        have hmx : hmax (ht n T) (L.take K) ≤ n + 1 := hmax_le fun j _ => ht_le n T j
        by_cases hlt : K < L.length
        · have hstp : Hid (hmax (ht n T) (L.take (K + 1)) = max (hmax (ht n T) (L.take K)) (ht n T L[K])) := Lib.hid (by rw [List.take_succ_eq_append_getElem hlt, hmax_snoc])
          obtain ⟨hj1, hj2⟩ := HLR.out _ (List.getElem_mem hlt)
          obtain ⟨bI, rfl, y0⟩ := own_cell hown hlt
          generalize L[K] = j at *
          have c3 := hE.c3
          have HC := Lib.hid (IH.out j F' wr hE HF'.out hr hB hj1 hj2)
          have hjl := ht_le n T j
          unfold HEnd at HC
          have HHE := Lib.hid hE
          generalize hq : hmax (ht n T) (L.take K) = q at *
          generalize ht n T j = x at *
          clear hr hj2 hE hq
          go_wp2_with fail
          refine HC.out.mono ?_; rintro e w3 ⟨rfl, F3, HF3, hr3, b3, k3⟩
          have hE3 := HHE.out.keep k3
          have hown3 := own_keep hown (fun g hg => k3.2 g ((hown.lt g hg).2) (fun e => by have := (HOB.out g hg).1; omega))
          have HK3 := Lib.hid (HK.out.trans k3)
          have B3 := hB.trans (b3.mono (by first | exact Nat.le_refl _ | exact hB.size))
          have BW3 := hBw.trans (b3.mono (Nat.le_refl _))
          clear HC y0 c3 hown hB hBw HK k3 b3 HHE
          go_wp2_with fail
          go_roundw
          case rel =>
            refine ⟨K + 1, F3, hlt, by go_num, ?_, Lib.hid HF3, hr3, hE3, hown3, B3, BW3, HK3⟩
            rw [hstp.out, show (if q < x then (x : Int) else (q : Int)) = ((max q x : Nat) : Int) by split <;> omega]
          case measure => simp [intOf]; omega
        · obtain rfl : K = L.length := by omega
          have htv : hmax (ht n T) (L.take L.length) + 1 = ht n T a := by rw [List.take_length]; exact hht.out.symm
          generalize hmax (ht n T) (L.take L.length) = q at *
          have c1 := hE.c1
          have x0 : wr.cell? ⟨gH, a, none⟩ = some (.int .i64 (F' a)) := hr.cell ha
          have xf := hr.frozen a
          have hqe : ((ht n T a : Nat) : Int) = (q : Int) + 1 := by rw [← htv]; rfl
          have hr2 := row_put (k := a) hr ((q : Int) + 1)
          have hB2 := hBw.setCell (p := ⟨gH, a, none⟩) hl (.int .i64 ((q : Int) + 1))
          have hK2 := Lib.hid (HK.out.trans (kh_set gH wr ⟨gH, a, none⟩ rfl (.int .i64 ((q : Int) + 1))))
          have hE2 := hE.keep (kh_set gH wr ⟨gH, a, none⟩ rfl (.int .i64 ((q : Int) + 1)))
          have d1 := hE2.c1
          have hF2 : Hid (OkH n T (put F' a ((q : Int) + 1))) := Lib.hid (by rw [← hqe]; exact HF'.out.put a)
          have hwr : IntKind.i64.wrap ((q : Int) + 1) = (q : Int) + 1 := IntWalk.i64_in _ (by omega)
          have x2 : (wr.setCell ⟨gH, a, none⟩ (.int .i64 ((q : Int) + 1))).cell? ⟨gH, a, none⟩ = some (.int .i64 ((q : Int) + 1)) := by
            rw [hr2.cell ha]; unfold ivals; rw [show put F' a ((q : Int) + 1) a = (q : Int) + 1 from if_pos rfl]
          have HQE := Lib.hid hqe
          clear htv hr hE hE2 hown hB hBw HK hqe
          go_upto_region 9 with fail
          generalize wr.setCell ⟨gH, a, none⟩ (.int .i64 ((q : Int) + 1)) = w9 at *
          clear c1 x0 xf
          go_wp2_with fail
          go_ret
          exact ⟨(show Ending.returned (.int .i64 ((q : Int) + 1)) = _ by rw [HQE.out]), _, hF2.out, hr2, hB2, hK2.out⟩
    · rw [hz] at x0
      have c1 := HE.out.c1
      have hp := ht_pos n (mat R) a
      have q1 : (((ht n (mat R) a : Nat) : Int) == 0) = false := beq_false_of_ne (by omega)
      have HRS : Hid (HEnd w w0.heap.size n gH (mat R) a (.returned (.int .i64 ((ht n (mat R) a : Nat) : Int))) w) := Lib.hid ⟨rfl, F, HF.out, HR.out, Below.refl _ _ |>.mono (by exact hB.size), Kh.refl _ _⟩
      generalize ht n (mat R) a = q at *
      clear hz hp
      go_enter Tryd.func51, Tryd.ntmps51
      go_wp2_with fail
      go_ret
      exact HRS.out
end Go.Proofs.YtngpfondnampjaaDoor
/- Package width: Height. -/
namespace Go.Proofs.YtngpfondnampjaaDoor
open Go.RowKit Go.Sort
def WNEnd (w : World) (n : Nat) (R : Nat → RowD) (q : Nat) (e : Ending) (w' : World) : Prop :=
  ((POrd n R ∧ (pairsL (mat R) n n).length ≤ 2000 ∧ e = .returned (.tuple #[.int .i64 (q : Nat), .int .i64 0])) ∨
  (POrd n R ∧ 2000 < (pairsL (mat R) n n).length ∧ e = .returned (.tuple #[.int .i64 0, .int .i64 9])) ∨
  (¬ POrd n R ∧ e = .returned (.tuple #[.int .i64 0, .int .i64 1]))) ∧ Below w.heap.size w w'
set_option maxRecDepth 100000 in
set_option maxHeartbeats 4000000 in
theorem heightF_any (A : Option Addr) (n c : Nat) (R : Nat → RowD) (w : World) (h : Rel w A n R) (hn1 : n ≤ 1000000) (hT : Tab w) :
    Calls Tryd.prog 21 #[.agg #[.slice A n c]] w (WNEnd w n R (hgt n (mat R))) := by
  have HH := Lib.hid h; clear h
  have b0 := below_new w (.cells #[.slice A n c] 24)
  have r0 := relAt_new w A n c
  have c0 := r0.c0
  have HPR := Lib.hid (wpairs_any A n c R (w.alloc (.cells #[.slice A n c] 24)) (HH.out.below b0) hn1 (hT.below b0))
  unfold WPrEnd at HPR
  have hmk := make_ints n hn1
  go_enter Tryd.func21, Tryd.ntmps21
  go_upto_region 1 with fail
  generalize w.alloc (.cells #[.slice A n c] 24) = W at *
  go_wp2_with fail
  refine HPR.out.mono ?_; rintro e w2 (⟨hP, hle, v, rfl, hown, b2⟩ | ⟨hP, hgt2, rfl, b2⟩ | ⟨hP, rfl, b2⟩)
  · have r2 := r0.below b2
    have B2 := below_next b0 b2
    have HP := Lib.hid hP
    have HLE := Lib.hid hle
    have hn := hP.1.1
    have hws : w.heap.size < w2.heap.size := r2.lt
    clear hown hP hle c0 r0 b0 b2 HPR
    have c0 := r2.c0
    have rowH := World.rowIs_made w2 (.int .i64 0) n 3
    go_upto_region 5 with fail
    clear c0 hmk
    have z1 : (w2.alloc (.cells (madeCells #[.int .i64 0] n) 3)).heap.size = w2.heap.size + 1 := by simp
    have bA := below_new w2 (.cells (madeCells #[.int .i64 0] n) 3)
    have rH : (w2.alloc (.cells (madeCells #[.int .i64 0] n) 3)).rowIs w2.heap.size 3 n (ivals fun _ => 0) := rowH
    have rp2 := r2.below bA
    clear rowH r2
    have BA := below_next B2 bA
    clear bA B2
    generalize hg9 : w2.heap.size = gH at *
    generalize w2.alloc (.cells (madeCells #[.int .i64 0] n) 3) = W1 at *
    clear hg9
    have bB := below_new W1 (.cells #[.slice (some ⟨gH, 0, none⟩) n n] 25)
    have e1 : (W1.alloc (.cells #[.slice (some ⟨gH, 0, none⟩) n n] 25)).heap[W1.heap.size]? = some (.cells #[.slice (some ⟨gH, 0, none⟩) n n] 25 (0, 0)) := heap_alloc_new W1 _
    rw [z1] at e1
    have z2 : (W1.alloc (.cells #[.slice (some ⟨gH, 0, none⟩) n n] 25)).heap.size = gH + 2 := by simp [z1]
    have rH2 := row_below rH bB
    have rp3 := rp2.below bB
    have BB := below_next BA bB
    clear bB rH rp2 BA
    generalize W1.alloc (.cells #[.slice (some ⟨gH, 0, none⟩) n n] 25) = W2 at *
    clear z1
    go_upto_region 6 with fail
    have bC := below_new W2 (.cells #[.nilFunc] 75)
    have e3 : (W2.alloc (.cells #[.nilFunc] 75)).heap[W2.heap.size]? = some (.cells #[.nilFunc] 75 (0, 0)) := heap_alloc_new W2 _
    rw [z2] at e3
    have rH3 := row_below rH2 bC
    have rp4 := rp3.below bC
    have e2 := (bC.block (gH + 1) (lt_of_block e1)).trans e1
    have BC := below_next BB bC
    clear bC rH2 rp3 BB e1 z2
    generalize W2.alloc (.cells #[.nilFunc] 75) = W3 at *
    have x3 := cell_of_row _ _ 0 _ _ _ e3
    have f3 := frozen_of_row _ _ 0 _ _ e3
    have e4 := heap_setCell_same W3 (gH + 2) 0 _ _ (hcl (gH + 1) w.heap.size (gH + 2)) e3
    have k4 : ∀ b, b ≠ gH + 2 → (W3.setCell ⟨gH + 2, 0, none⟩ (hcl (gH + 1) w.heap.size (gH + 2))).heap[b]? = W3.heap[b]? := fun b hb => Below.heap_setCell W3 ⟨gH + 2, 0, none⟩ _ b hb
    have B4 := BC.setCell (p := ⟨gH + 2, 0, none⟩) (by show w.heap.size ≤ gH + 2; omega) (hcl (gH + 1) w.heap.size (gH + 2))
    have hne : w.heap.size ≠ gH := by omega
    have hE : HEnv (W3.setCell ⟨gH + 2, 0, none⟩ (hcl (gH + 1) w.heap.size (gH + 2))) n (gH + 1) w.heap.size (gH + 2) gH c A :=
      ⟨(k4 (gH + 1) (by omega)).trans e2, (k4 w.heap.size (by omega)).trans rp4, e4, by omega, by omega, by omega⟩
    have hcw : hcl (gH + 1) w.heap.size (gH + 2) = .func (Fn.func 51) #[] #[.pointer (some ⟨gH + 1, 0, none⟩), .pointer (some ⟨w.heap.size, 0, none⟩), .pointer (some ⟨gH + 2, 0, none⟩)] := rfl
    have rH4 : (W3.setCell ⟨gH + 2, 0, none⟩ (hcl (gH + 1) w.heap.size (gH + 2))).rowIs gH 3 n (ivals fun _ => 0) := rH3.of_block (k4 gH (by omega))
    rw [hcw] at hE rH4 B4
    have hOK : OkH n (mat R) (fun _ => 0) := fun _ _ => .inl rfl
    clear e2 e3 e4 k4 rH3 rp4 BC hne hcw
    go_upto_region 7 with fail
    clear x3 f3
    generalize W3.setCell ⟨gH + 2, 0, none⟩ (.func (Fn.func 51) #[] #[.pointer (some ⟨gH + 1, 0, none⟩), .pointer (some ⟨w.heap.size, 0, none⟩), .pointer (some ⟨gH + 2, 0, none⟩)]) = W4 at *
    have c1 := hE.c1
    go_wp2_with fail
    clear c1
    go_loopw [8, 25] (fun x i wr => ∃ (K : Nat) (F : Nat → Int), K ≤ n ∧ i = .int .i64 K ∧ x = .int .i64 ((hmax (ht n (mat R)) (List.range K) : Nat) : Int) ∧ Hid (OkH n (mat R) F) ∧ wr.rowIs gH 3 n (ivals F) ∧ HEnv wr n (gH + 1) w.heap.size (gH + 2) gH c A ∧ Below w.heap.size w wr) (fun _ i _ => n - (intOf i).toNat)
    case atStart => exact ⟨0, _, Nat.zero_le _, rfl, rfl, Lib.hid hOK, rH4, hE, B4⟩
    case round =>
      clear rH4 hE B4 hOK
      obtain ⟨K, F, hK, rfl, rfl, HF, hr, hE, hB⟩ := hrel
      have hmx : hmax (ht n (mat R)) (List.range K) ≤ n + 1 := hmax_le fun j _ => ht_le n _ j
      by_cases hlt : K < n
      · have hstp : Hid (hmax (ht n (mat R)) (List.range (K + 1)) = max (hmax (ht n (mat R)) (List.range K)) (ht n (mat R) K)) := Lib.hid (by rw [List.range_succ, hmax_snoc])
        have HC := Lib.hid (height_any w n (gH + 1) w.heap.size (gH + 2) gH c A R HH.out HP.out hT (by omega) ((rowL (mat R) n K).length + 1) K F wr hE HF.out hr hB hlt (Nat.lt_succ_self _))
        have hjl := ht_le n (mat R) K
        have c3 := hE.c3
        have HHE := Lib.hid hE
        unfold HEnd at HC
        generalize hmax (ht n (mat R)) (List.range K) = q at *
        generalize ht n (mat R) K = x at *
        clear hr hE
        go_wp2_with fail
        refine HC.out.mono ?_; rintro e w5 ⟨rfl, F5, HF5, hr5, b5, k5⟩
        have hE5 := HHE.out.keep k5
        have B5 := hB.trans b5
        clear HC c3 HHE hB b5 k5
        go_wp2_with fail
        go_roundw
        case rel => exact ⟨K + 1, F5, hlt, by go_num, by rw [hstp.out, show (if q < x then (x : Int) else (q : Int)) = ((max q x : Nat) : Int) by split <;> omega], Lib.hid HF5, hr5, hE5, B5⟩
        case measure => simp [intOf]; omega
      · obtain rfl : K = n := by omega
        go_wp2_with fail
        go_ret2
        exact ⟨.inl ⟨HP.out, HLE.out, rfl⟩, hB⟩
  · have B2 := below_next b0 b2
    have HP := Lib.hid hP
    have HG := Lib.hid hgt2
    clear hP hgt2
    go_wp2_with fail
    go_ret2
    exact ⟨.inr (.inl ⟨HP.out, HG.out, rfl⟩), B2⟩
  · have B2 := below_next b0 b2
    have HP := Lib.hid hP
    clear hP
    go_wp2_with fail
    go_ret2
    exact ⟨.inr (.inr ⟨HP.out, rfl⟩), B2⟩
end Go.Proofs.YtngpfondnampjaaDoor
