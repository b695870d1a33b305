/- Networks in memory; the contracts of isBelow, isPair, flow.Valid and argumentError. -/
import Derived.Test.YtjdceafkcakbjaaBitA
import Derived.Test.YtjdceafkcakbjaaBitC
import Derived.Test.YtjdceafkcakbjaaFMath
namespace Go.Proofs.Ytjdceafkcakbjaa
open Go.RowKit
structure EdgeD where
  f : Int
  t : Int
  c : Int
def Edges (w : World) (A : Option Addr) (m : Nat) (E : Nat → EdgeD) : Prop :=
  0 < m → ∃ b off, A = some ⟨b, off, none⟩ ∧ b < w.heap.size ∧ ∀ k, k < m → w.cell? ⟨b, off + k * 3, none⟩ = some (.int .i64 (E k).f) ∧ w.cell? ⟨b, off + k * 3 + 1, none⟩ = some (.int .i64 (E k).t) ∧ w.cell? ⟨b, off + k * 3 + 2, none⟩ = some (.int .i64 (E k).c)
theorem Edges.below {w w' : World} {A : Option Addr} {m : Nat} {E : Nat → EdgeD} (h : Edges w A m E) (hb : Below w.heap.size w w') : Edges w' A m E := fun hm => by
  obtain ⟨b, off, hA, hlt, hc⟩ := h hm
  exact ⟨b, off, hA, Nat.lt_of_lt_of_le hlt hb.size, fun k hk => ⟨(hb.cell (p := ⟨b, off + k * 3, none⟩) hlt).trans (hc k hk).1, (hb.cell (p := ⟨b, off + k * 3 + 1, none⟩) hlt).trans (hc k hk).2.1, (hb.cell (p := ⟨b, off + k * 3 + 2, none⟩) hlt).trans (hc k hk).2.2⟩⟩
/- block p is a boxed network -/
def NetAt (w : World) (p : Nat) (N : Int) (A : Option Addr) (m c : Nat) : Prop := w.heap[p]? = some (.cells #[.int .i64 N, .slice A m c] 24 (0, 0))
section
variable {w w' : World} {p m c : Nat} {N : Int} {A : Option Addr}
theorem NetAt.lt (h : NetAt w p N A m c) : p < w.heap.size := lt_of_block h
theorem NetAt.c0 (h : NetAt w p N A m c) : w.cell? ⟨p, 0, none⟩ = some (.int .i64 N) := cell_of_row _ _ 0 _ _ _ h
theorem NetAt.c1 (h : NetAt w p N A m c) : w.cell? ⟨p, 1, none⟩ = some (.slice A m c) := cell_of_row _ _ 1 _ _ _ h
theorem NetAt.below (h : NetAt w p N A m c) (hb : Below w.heap.size w w') : NetAt w' p N A m c := (hb.block p h.lt).trans h
theorem NetAt.far (h : NetAt w p N A m c) {q : Addr} (hq : p ≠ q.block) (u : Value) : NetAt (w.setCell q u) p N A m c := (Below.heap_setCell w q u p hq).trans h
theorem NetAt.alloc (h : NetAt w p N A m c) (o : Obj) : NetAt (w.alloc o) p N A m c := (Below.heap_alloc w o p h.lt).trans h
end
theorem netAt_new (w : World) (N : Int) (A : Option Addr) (m c : Nat) : NetAt (w.alloc (.cells #[.int .i64 N, .slice A m c] 24)) w.heap.size N A m c := heap_alloc_new w _
theorem below_new (w : World) (o : Obj) : Below w.heap.size w (w.alloc o) := (Below.refl _ _).alloc (Nat.le_refl _) o
def Pair (N a b : Int) : Prop := a ≠ b ∧ (0 ≤ a ∧ a < N) ∧ (0 ≤ b ∧ b < N)
def VEdge (N : Int) (e : EdgeD) : Prop := Pair N e.f e.t ∧ 0 ≤ e.c ∧ e.c ≤ 1125899906842624
def VNet (N : Int) (m : Nat) (E : Nat → EdgeD) : Prop := 1 ≤ N ∧ N ≤ 512 ∧ m ≤ 2000 ∧ ∀ k, k < m → VEdge N (E k)
theorem isBelow_yes (i n : Int) (w : World) (h0 : 0 ≤ i) (h1 : i < n) : Calls Try.prog 61 #[.int .i64 i, .int .i64 n] w fun e w' => e = .returned (.bool true) ∧ w = w' := by
  go_enter Try.func61, Try.ntmps61
  go_wp2
  go_ret
  exact ⟨rfl, rfl⟩
theorem isBelow_no (i n : Int) (w : World) (h : i < 0 ∨ n ≤ i) : Calls Try.prog 61 #[.int .i64 i, .int .i64 n] w fun e w' => e = .returned (.bool false) ∧ w = w' := by
  by_cases h0 : i < 0
  · clear h
    go_enter Try.func61, Try.ntmps61
    go_wp2
    go_ret
    exact ⟨rfl, rfl⟩
  · have h1 : 0 ≤ i := by omega
    have hd : decide (i < n) = false := by simpa using (show n ≤ i by omega)
    clear h h0
    go_enter Try.func61, Try.ntmps61
    go_wp2
    go_ret
    exact ⟨rfl, rfl⟩
theorem isPair_yes (N a b : Int) (A : Option Addr) (m c : Nat) (w : World) (h : Pair N a b) :
    Calls Try.prog 38 #[.agg #[.int .i64 N, .slice A m c], .int .i64 a, .int .i64 b] w fun e w' => e = .returned (.bool true) ∧ Below w.heap.size w w' := by
  have c0 := (netAt_new w N A m c).c0
  obtain ⟨h0, ⟨h1, h2⟩, h3, h4⟩ := h
  have hd : (a != b) = true := bne_iff_ne.2 h0
  go_enter Try.func38, Try.ntmps38
  go_wp2_with fail
  refine (isBelow_yes a N _ h1 h2).mono ?_; rintro e w' ⟨rfl, rfl⟩
  go_wp2_with fail
  refine (isBelow_yes b N _ h3 h4).mono ?_; rintro e w' ⟨rfl, rfl⟩
  go_wp2_with fail
  go_ret
  exact ⟨rfl, below_new _ _⟩
theorem isPair_no (N a b : Int) (A : Option Addr) (m c : Nat) (w : World) (h : ¬ Pair N a b) :
    Calls Try.prog 38 #[.agg #[.int .i64 N, .slice A m c], .int .i64 a, .int .i64 b] w fun e w' => e = .returned (.bool false) ∧ Below w.heap.size w w' := by
  have c0 := (netAt_new w N A m c).c0
  by_cases h0 : a = b
  · subst h0
    have hd : (a != a) = false := by simp
    go_enter Try.func38, Try.ntmps38
    go_wp2_with fail
    go_ret
    exact ⟨rfl, below_new _ _⟩
  · have hd : (a != b) = true := bne_iff_ne.2 h0
    by_cases h1 : 0 ≤ a ∧ a < N
    · have h2 : b < 0 ∨ N ≤ b := by
        by_cases h3 : 0 ≤ b ∧ b < N
        · exact absurd ⟨h0, h1, h3⟩ h
        · omega
      have H2 := Lib.hid h2; clear h2 h
      go_enter Try.func38, Try.ntmps38
      go_wp2_with fail
      refine (isBelow_yes a N _ h1.1 h1.2).mono ?_; rintro e w' ⟨rfl, rfl⟩
      go_wp2_with fail
      refine (isBelow_no b N _ H2.out).mono ?_; rintro e w' ⟨rfl, rfl⟩
      go_wp2_with fail
      go_ret
      exact ⟨rfl, below_new _ _⟩
    · have H2 : Hid (a < 0 ∨ N ≤ a) := (by show _ ∨ _; omega)
      clear h h1
      go_enter Try.func38, Try.ntmps38
      go_wp2_with fail
      refine (isBelow_no a N _ H2.out).mono ?_; rintro e w' ⟨rfl, rfl⟩
      go_wp2_with fail
      go_ret
      exact ⟨rfl, below_new _ _⟩
theorem first_not {p : Nat → Prop} {n : Nat} (h : ¬ ∀ k, k < n → p k) : ∃ J, J < n ∧ ¬ p J ∧ ∀ k, k < J → p k := by
  induction n with
  | zero => exact absurd (fun k hk => absurd hk (Nat.not_lt_zero _)) h
  | succ n ih =>
    by_cases h2 : ∀ k, k < n → p k
    · refine ⟨n, by omega, fun hp => h fun k hk => ?_, h2⟩
      by_cases e : k = n
      · subst e; exact hp
      · exact h2 k (by omega)
    · obtain ⟨J, h3, h4, h5⟩ := ih h2
      exact ⟨J, by omega, h4, h5⟩
theorem valid_any (N : Int) (A : Option Addr) (m c : Nat) (E : Nat → EdgeD) (J : Nat) (v : Bool) (w : World) (h : Edges w A m E) (h1 : 1 ≤ N) (h2 : N ≤ 512) (hm : m ≤ 2000) (hJ : J ≤ m) (hz : ∀ k, k < J → VEdge N (E k))
    (hv : (v = true ∧ J = m) ∨ (v = false ∧ J < m ∧ ¬ VEdge N (E J))) :
    Calls Try.prog 12 #[.agg #[.int .i64 N, .slice A m c]] w fun e w' => e = .returned (.bool v) ∧ Below w.heap.size w w' := by
  have HH := Lib.hid h; clear h
  have HZ := Lib.hid hz; clear hz
  have HV := Lib.hid hv; clear hv
  have n0 := netAt_new w N A m c
  have b0 := below_new w (.cells #[.int .i64 N, .slice A m c] 24)
  have c0 := n0.c0
  have c1 := n0.c1
  have d1 : decide (N < 1) = false := decide_eq_false (by omega)
  have d2 : decide (512 < N) = false := decide_eq_false (by omega)
  have d3 : decide (2000 < (m : Int)) = false := decide_eq_false (by omega)
  go_enter Try.func12, Try.ntmps12
  go_wp2_with fail
  clear c0 c1
  go_loopw [22] (fun i wr => ∃ K : Nat, K ≤ J ∧ i = .int .i64 K ∧ NetAt wr w.heap.size N A m c ∧ Below w.heap.size w wr) (fun i _ => J - (intOf i).toNat)
  case atStart => exact ⟨0, by omega, rfl, n0, b0⟩
  case round =>
    clear n0 b0
    obtain ⟨K, hK, rfl, hn, hB⟩ := hrel
    by_cases hlt : K < m
    · obtain ⟨b, off, rfl, hbl, hcz⟩ := (HH.out.below hB) (by omega)
      obtain ⟨x0, x1, x2⟩ := hcz K hlt
      clear hcz
      have hz := HZ.out K
      have HZK := Lib.hid hz; clear hz
      have hn2 := hn.alloc (.cells #[.int .i64 (E K).f, .int .i64 (E K).t, .int .i64 (E K).c] 50)
      have B2 := below_next hB (below_new wr (.cells #[.int .i64 (E K).f, .int .i64 (E K).t, .int .i64 (E K).c] 50))
      have e2 : (wr.alloc (.cells #[.int .i64 (E K).f, .int .i64 (E K).t, .int .i64 (E K).c] 50)).heap[wr.heap.size]? = some (.cells #[.int .i64 (E K).f, .int .i64 (E K).t, .int .i64 (E K).c] 50 (0, 0)) := heap_alloc_new wr _
      by_cases hKJ : K < J
      · obtain ⟨hp, hc0, hc1⟩ := HZK.out hKJ
        have HP := Lib.hid hp; clear hp
        generalize (E K).f = ef at *
        generalize (E K).t = et at *
        generalize (E K).c = ec at *
        have q1 : decide (ec < 0) = false := decide_eq_false (by omega)
        have q2 : decide (1125899906842624 < ec) = false := decide_eq_false (by omega)
        have c0 := hn2.c0
        have c1 := hn2.c1
        have y0 := cell_of_row _ _ 0 _ _ _ e2
        have y1 := cell_of_row _ _ 1 _ _ _ e2
        have y2 := cell_of_row _ _ 2 _ _ _ e2
        go_wp2_with fail
        refine (isPair_yes N ef et (some ⟨b, off, none⟩) m c _ HP.out).mono ?_; rintro e w2 ⟨rfl, b2⟩
        have z2 := (b2.cell (p := ⟨wr.heap.size, 2, none⟩) (by simp)).trans y2
        have hn3 := hn2.below b2
        have B3 := below_next B2 b2
        clear hn hB hn2 B2 c0 c1 y0 y1 y2 e2 b2 x0 x1 x2
        go_wp2_with fail
        go_roundw
        case rel => exact ⟨K + 1, by omega, by go_num, hn3, B3⟩
        case measure => simp [intOf]; omega
      · obtain rfl : K = J := by omega
        rcases HV.out with ⟨_, h2⟩ | ⟨rfl, _, h3⟩
        · omega
        · have h3' : ¬ VEdge N ⟨(E K).f, (E K).t, (E K).c⟩ := h3
          clear h3
          generalize (E K).f = ef at *
          generalize (E K).t = et at *
          generalize (E K).c = ec at *
          have c0 := hn2.c0
          have c1 := hn2.c1
          have y0 := cell_of_row _ _ 0 _ _ _ e2
          have y1 := cell_of_row _ _ 1 _ _ _ e2
          have y2 := cell_of_row _ _ 2 _ _ _ e2
          by_cases hp : Pair N ef et
          · have hc : ec < 0 ∨ 1125899906842624 < ec := by
              by_cases hh : 0 ≤ ec ∧ ec ≤ 1125899906842624
              · exact absurd ⟨hp, hh.1, hh.2⟩ h3'
              · omega
            have HP := Lib.hid hp; clear hp h3'
            by_cases hneg : ec < 0
            · have q1 : decide (ec < 0) = true := decide_eq_true hneg
              clear hc
              go_wp2_with fail
              refine (isPair_yes N ef et (some ⟨b, off, none⟩) m c _ HP.out).mono ?_; rintro e w2 ⟨rfl, b2⟩
              have z2 := (b2.cell (p := ⟨wr.heap.size, 2, none⟩) (by simp)).trans y2
              clear c0 c1 y0 y1 y2 e2 x0 x1 x2
              go_wp2_with fail
              go_ret
              exact ⟨rfl, below_next B2 b2⟩
            · have q1 : decide (ec < 0) = false := decide_eq_false hneg
              have q2 : decide (1125899906842624 < ec) = true := decide_eq_true (by omega)
              clear hc
              go_wp2_with fail
              refine (isPair_yes N ef et (some ⟨b, off, none⟩) m c _ HP.out).mono ?_; rintro e w2 ⟨rfl, b2⟩
              have z2 := (b2.cell (p := ⟨wr.heap.size, 2, none⟩) (by simp)).trans y2
              clear c0 c1 y0 y1 y2 e2 x0 x1 x2
              go_wp2_with fail
              go_ret
              exact ⟨rfl, below_next B2 b2⟩
          · have HP := Lib.hid hp; clear hp h3'
            go_wp2_with fail
            refine (isPair_no N ef et (some ⟨b, off, none⟩) m c _ HP.out).mono ?_; rintro e w2 ⟨rfl, b2⟩
            clear c0 c1 y0 y1 y2 e2 x0 x1 x2
            go_wp2_with fail
            go_ret
            exact ⟨rfl, below_next B2 b2⟩
    · rcases HV.out with ⟨rfl, h2⟩ | ⟨_, h2, _⟩
      · have HJ := Lib.hid h2; clear h2
        go_wp2_with fail
        go_ret
        exact ⟨rfl, hB⟩
      · omega
theorem valid_y (N : Int) (A : Option Addr) (m c : Nat) (E : Nat → EdgeD) (w : World) (h : Edges w A m E) (hv : VNet N m E) :
    Calls Try.prog 12 #[.agg #[.int .i64 N, .slice A m c]] w fun e w' => e = .returned (.bool true) ∧ Below w.heap.size w w' :=
  valid_any N A m c E m true w h hv.1 hv.2.1 hv.2.2.1 (Nat.le_refl _) hv.2.2.2 (Or.inl ⟨rfl, rfl⟩)
theorem valid_n2 (N : Int) (A : Option Addr) (m c : Nat) (E : Nat → EdgeD) (w : World) (h : Edges w A m E) (hv : ¬ VNet N m E) :
    Calls Try.prog 12 #[.agg #[.int .i64 N, .slice A m c]] w fun e w' => e = .returned (.bool false) ∧ Below w.heap.size w w' := by
  have n0 := netAt_new w N A m c
  have c0 := n0.c0
  have c1 := n0.c1
  by_cases h1 : N < 1
  · have d1 : decide (N < 1) = true := decide_eq_true h1
    clear hv
    go_enter Try.func12, Try.ntmps12
    go_wp2_with fail
    go_ret
    exact ⟨rfl, below_new _ _⟩
  · have d1 : decide (N < 1) = false := decide_eq_false h1
    by_cases h2 : 512 < N
    · have d2 : decide (512 < N) = true := decide_eq_true h2
      clear hv
      go_enter Try.func12, Try.ntmps12
      go_wp2_with fail
      go_ret
      exact ⟨rfl, below_new _ _⟩
    · have d2 : decide (512 < N) = false := decide_eq_false h2
      by_cases h3 : 2000 < m
      · have d3 : decide (2000 < (m : Int)) = true := decide_eq_true (by omega)
        clear hv
        go_enter Try.func12, Try.ntmps12
        go_wp2_with fail
        go_ret
        exact ⟨rfl, below_new _ _⟩
      · obtain ⟨J, h4, h5, h6⟩ := first_not (p := fun k => VEdge N (E k)) (n := m) (fun hh => hv ⟨by omega, by omega, by omega, hh⟩)
        exact valid_any N A m c E J false w h (by omega) (by omega) (by omega) (by omega) h6 (Or.inr ⟨rfl, h4, h5⟩)
/- argumentError -/
theorem argErr_ok (N s t : Int) (A : Option Addr) (m c : Nat) (E : Nat → EdgeD) (w : World) (h : Edges w A m E) (hv : VNet N m E) (hp : Pair N s t) :
    Calls Try.prog 39 #[.agg #[.int .i64 N, .slice A m c], .int .i64 s, .int .i64 t] w fun e w' => e = .returned (.int .i64 0) ∧ Below w.heap.size w w' := by
  have HH := Lib.hid h; clear h
  have HV := Lib.hid hv; clear hv
  have HP := Lib.hid hp; clear hp
  have n0 := netAt_new w N A m c
  have b0 := below_new w (.cells #[.int .i64 N, .slice A m c] 24)
  have c0 := n0.c0
  have c1 := n0.c1
  go_enter Try.func39, Try.ntmps39
  go_wp2_with fail
  refine (valid_y N A m c E _ (HH.out.below b0) HV.out).mono ?_; rintro e w1 ⟨rfl, b1⟩
  have n1 := n0.below b1
  have B1 := below_next b0 b1
  clear n0 b0 c0 c1
  have c0 := n1.c0
  have c1 := n1.c1
  go_wp2_with fail
  refine (isPair_yes N s t A m c _ HP.out).mono ?_; rintro e w2 ⟨rfl, b2⟩
  go_wp2_with fail
  go_ret
  exact ⟨rfl, below_next B1 b2⟩
theorem argErr_arg (N s t : Int) (A : Option Addr) (m c : Nat) (E : Nat → EdgeD) (w : World) (h : Edges w A m E) (hv : ¬ VNet N m E) :
    Calls Try.prog 39 #[.agg #[.int .i64 N, .slice A m c], .int .i64 s, .int .i64 t] w fun e w' => e = .returned (.int .i64 1) ∧ Below w.heap.size w w' := by
  have HH := Lib.hid h; clear h
  have HV := Lib.hid hv; clear hv
  have n0 := netAt_new w N A m c
  have b0 := below_new w (.cells #[.int .i64 N, .slice A m c] 24)
  have c0 := n0.c0
  have c1 := n0.c1
  go_enter Try.func39, Try.ntmps39
  go_wp2_with fail
  refine (valid_n2 N A m c E _ (HH.out.below b0) HV.out).mono ?_; rintro e w1 ⟨rfl, b1⟩
  go_wp2_with fail
  go_ret
  exact ⟨rfl, below_next b0 b1⟩
theorem argErr_range (N s t : Int) (A : Option Addr) (m c : Nat) (E : Nat → EdgeD) (w : World) (h : Edges w A m E) (hv : VNet N m E) (hp : ¬ Pair N s t) :
    Calls Try.prog 39 #[.agg #[.int .i64 N, .slice A m c], .int .i64 s, .int .i64 t] w fun e w' => e = .returned (.int .i64 2) ∧ Below w.heap.size w w' := by
  have HH := Lib.hid h; clear h
  have HV := Lib.hid hv; clear hv
  have HP := Lib.hid hp; clear hp
  have n0 := netAt_new w N A m c
  have b0 := below_new w (.cells #[.int .i64 N, .slice A m c] 24)
  have c0 := n0.c0
  have c1 := n0.c1
  go_enter Try.func39, Try.ntmps39
  go_wp2_with fail
  refine (valid_y N A m c E _ (HH.out.below b0) HV.out).mono ?_; rintro e w1 ⟨rfl, b1⟩
  have n1 := n0.below b1
  have B1 := below_next b0 b1
  clear n0 b0 c0 c1
  have c0 := n1.c0
  have c1 := n1.c1
  go_wp2_with fail
  refine (isPair_no N s t A m c _ HP.out).mono ?_; rintro e w2 ⟨rfl, b2⟩
  go_wp2_with fail
  go_ret
  exact ⟨rfl, below_next B1 b2⟩
end Go.Proofs.Ytjdceafkcakbjaa
