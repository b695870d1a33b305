/- Sets in memory, and the contracts of Valid. -/
import Derived.Test.YtngpfondnampjaaDoorBase
import Derived.OneCell
import Derived.Outline
import Derived.Deep.Draws
import Derived.Laws.Rows
import Derived.Laws.AppendOwn
import Derived.OwnWalk
import Derived.Deep.OwnRows
namespace Go.Proofs.YtngpfondnampjaaDoor
open Go.RowKit
/- the slice value at A holds the words f 0 .. f (m - 1) -/
def Wds (w : World) (A : Option Addr) (m : Nat) (f : Nat → Nat) : Prop :=
  U64 f m ∧ (0 < m → ∃ b off, A = some ⟨b, off, none⟩ ∧ b < w.heap.size ∧ ∀ k, k < m → w.cell? ⟨b, off + k, none⟩ = some (.int .u64 (f k)))
theorem Wds.below {w w' : World} {A : Option Addr} {m : Nat} {f : Nat → Nat} (h : Wds w A m f) (hb : Below w.heap.size w w') : Wds w' A m f :=
  ⟨h.1, fun hm => by
    obtain ⟨b, off, hA, hlt, hc⟩ := h.2 hm
    exact ⟨b, off, hA, Nat.lt_of_lt_of_le hlt hb.size, fun k hk => (hb.cell (p := ⟨b, off + k, none⟩) hlt).trans (hc k hk)⟩⟩
theorem Wds.congr {w : World} {A : Option Addr} {m : Nat} {f g : Nat → Nat} (h : Wds w A m f) (e : ∀ k, k < m → f k = g k) : Wds w A m g :=
  ⟨fun k hk => by rw [← e k hk]; exact h.1 k hk, fun hm => by
    obtain ⟨b, off, hA, hlt, hc⟩ := h.2 hm
    exact ⟨b, off, hA, hlt, fun k hk => by rw [← e k hk]; exact hc k hk⟩⟩
theorem flip_same {P : Program} {f : FuncId} {args : Array Value} {w : World} {v : Value} (h : Calls P f args w fun e w' => e = .returned v ∧ w = w') : Calls P f args w fun e w' => e = .returned v ∧ w' = w :=
  h.mono fun _ _ ⟨he, hw⟩ => ⟨he, hw.symm⟩
theorem bcell {W w1 : World} (hb : Below W.heap.size W w1) : (∀ b o, b < W.heap.size → w1.cell? ⟨b, o, none⟩ = W.cell? ⟨b, o, none⟩) ∧ (∀ b o, b < W.heap.size → w1.frozen? ⟨b, o, none⟩ = W.frozen? ⟨b, o, none⟩) :=
  ⟨fun b o h => hb.cell (p := ⟨b, o, none⟩) h, fun b o h => hb.frozen (p := ⟨b, o, none⟩) h⟩
theorem below_then {B : Nat} {a b c : World} (h : Below B a b) (k : Below b.heap.size b c) (hB : B ≤ b.heap.size) : Below B a c := h.trans (k.mono hB)
theorem below_next {a b c : World} (h : Below a.heap.size a b) (k : Below b.heap.size b c) : Below a.heap.size a c := h.trans (k.mono h.size)
theorem below_drewN {B : Nat} {a w : World} (h : Below B a w) (n : Nat) : Below B a (w.drewN n) := ⟨h.os, h.tape, h.output, h.size, h.block⟩
/- a world in which the call has boxed one value, and what came after it -/
theorem box_size {w wr : World} {o : Obj} (h : Below (w.heap.size + 1) (w.alloc o) wr) : w.heap.size + 1 ≤ wr.heap.size := by have := h.size; simpa using this
theorem box_below {w wr : World} {o : Obj} (h : Below (w.heap.size + 1) (w.alloc o) wr) : Below w.heap.size w wr := ((Below.refl _ _).alloc (Nat.le_refl _) o).trans (h.mono (by omega))
theorem box_next {w wr w2 : World} {o : Obj} (h : Below (w.heap.size + 1) (w.alloc o) wr) (k : Below wr.heap.size wr w2) : Below (w.heap.size + 1) (w.alloc o) w2 := h.trans (k.mono (box_size h))
theorem box_cell {w wr : World} {cs : Array Value} {t : TypeId} (h : Below (w.heap.size + 1) (w.alloc (.cells cs t)) wr) (k : Nat) : wr.cell? ⟨w.heap.size, k, none⟩ = cs[k]? := by
  rw [h.cell (p := ⟨w.heap.size, k, none⟩) (by simp)]
  exact cell_of_row _ _ _ _ _ _ (heap_alloc_new w _)
/- block n is a boxed set -/
def SetAt (w : World) (n : Nat) (N : Int) (A : Option Addr) (len cap : Nat) : Prop := w.heap[n]? = some (.cells #[.int .i64 N, .slice A len cap] 28 (0, 0))
section
variable {w w' : World} {n : Nat} {N : Int} {A : Option Addr} {len cap : Nat}
theorem SetAt.lt (h : SetAt w n N A len cap) : n < w.heap.size := lt_of_block h
theorem SetAt.c0 (h : SetAt w n N A len cap) : w.cell? ⟨n, 0, none⟩ = some (.int .i64 N) := cell_of_row _ _ 0 _ _ _ h
theorem SetAt.c1 (h : SetAt w n N A len cap) : w.cell? ⟨n, 1, none⟩ = some (.slice A len cap) := cell_of_row _ _ 1 _ _ _ h
theorem SetAt.free (h : SetAt w n N A len cap) (k : Nat) : w.frozen? ⟨n, k, none⟩ = false := by
  unfold SetAt at h
  simp [World.frozen?, h]
theorem SetAt.below (h : SetAt w n N A len cap) (hb : Below w.heap.size w w') : SetAt w' n N A len cap := (hb.block n h.lt).trans h
theorem SetAt.far (h : SetAt w n N A len cap) {q : Addr} (hq : n ≠ q.block) (u : Value) : SetAt (w.setCell q u) n N A len cap := (Below.heap_setCell w q u n hq).trans h
theorem SetAt.drew (h : SetAt w n N A len cap) : SetAt w.drew n N A len cap := h
theorem SetAt.alloc (h : SetAt w n N A len cap) (o : Obj) : SetAt (w.alloc o) n N A len cap := (Below.heap_alloc w o n h.lt).trans h
end
theorem setAt_new (w : World) (N : Int) (A : Option Addr) (len cap : Nat) : SetAt (w.alloc (.cells #[.int .i64 N, .slice A len cap] 28)) w.heap.size N A len cap := heap_alloc_new w _
/- two boxed sets -/
theorem setAt_two (w : World) (N M : Int) (A B : Option Addr) (la ca lb cb : Nat) :
    SetAt ((w.alloc (.cells #[.int .i64 N, .slice A la ca] 28)).alloc (.cells #[.int .i64 M, .slice B lb cb] 28)) w.heap.size N A la ca ∧
    SetAt ((w.alloc (.cells #[.int .i64 N, .slice A la ca] 28)).alloc (.cells #[.int .i64 M, .slice B lb cb] 28)) (w.heap.size + 1) M B lb cb ∧
    Below w.heap.size w ((w.alloc (.cells #[.int .i64 N, .slice A la ca] 28)).alloc (.cells #[.int .i64 M, .slice B lb cb] 28)) := by
  refine ⟨(setAt_new w N A la ca).alloc _, ?_, ((Below.refl _ _).alloc (Nat.le_refl _) _).alloc (by simp) _⟩
  have h := setAt_new (w.alloc (.cells #[.int .i64 N, .slice A la ca] 28)) M B lb cb
  have e : (w.alloc (.cells #[.int .i64 N, .slice A la ca] 28)).heap.size = w.heap.size + 1 := by simp
  rw [e] at h; exact h
/- what the world is while a call with one boxed set goes on; with two -/
structure One (w wr : World) (N : Int) (A : Option Addr) (la ca : Nat) : Prop where
  s : SetAt wr w.heap.size N A la ca
  b : Below w.heap.size w wr
structure Two (w wr : World) (N M : Int) (A B : Option Addr) (la ca lb cb : Nat) : Prop where
  s : SetAt wr w.heap.size N A la ca
  t : SetAt wr (w.heap.size + 1) M B lb cb
  b : Below w.heap.size w wr
theorem one_new (w : World) (N : Int) (A : Option Addr) (la ca : Nat) : One w (w.alloc (.cells #[.int .i64 N, .slice A la ca] 28)) N A la ca :=
  ⟨setAt_new w N A la ca, (Below.refl _ _).alloc (Nat.le_refl _) _⟩
theorem two_new (w : World) (N M : Int) (A B : Option Addr) (la ca lb cb : Nat) :
    Two w ((w.alloc (.cells #[.int .i64 N, .slice A la ca] 28)).alloc (.cells #[.int .i64 M, .slice B lb cb] 28)) N M A B la ca lb cb :=
  have h := setAt_two w N M A B la ca lb cb
  ⟨h.1, h.2.1, h.2.2⟩
section
variable {w wr w2 : World} {N M : Int} {A B : Option Addr} {la ca lb cb : Nat}
theorem One.next (h : One w wr N A la ca) (k : Below wr.heap.size wr w2) : One w w2 N A la ca := ⟨h.s.below k, below_next h.b k⟩
theorem Two.next (h : Two w wr N M A B la ca lb cb) (k : Below wr.heap.size wr w2) : Two w w2 N M A B la ca lb cb := ⟨h.s.below k, h.t.below k, below_next h.b k⟩
theorem One.drewN (h : One w wr N A la ca) (n : Nat) : One w (wr.drewN n) N A la ca := ⟨h.s, below_drewN h.b n⟩
theorem Two.drewN (h : Two w wr N M A B la ca lb cb) (n : Nat) : Two w (wr.drewN n) N M A B la ca lb cb := ⟨h.s, h.t, below_drewN h.b n⟩
theorem One.alloc (h : One w wr N A la ca) (o : Obj) : One w (wr.alloc o) N A la ca := h.next ((Below.refl _ _).alloc (Nat.le_refl _) o)
theorem Two.alloc (h : Two w wr N M A B la ca lb cb) (o : Obj) : Two w (wr.alloc o) N M A B la ca lb cb := h.next ((Below.refl _ _).alloc (Nat.le_refl _) o)
end
/- the slice value at A holds the integers z 0 .. z (n - 1) -/
def Ints (w : World) (A : Option Addr) (n : Nat) (z : Nat → Int) : Prop :=
  0 < n → ∃ b off, A = some ⟨b, off, none⟩ ∧ b < w.heap.size ∧ ∀ k, k < n → w.cell? ⟨b, off + k, none⟩ = some (.int .i64 (z k))
theorem Ints.below {w w' : World} {A : Option Addr} {n : Nat} {z : Nat → Int} (h : Ints w A n z) (hb : Below w.heap.size w w') : Ints w' A n z := fun hn => by
  obtain ⟨b, off, hA, hlt, hc⟩ := h hn
  exact ⟨b, off, hA, Nat.lt_of_lt_of_le hlt hb.size, fun k hk => (hb.cell (p := ⟨b, off + k, none⟩) hlt).trans (hc k hk)⟩
theorem Ints.congr {w : World} {A : Option Addr} {n : Nat} {z y : Nat → Int} (h : Ints w A n z) (e : ∀ k, k < n → z k = y k) : Ints w A n y := fun hn => by
  obtain ⟨b, off, hA, hlt, hc⟩ := h hn
  exact ⟨b, off, hA, hlt, fun k hk => by rw [← e k hk]; exact hc k hk⟩
/- a list of numbers as values, and as what a slice of the call's own holds -/
def vals (l : List Nat) : List Value := l.map fun i => .int .i64 (i : Nat)
def gets (l : List Nat) : Nat → Int := fun k => ((l.getD k 0 : Nat) : Int)
theorem own_mono {w : World} {base base' : Nat} {e : TypeId} {size : Nat} {v : Value} {n : Nat} {xs : List Value} (h : w.ownsRow base e size v n xs) (hb : base' ≤ base) : w.ownsRow base' e size v n xs :=
  ⟨h.1, h.2.imp_right fun ⟨g, cap, cur, h1, h2, h3⟩ => ⟨g, cap, cur, h1, Nat.le_trans hb h2, h3⟩⟩
theorem own_ints {w : World} {base : Nat} {v : Value} {l : List Nat} (h : w.ownsRow base 3 1 v l.length (vals l)) : ∃ A c, v = .slice A l.length c ∧ Ints w A l.length (gets l) ∧ l.length ≤ 9223372036854775807 := by
  rcases h.2 with ⟨rfl, hn⟩ | ⟨g, cap, cur, rfl, hb, hg, hnc, hcm, hcs, ht⟩
  · exact ⟨none, 0, by rw [hn], fun h0 => absurd h0 (by omega), by omega⟩
  · refine ⟨_, _, rfl, fun h0 => ⟨g, 0, rfl, lt_of_block hg, fun k hk => ?_⟩, by unfold maxLen at hcm; omega⟩
    have hv : (vals l)[k]? = some (.int .i64 (gets l k)) := by
      unfold vals gets
      rw [List.getElem?_map, List.getElem?_eq_getElem hk, List.getD_eq_getElem?_getD, List.getElem?_eq_getElem hk]; rfl
    have hc := h.cells (g := g) rfl k _ hv
    have hadd : (⟨g, 0, none⟩ : Addr).add k = ⟨g, 0 + k, none⟩ := by unfold Addr.add; split <;> simp_all
    rw [hadd] at hc
    exact hc
theorem vals_one (l : List Nat) : ∀ u ∈ vals l, u.oneCell' = true := by
  intro u hu
  obtain ⟨i, _, rfl⟩ := List.mem_map.1 hu
  rfl
theorem vals_snoc (l : List Nat) (i : Nat) : vals (l ++ [i]) = vals l ++ [.int .i64 (i : Nat)] := by simp [vals]
theorem vals_len (l : List Nat) : (vals l).length = l.length := by simp [vals]
theorem valid_n (N : Int) (A : Option Addr) (len cap : Nat) (w : World) (h : N < 0 ∨ 512 < N) :
    Calls Tryd.prog 41 #[.agg #[.int .i64 N, .slice A len cap]] w fun e w' => e = .returned (.bool false) ∧ Below w.heap.size w w' := by
  have H := Lib.hid h; clear h
  go_enter Tryd.func41, Tryd.ntmps41
  go_wp2_with fail
  go_quiet ((first | (go_at_call 68; exact Calls.quiet_of_same (flip_same (isSize_no _ _ H.out)))))
  go_wp2
  go_ret
  exact ⟨rfl, below_drewN ((Below.refl _ _).alloc (Nat.le_refl _) _) _⟩
theorem valid_len (N : Nat) (A : Option Addr) (len cap : Nat) (w : World) (h : N ≤ 512) (hl : len ≠ (N + 63) / 64) :
    Calls Tryd.prog 41 #[.agg #[.int .i64 N, .slice A len cap]] w fun e w' => e = .returned (.bool false) ∧ Below w.heap.size w w' := by
  have hne : ((len : Int) == (((N + 63) / 64 : Nat) : Int)) = false := beq_false_of_ne (by omega)
  have hne2 : ((len : Int) != (((N + 63) / 64 : Nat) : Int)) = true := by simp only [bne, hne]; rfl
  have hb : (N + 63) / 64 ≤ 9 := by omega
  have hc := fun w => wordCount_any N w h
  generalize (N + 63) / 64 = c at hne hne2 hl hb hc
  have HC := Lib.hid hc; clear hc
  have HL := Lib.hid hl; clear hl
  go_enter Tryd.func41, Tryd.ntmps41
  go_wp2_with fail
  go_quiet ((first | (go_at_call 68; exact Calls.quiet_of_same (flip_same (isSize_yes _ _ (by omega) (by omega)))) | (go_at_call 69; exact Calls.quiet_of_same (flip_same (HC.out _)))))
  go_wp2
  go_ret
  exact ⟨rfl, below_drewN ((Below.refl _ _).alloc (Nat.le_refl _) _) _⟩
theorem valid_even (N : Nat) (A : Option Addr) (len cap : Nat) (w : World) (h : N ≤ 512) (hl : len = (N + 63) / 64) (h0 : N % 64 = 0) :
    Calls Tryd.prog 41 #[.agg #[.int .i64 N, .slice A len cap]] w fun e w' => e = .returned (.bool true) ∧ Below w.heap.size w w' := by
  have hc := fun w => wordCount_any N w h
  rw [← hl] at hc
  have HC := Lib.hid hc; clear hc
  have HL := Lib.hid hl
  have hlen : len ≤ 9 := by omega
  clear hl
  have hz : ((N : Int) % 64 == 0) = true := by rw [beq_iff_eq]; omega
  have H0 := Lib.hid h0; clear h0
  go_enter Tryd.func41, Tryd.ntmps41
  go_wp2_with fail
  go_quiet ((first | (go_at_call 68; exact Calls.quiet_of_same (flip_same (isSize_yes _ _ (by omega) (by omega)))) | (go_at_call 69; exact Calls.quiet_of_same (flip_same (HC.out _)))))
  go_wp2
  go_ret
  exact ⟨rfl, below_drewN ((Below.refl _ _).alloc (Nat.le_refl _) _) _⟩
theorem ret_bool {a b : Bool} (h : a = b) : Ending.returned (.bool a) = .returned (.bool b) := by rw [h]
theorem shr_cast (x u : Nat) : (x : Int) / 2 ^ u = ((x / 2 ^ u : Nat) : Int) := by simp
theorem shr_test (x u : Nat) : ((x : Int) / 2 ^ u == 0) = decide (x / 2 ^ u = 0) := by
  rw [shr_cast]
  by_cases h : x / 2 ^ u = 0
  · rw [h]; rfl
  · rw [decide_eq_false h]; exact beq_false_of_ne (by omega)
theorem and_one_test (x u : Nat) (hx : x < 18446744073709551616) : (bits .and .u64 ((x : Int) / 2 ^ u) 1 == 1) = x.testBit u := by
  have hq : x / 2 ^ u < 18446744073709551616 := Nat.lt_of_le_of_lt (Nat.div_le_self _ _) hx
  have h1 : bits .and .u64 ((x / 2 ^ u : Nat) : Int) ((1 : Nat) : Int) = ((x / 2 ^ u &&& 1 : Nat) : Int) := u64_and_nat _ 1 hq (by omega)
  rw [Nat.and_one_is_mod] at h1
  have h2 : bits .and .u64 ((x : Int) / 2 ^ u) 1 = ((x / 2 ^ u % 2 : Nat) : Int) := by rw [shr_cast]; exact h1
  rw [h2, Nat.testBit_eq_decide_div_mod_eq]
  by_cases h : x / 2 ^ u % 2 = 1
  · rw [h]; rfl
  · rw [decide_eq_false h]; exact beq_false_of_ne (by omega)
theorem valid_part (N : Nat) (b off len cap : Nat) (x : Nat) (w : World) (h : N ≤ 512) (hl : len = (N + 63) / 64) (h0 : N % 64 ≠ 0) (hb : b < w.heap.size)
    (hx : w.cell? ⟨b, off + (len - 1), none⟩ = some (.int .u64 (x : Nat))) (v : Bool) (hv : v = decide (x / 2 ^ (N % 64) = 0)) :
    Calls Tryd.prog 41 #[.agg #[.int .i64 N, .slice (some ⟨b, off, none⟩) len cap]] w fun e w' => e = .returned (.bool v) ∧ Below w.heap.size w w' := by
  have hc := fun w => wordCount_any N w h
  rw [← hl] at hc
  have HC := Lib.hid hc; clear hc
  have HL := Lib.hid hl
  have hlen : len ≤ 9 := by omega
  have hlen1 : 1 ≤ len := by omega
  clear hl
  have hz : ((N : Int) % 64 == 0) = false := by rw [beq_eq_false_iff_ne]; omega
  have HV := Lib.hid hv; clear hv
  have H0 := Lib.hid h0; clear h0
  go_enter Tryd.func41, Tryd.ntmps41
  go_wp2_with fail
  go_quiet ((first | (go_at_call 68; exact Calls.quiet_of_same (flip_same (isSize_yes _ _ (by omega) (by omega)))) | (go_at_call 69; exact Calls.quiet_of_same (flip_same (HC.out _)))))
  go_wp2
  go_ret
  refine ⟨?_, below_drewN ((Below.refl _ _).alloc (Nat.le_refl _) _) _⟩
  rw [HV.out]
  exact ret_bool (shr_test x (N % 64))
theorem valid_yes (N : Int) (A : Option Addr) (len cap : Nat) (f : Nat → Nat) (w : World) (h : Wds w A len f) (hv : Vld N len f) :
    Calls Tryd.prog 41 #[.agg #[.int .i64 N, .slice A len cap]] w fun e w' => e = .returned (.bool true) ∧ Below w.heap.size w w' := by
  obtain ⟨n, rfl⟩ := Int.eq_ofNat_of_zero_le hv.1
  have h1 : n ≤ 512 := by have := hv.2.1; omega
  have h2 : len = (n + 63) / 64 := hv.2.2.1
  by_cases h0 : n % 64 = 0
  · exact valid_even n A len cap w h1 h2 h0
  · obtain ⟨b, off, rfl, hb, hc⟩ := h.2 (by omega)
    have ht := (vld_last h.1 h1 h2).1 hv
    exact valid_part n b off len cap (f (len - 1)) w h1 h2 h0 hb (hc (len - 1) (by omega)) true (by rw [ht.resolve_left h0]; rfl)
theorem valid_no (N : Int) (A : Option Addr) (len cap : Nat) (f : Nat → Nat) (w : World) (h : Wds w A len f) (hv : ¬ Vld N len f) :
    Calls Tryd.prog 41 #[.agg #[.int .i64 N, .slice A len cap]] w fun e w' => e = .returned (.bool false) ∧ Below w.heap.size w w' := by
  by_cases hr : N < 0 ∨ 512 < N
  · exact valid_n N A len cap w hr
  · obtain ⟨n, rfl⟩ := Int.eq_ofNat_of_zero_le (show 0 ≤ N by omega)
    have h1 : n ≤ 512 := by omega
    by_cases h2 : len = (n + 63) / 64
    · have ht := fun h3 => hv ((vld_last h.1 h1 h2).2 h3)
      have h0 : n % 64 ≠ 0 := fun h3 => ht (Or.inl h3)
      obtain ⟨b, off, rfl, hb, hc⟩ := h.2 (by omega)
      exact valid_part n b off len cap (f (len - 1)) w h1 h2 h0 hb (hc (len - 1) (by omega)) false (by
        have : ¬ f (len - 1) / 2 ^ (n % 64) = 0 := fun h3 => ht (Or.inr h3)
        simpa using this)
    · exact valid_len n A len cap w h1 h2
end Go.Proofs.YtngpfondnampjaaDoor
