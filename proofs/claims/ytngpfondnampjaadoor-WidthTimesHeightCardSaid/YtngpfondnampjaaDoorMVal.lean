/- Matching, ported: MVal. -/
import Derived.Test.YtngpfondnampjaaDoorBitA
import Derived.Test.YtngpfondnampjaaDoorBitC
import Derived.Maps.OwnSet
import Derived.Maps.OwnOps
import Derived.WideKeyPair
import Derived.DeepKeys4
import Derived.Test.YtngpfondnampjaaDoorRMak3
namespace Go.Proofs.YtngpfondnampjaaDoor
open Go.RowKit Go.Maps
theorem below_new (w : World) (o : Obj) : Below w.heap.size w (w.alloc o) := (Below.refl _ _).alloc (Nat.le_refl _) o
/- keys -/
theorem own : ownKnob Tryd.prog.godebug = none := by kernel_rfl
theorem laidOut : laidOutB Tryd.prog = true := by kernel_rfl
theorem cells47 : Tryd.prog.cellsOf 78 = 2 := by kernel_rfl
theorem row47 : (78 : TypeId) < Tryd.prog.types.size := of_decide_eq_true (by kernel_rfl)
theorem wide47 : (match Tryd.prog.underlying 78 with | some (.array _ _) | some (.struct _) => true | _ => false) = true := by rw [Tryd.underlying78]
theorem arr47 : WideMaps.ArrKey Tryd.prog 78 3 2 := ⟨Tryd.underlying78, by kernel_rfl, by kernel_rfl, cells47⟩
set_option maxRecDepth 100000 in
theorem law47 : Keyed Tryd.prog 78 := Keyed.of_law (deep_law_laid laidOut (m := 2) (by omega) row47 (by kernel_rfl) wide47)
set_option maxRecDepth 100000 in
theorem types_pos : ∃ m, Tryd.prog.types.size = m + 1 := ⟨Tryd.prog.types.size - 1, (Nat.succ_pred_eq_of_pos (Nat.lt_of_le_of_lt (Nat.zero_le _) row47)).symm⟩
def WfP (p : Int × Int) : Prop := (Lit.int .i64 p.1).wf = true ∧ (Lit.int .i64 p.2).wf = true
def pkey (p : Int × Int) : Lit := .string (keyBytes [.int .i64 p.1, .int .i64 p.2])
theorem pkey_lit (p : Int × Int) : WideAt.IsKeyLit (pkey p) := trivial
theorem key_of {p : Int × Int} (h : WfP p) : keyOf Tryd.prog 78 (.agg #[.int .i64 p.1, .int .i64 p.2]) = some (pkey p) := WideMaps.keyOf_pair arr47 Tryd.underlying3 types_pos h.1 h.2
theorem pkey_inj {p q : Int × Int} (hp : WfP p) (hq : WfP q) (h : pkey p = pkey q) : p = q := by
  have e := law47.inj (key_of hp) ((key_of hq).trans (by rw [h]))
  have e2 : (Value.int .i64 p.1 = .int .i64 q.1) ∧ (Value.int .i64 p.2 = .int .i64 q.2) := by simpa using e
  obtain ⟨e3, e4⟩ := e2
  have e5 : p.1 = q.1 := by simpa using e3
  have e6 : p.2 = q.2 := by simpa using e4
  exact Prod.ext e5 e6
/- the table of the first K pairs -/
def tab (E : Nat → Int × Int) : Nat → DataW Unit
  | 0 => .map []
  | K + 1 => (tab E K).put (pkey (E K)) (.lit (.bool true))
theorem tab_tidy (E : Nat → Int × Int) : ∀ K, Tidy (tab E K)
  | 0 => tidy_empty
  | K + 1 => (tab_tidy E K).put (pkey_lit _) _
theorem tab_has (E : Nat → Int × Int) (k : Lit) : ∀ K, Maps.has (tab E K) k = true ↔ ∃ i, i < K ∧ pkey (E i) = k
  | 0 => ⟨fun h => by simp [tab, Maps.has_eq] at h, fun ⟨_, h, _⟩ => absurd h (Nat.not_lt_zero _)⟩
  | K + 1 => by
    show Maps.has ((tab E K).put (pkey (E K)) _) k = true ↔ _
    by_cases e : k = pkey (E K)
    · subst e
      rw [has_put_same (tab_tidy E K).isMap (pkey_lit _)]
      exact ⟨fun _ => ⟨K, Nat.lt_succ_self K, rfl⟩, fun _ => rfl⟩
    · rw [has_put_other e, tab_has E k K]
      constructor
      · rintro ⟨i, h1, h2⟩; exact ⟨i, by omega, h2⟩
      · rintro ⟨i, h1, h2⟩
        have : i ≠ K := fun h => e (by rw [← h2, h])
        exact ⟨i, by omega, h2⟩
theorem tab_size (E : Nat → Int × Int) : ∀ K, Maps.size (tab E K) ≤ K ∧ (Maps.size (tab E K) = K ↔ ∀ i j, i < j → j < K → pkey (E i) ≠ pkey (E j))
  | 0 => ⟨Nat.le_refl _, fun _ i j _ h => absurd h (Nat.not_lt_zero _), fun _ => rfl⟩
  | K + 1 => by
    obtain ⟨h1, h2⟩ := tab_size E K
    have hs := size_put (k := pkey (E K)) (tab_tidy E K) (.lit (.bool true))
    have hs2 : Maps.size (tab E (K + 1)) = if Maps.has (tab E K) (pkey (E K)) then Maps.size (tab E K) else Maps.size (tab E K) + 1 := hs
    by_cases c : Maps.has (tab E K) (pkey (E K)) = true
    · rw [if_pos c] at hs2
      obtain ⟨i, hi, he⟩ := (tab_has E _ K).1 c
      exact ⟨by omega, fun h => by omega, fun h => absurd he (h i K hi (Nat.lt_succ_self K))⟩
    · rw [if_neg c] at hs2
      refine ⟨by omega, fun h i j hij hj => ?_, fun h => ?_⟩
      · by_cases e : j = K
        · subst e
          exact fun h' => c ((tab_has E _ _).2 ⟨i, hij, h'⟩)
        · exact h2.1 (by omega) i j hij (by omega)
      · have := h2.2 (fun i j hij hj => h i j hij (by omega))
        omega
/- valid graphs -/
def InE (N M : Int) (p : Int × Int) : Prop := (0 ≤ p.1 ∧ p.1 < N) ∧ (0 ≤ p.2 ∧ p.2 < M)
structure VG (N M : Int) (k : Nat) (E : Nat → Int × Int) : Prop where
  n0 : 0 ≤ N
  n1 : N ≤ 512
  m0 : 0 ≤ M
  m1 : M ≤ 512
  k2 : k ≤ 2000
  ran : ∀ i, i < k → InE N M (E i)
  one : ∀ i j, i < j → j < k → E i ≠ E j
theorem wf_of {N M : Int} {p : Int × Int} (h : InE N M p) (hN : N ≤ 512) (hM : M ≤ 512) : WfP p := by
  obtain ⟨⟨h1, h2⟩, h3, h4⟩ := h
  exact ⟨WalkArith.wf_i64 (by omega), WalkArith.wf_i64 (by omega)⟩
theorem VG.wf {N M : Int} {k : Nat} {E : Nat → Int × Int} (h : VG N M k E) {i : Nat} (hi : i < k) : WfP (E i) := wf_of (h.ran i hi) h.n1 h.m1
theorem mSize_yes (n : Int) (w : World) (h0 : 0 ≤ n) (h1 : n ≤ 512) : Calls Tryd.prog 92 #[.int .i64 n] w fun e w' => e = .returned (.bool true) ∧ w = w' := by
  go_enter Tryd.func92, Tryd.ntmps92
  go_wp2
  go_ret
  exact ⟨rfl, rfl⟩
theorem mSize_no (n : Int) (w : World) (h : n < 0 ∨ 512 < n) : Calls Tryd.prog 92 #[.int .i64 n] w fun e w' => e = .returned (.bool false) ∧ w = w' := by
  rcases h with h | h
  · go_enter Tryd.func92, Tryd.ntmps92
    go_wp2
    go_ret
    exact ⟨rfl, rfl⟩
  · have hd : decide (n ≤ 512) = false := by simpa using h
    go_enter Tryd.func92, Tryd.ntmps92
    go_wp2
    go_ret
    exact ⟨rfl, rfl⟩
theorem isBelow_yes (i n : Int) (w : World) (h0 : 0 ≤ i) (h1 : i < n) : Calls Tryd.prog 93 #[.int .i64 i, .int .i64 n] w fun e w' => e = .returned (.bool true) ∧ w = w' := by
  go_enter Tryd.func93, Tryd.ntmps93
  go_wp2
  go_ret
  exact ⟨rfl, rfl⟩
theorem isBelow_no (i n : Int) (w : World) (h : i < 0 ∨ n ≤ i) : Calls Tryd.prog 93 #[.int .i64 i, .int .i64 n] w fun e w' => e = .returned (.bool false) ∧ w = w' := by
  by_cases h0 : i < 0
  · clear h
    go_enter Tryd.func93, Tryd.ntmps93
    go_wp2
    go_ret
    exact ⟨rfl, rfl⟩
  · have h1 : 0 ≤ i := by omega
    have hd : decide (i < n) = false := by simpa using (show n ≤ i by omega)
    clear h h0
    go_enter Tryd.func93, Tryd.ntmps93
    go_wp2
    go_ret
    exact ⟨rfl, rfl⟩
theorem first_not {p : Nat → Prop} {n : Nat} (h : ¬ ∀ k, k < n → p k) : ∃ J, J < n ∧ ¬ p J ∧ ∀ k, k < J → p k := by
  induction n with
  | zero => exact absurd (fun k hk => absurd hk (Nat.not_lt_zero _)) h
  | succ n ih =>
    by_cases h2 : ∀ k, k < n → p k
    · refine ⟨n, by omega, fun hp => h fun k hk => ?_, h2⟩
      by_cases e : k = n
      · subst e; exact hp
      · exact h2 k (by omega)
    · obtain ⟨J, h3, h4, h5⟩ := ih h2
      exact ⟨J, by omega, h4, h5⟩

def TabAt (w : World) (k : Nat) (E : Nat → Int × Int) (e : Ending) (w' : World) : Prop :=
  e = .returned (.map (some w.heap.size)) ∧ w'.ownsMap Tryd.prog 78 (plainElem (H := Unit) Tryd.prog 4) w.heap.size k (tab E k) ∧ Below w.heap.size w w'
theorem table_any (A : Option Addr) (k c : Nat) (E : Nat → Int × Int) (w : World) (h : Prs w A k E) (hk : k ≤ 2000) (hw : ∀ i, i < k → WfP (E i)) : Calls Tryd.prog 94 #[.slice A k c] w (TabAt w k E) := by
  have HH := Lib.hid h; clear h
  have HW := Lib.hid hw; clear hw
  have hmm := @run_makeMap Tryd.prog
  go_enter Tryd.func94, Tryd.ntmps94
  go_wp2_with fail
  go_loopw [9] (fun i wr => ∃ K : Nat, K ≤ k ∧ i = .int .i64 K ∧ wr.ownsMap Tryd.prog 78 (plainElem (H := Unit) Tryd.prog 4) w.heap.size K (tab E K) ∧ Below w.heap.size w wr) (fun i _ => k - (intOf i).toNat)
  case atStart => exact ⟨0, Nat.zero_le _, rfl, World.ownsMap_made _ _ _ _, (Below.refl _ _).alloc (Nat.le_refl _) _⟩
  case round =>
    obtain ⟨K, hK, rfl, hown, hB⟩ := hrel
    by_cases hlt : K < k
    · obtain ⟨b, off, rfl, hbl, hcz⟩ := (HH.out.below hB) (by omega)
      obtain ⟨x0, x1⟩ := hcz K hlt
      clear hcz
      have hkey := key_of (HW.out K hlt)
      obtain ⟨p, hp⟩ : ∃ p, p = E K := ⟨_, rfl⟩
      have HT : Hid (tab E (K + 1) = (tab E K).put (pkey p) (.lit (.bool true))) := by rw [hp]; exact rfl
      rw [← hp] at x0 x1 hkey
      clear hp
      obtain ⟨y1, y2⟩ := p
      replace x0 : wr.cell? ⟨b, off + K * 2, none⟩ = some (.int .i64 y1) := x0
      replace x1 : wr.cell? ⟨b, off + K * 2 + 1, none⟩ = some (.int .i64 y2) := x1
      replace hkey : keyOf Tryd.prog 78 (.agg #[.int .i64 y1, .int .i64 y2]) = some (pkey (y1, y2)) := hkey
      have hown1 := hown.alloc (.cells #[.int .i64 y1, .int .i64 y2] 78)
      have eP : (wr.alloc (.cells #[.int .i64 y1, .int .i64 y2] 78)).heap[wr.heap.size]? = some (.cells #[.int .i64 y1, .int .i64 y2] 78 (0, 0)) := heap_alloc_new wr _
      have u0 := cell_of_row _ _ 0 _ _ _ eP
      have u1 := cell_of_row _ _ 1 _ _ _ eP
      have BP := below_next hB (below_new wr (.cells #[.int .i64 y1, .int .i64 y2] 78))
      clear eP hown
      go_wp2_with (first
        | (at_mapUpdate; refine wpList_mapUpdate_own _ rfl _ _ _ 113 rfl 78 4 law47 Tryd.underlying113 (plainElem (H := Unit) Tryd.prog 4) w.heap.size K _ rfl hown1 (by unfold maxLen; omega) _ _ _ rfl rfl hkey _ [] (plainElem_bool Tryd.underlying4 true) ?_; intro w1 hown2 hgrow)
        | fail)
      go_roundw
      case rel => exact ⟨K + 1, by omega, by go_num, by rw [HT.out]; exact hown2, BP.grown hgrow BP.size (fun j hj => by cases hj; exact Nat.le_refl _)⟩
      case measure => simp [intOf]; omega
    · obtain rfl : K = k := by omega
      go_wp2_with fail
      go_ret
      exact ⟨rfl, hown, hB⟩
theorem valid_loop (N M : Int) (A : Option Addr) (k c : Nat) (E : Nat → Int × Int) (J : Nat) (v : Bool) (w : World) (h : Prs w A k E) (n0 : 0 ≤ N) (n1 : N ≤ 512) (m0 : 0 ≤ M) (m1 : M ≤ 512) (hk : k ≤ 2000) (hJ : J ≤ k) (hz : ∀ i, i < J → InE N M (E i))
    (hv : (J < k ∧ v = false ∧ ¬ InE N M (E J)) ∨ (J = k ∧ (((Maps.size (tab E k) : Nat) : Int) == (k : Int)) = v)) :
    Calls Tryd.prog 77 #[.int .i64 N, .int .i64 M, .slice A k c] w fun e w' => e = .returned (.bool v) ∧ Below w.heap.size w w' := by
  have HH := Lib.hid h; clear h
  have HZ := Lib.hid hz; clear hz
  have HV := Lib.hid hv; clear hv
  have d3 : decide (2000 < (k : Int)) = false := decide_eq_false (by omega)
  go_enter Tryd.func77, Tryd.ntmps77
  go_wp2_with fail
  refine (mSize_yes N _ n0 n1).mono ?_; rintro e w' ⟨rfl, rfl⟩
  go_wp2_with fail
  refine (mSize_yes M _ m0 m1).mono ?_; rintro e w' ⟨rfl, rfl⟩
  go_wp2_with fail
  go_loopw [24] (fun i wr => ∃ K : Nat, K ≤ J ∧ i = .int .i64 K ∧ Below w.heap.size w wr) (fun i _ => J - (intOf i).toNat)
  case atStart => exact ⟨0, Nat.zero_le _, rfl, Below.refl _ _⟩
  case round =>
    obtain ⟨K, hK, rfl, hB⟩ := hrel
    by_cases hlt : K < k
    · obtain ⟨b, off, rfl, hbl, hcz⟩ := (HH.out.below hB) (by omega)
      obtain ⟨x0, x1⟩ := hcz K hlt
      clear hcz
      have hg1 : K < J → InE N M (E K) := fun h => HZ.out K h
      have hg2 : ¬ K < J → v = false ∧ ¬ InE N M (E K) := fun h => by
        have e : J = K := by omega
        rcases HV.out with ⟨_, h1, h2⟩ | ⟨h1, _⟩
        · rw [e] at h2; exact ⟨h1, h2⟩
        · omega
      have HG1 := Lib.hid hg1
      have HG2 := Lib.hid hg2
      clear hg1 hg2
      obtain ⟨p, hp⟩ : ∃ p, p = E K := ⟨_, rfl⟩
      rw [← hp] at x0 x1 HG1 HG2
      clear hp
      obtain ⟨y1, y2⟩ := p
      replace x0 : wr.cell? ⟨b, off + K * 2, none⟩ = some (.int .i64 y1) := x0
      replace x1 : wr.cell? ⟨b, off + K * 2 + 1, none⟩ = some (.int .i64 y2) := x1
      have eP : (wr.alloc (.cells #[.int .i64 y1, .int .i64 y2] 78)).heap[wr.heap.size]? = some (.cells #[.int .i64 y1, .int .i64 y2] 78 (0, 0)) := heap_alloc_new wr _
      have u0 := cell_of_row _ _ 0 _ _ _ eP
      have u1 := cell_of_row _ _ 1 _ _ _ eP
      have BP := below_next hB (below_new wr (.cells #[.int .i64 y1, .int .i64 y2] 78))
      clear eP
      by_cases hKJ : K < J
      · obtain ⟨⟨g1, g2⟩, g3, g4⟩ := HG1.out hKJ
        replace g1 : 0 ≤ y1 := g1
        replace g2 : y1 < N := g2
        replace g3 : 0 ≤ y2 := g3
        replace g4 : y2 < M := g4
        go_wp2_with fail
        refine (isBelow_yes y1 N _ g1 g2).mono ?_; rintro e w' ⟨rfl, rfl⟩
        go_wp2_with fail
        refine (isBelow_yes y2 M _ g3 g4).mono ?_; rintro e w' ⟨rfl, rfl⟩
        go_wp2_with fail
        go_roundw
        case rel => exact ⟨K + 1, by omega, by go_num, BP⟩
        case measure => simp [intOf]; omega
      · obtain ⟨rfl, hn⟩ := HG2.out hKJ
        by_cases hg : 0 ≤ y1 ∧ y1 < N
        · have hb : Hid (y2 < 0 ∨ M ≤ y2) := by
            show _ ∨ _
            by_cases hh : 0 ≤ y2 ∧ y2 < M
            · exact absurd ⟨hg, hh⟩ hn
            · omega
          obtain ⟨g1, g2⟩ := hg
          clear hn
          go_wp2_with fail
          refine (isBelow_yes y1 N _ g1 g2).mono ?_; rintro e w' ⟨rfl, rfl⟩
          go_wp2_with fail
          refine (isBelow_no y2 M _ hb.out).mono ?_; rintro e w' ⟨rfl, rfl⟩
          go_wp2_with fail
          go_ret
          exact ⟨rfl, BP⟩
        · have hb : Hid (y1 < 0 ∨ N ≤ y1) := (by show _ ∨ _; omega)
          clear hn hg
          go_wp2_with fail
          refine (isBelow_no y1 N _ hb.out).mono ?_; rintro e w' ⟨rfl, rfl⟩
          go_wp2_with fail
          go_ret
          exact ⟨rfl, BP⟩
    · have hKJ : K = J := by omega
      have hJk : J = k := by omega
      have hsz : (((Maps.size (tab E k) : Nat) : Int) == (k : Int)) = v := by
        rcases HV.out with ⟨h1, _⟩ | ⟨_, h1⟩
        · omega
        · exact h1
      have HTB : Hid (Calls Tryd.prog 94 #[.slice A k c] wr (TabAt wr k E)) := Lib.hid (table_any A k c E wr (HH.out.below hB) hk (fun i hi => wf_of (HZ.out i (by omega)) n1 m1))
      clear HZ HV
      have hKk : K = k := by omega
      clear hKJ hJk
      subst hKk
      go_wp2_with fail
      refine (HTB.out).mono ?_; rintro e w2 ⟨rfl, hown, b2⟩
      go_wp2_with (first
        | (at_len; refine wpList_len_own _ rfl _ 113 rfl 78 4 Tryd.underlying113 (plainElem (H := Unit) Tryd.prog 4) wr.heap.size K _ rfl hown ?_)
        | fail)
      go_ret
      exact ⟨rfl, below_next hB b2⟩

end Go.Proofs.YtngpfondnampjaaDoor
