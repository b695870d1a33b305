/- The contract of the reference's twice. -/
import Derived.Test.YtmafnncpdccfdaaMRefB
namespace Go.Proofs.Ytmafnncpdccfdaa
open Go.RowKit
def code (p : Int × Int) : Nat := p.1.toNat * 513 + p.2.toNat
def sc (E : Nat → Int × Int) : Nat → Nat → Bool
  | 0 => fun _ => false
  | K + 1 => mark (sc E K) (code (E K))
theorem sc_iff (E : Nat → Int × Int) (v : Nat) : ∀ K, sc E K v = true ↔ ∃ i, i < K ∧ code (E i) = v
  | 0 => ⟨fun h => absurd h Bool.false_ne_true, fun ⟨_, h, _⟩ => absurd h (Nat.not_lt_zero _)⟩
  | K + 1 => by
    show mark (sc E K) (code (E K)) v = true ↔ _
    rw [mark_or, sc_iff E v K]
    constructor
    · rintro (⟨i, h1, h2⟩ | h)
      · exact ⟨i, by omega, h2⟩
      · exact ⟨K, Nat.lt_succ_self K, h.symm⟩
    · rintro ⟨i, h1, h2⟩
      by_cases e : i = K
      · subst e; exact .inr h2.symm
      · exact .inl ⟨i, by omega, h2⟩
theorem code_inj {N M : Int} {p q : Int × Int} (hp : InE N M p) (hq : InE N M q) (hM : M ≤ 512) (h : code p = code q) : p = q := by
  obtain ⟨⟨a1, a2⟩, a3, a4⟩ := hp
  obtain ⟨⟨b1, b2⟩, b3, b4⟩ := hq
  unfold code at h
  exact Prod.ext (by omega) (by omega)
theorem twice_at (N M : Int) (A : Option Addr) (k c : Nat) (E : Nat → Int × Int) (J : Nat) (v : Bool) (w : World) (h : Prs w A k E) (hN : N ≤ 512) (hM : M ≤ 512) (hk : k ≤ 2000) (hr : ∀ i, i < k → InE N M (E i)) (_hJ : J ≤ k)
    (hz : ∀ i, i < J → sc E i (code (E i)) = false) (hv : (v = false ∧ J = k) ∨ (v = true ∧ J < k ∧ sc E J (code (E J)) = true)) :
    Calls Try.prog 35 #[.slice A k c] w fun e w' => e = .returned (.bool v) ∧ Below w.heap.size w w' := by
  obtain ⟨o, ho⟩ : ∃ o, o = Obj.cells (madeCells #[.bool false] 263169) 4 := ⟨_, rfl⟩
  have mk : ∀ w, (Instr.makeSlice 43 (.int .i64 263169) (.int .i64 263169)).run Try.prog w = .ok (.slice (some ⟨w.heap.size, 0, none⟩) 263169 263169) (w.alloc o) := by rw [ho]; exact make_bools 263169 (by omega)
  have b0 := below_new w o
  have r0 : (w.alloc o).rowIs w.heap.size 4 263169 (bvals (sc E 0)) := by
    have := row_of_made (w := w.alloc o) (g := w.heap.size) (n := 263169) (z := .bool false) (t := 4) (by rw [ho]; exact heap_alloc_new w _)
    exact this
  have HZ := Lib.hid hz; clear hz
  have HV := Lib.hid hv; clear hv
  have HR := Lib.hid hr; clear hr
  have HH := Lib.hid h; clear h
  clear ho
  go_enter Try.func35, Try.ntmps35
  go_wp2_with fail
  clear mk
  go_loopw [4] (fun i wr => ∃ K : Nat, K ≤ J ∧ i = .int .i64 K ∧ wr.rowIs w.heap.size 4 263169 (bvals (sc E K)) ∧ Below w.heap.size w wr) (fun i _ => J - (intOf i).toNat)
  case atStart => exact ⟨0, Nat.zero_le _, rfl, r0, b0⟩
  case round =>
    clear r0 b0
    obtain ⟨K, hK, rfl, hRow, hB⟩ := hrel
    by_cases hlt : K < k
    · obtain ⟨b, off, rfl, hbl, hcz⟩ := (HH.out.below hB) (by omega)
      obtain ⟨x0, x1⟩ := hcz K hlt
      clear hcz
      obtain ⟨⟨g1, g2⟩, g3, g4⟩ := HR.out K hlt
      have hco : code (E K) = (E K).1.toNat * 513 + (E K).2.toNat := rfl
      obtain ⟨a, ha⟩ := Int.eq_ofNat_of_zero_le g1
      obtain ⟨x, hx⟩ := Int.eq_ofNat_of_zero_le g3
      have ha2 : a ≤ 511 := by omega
      have hx2 : x ≤ 511 := by omega
      rw [ha] at x0
      rw [hx] at x1
      have hco2 : code (E K) = a * 513 + x := by rw [hco, ha, hx]; rfl
      have hs : Hid (sc E (K + 1) = mark (sc E K) (a * 513 + x)) := by show mark _ _ = _; rw [hco2]
      have hKJ : K < J → sc E K (a * 513 + x) = false := fun h => by rw [← hco2]; exact HZ.out K h
      have hKJ2 : ¬ K < J → v = true ∧ sc E K (a * 513 + x) = true := fun h => by
        have e : J = K := by omega
        rcases HV.out with ⟨_, h2⟩ | ⟨h1, _, h2⟩
        · omega
        · rw [e, hco2] at h2; exact ⟨h1, h2⟩
      have H1 := Lib.hid hKJ
      have H2 := Lib.hid hKJ2
      clear ha hx g1 g2 g3 g4 hco hco2 hKJ hKJ2
      have hwrap : IntKind.i64.wrap ((K : Int) + 1) = (K : Int) + 1 := IntWalk.i64_in _ (by omega)
      have hw1 : IntKind.i64.wrap ((a : Int) * 513) = (a : Int) * 513 := IntWalk.i64_in _ (by omega)
      have hw2 : IntKind.i64.wrap ((a : Int) * 513 + (x : Int)) = (a : Int) * 513 + (x : Int) := IntWalk.i64_in _ (by omega)
      go_upto_region 5 with fail
      go_quiet (fail)
      have hRow2 : (wr.drewN nq).rowIs w.heap.size 4 263169 (bvals (sc E K)) := hRow.of_block rfl
      have hB2 := below_drewN hB nq
      clear hRow hB x0 x1 hbl
      generalize wr.drewN nq = w2 at *
      obtain ⟨d, hd⟩ : ∃ d, d = a * 513 + x := ⟨_, rfl⟩
      have hdd : (a : Int) * 513 + (x : Int) = (d : Int) := by omega
      rw [← hd] at hs H1 H2
      rw [hdd] at *
      have hdl : d < 263169 := by omega
      clear hd hdd hw1 hw2
      have y0 : w2.cell? ⟨w.heap.size, d, none⟩ = some (.bool (sc E K d)) := hRow2.cell hdl
      have z0 := hRow2.frozen d
      by_cases hKJ : K < J
      · rw [H1.out hKJ] at y0
        have hnew := row_mark (k := d) hRow2
        have hBn := hB2.setCell (p := ⟨w.heap.size, d, none⟩) (by exact Nat.le_refl _) (.bool true)
        clear hRow2 hB2
        go_wp2_with fail
        go_roundw
        case rel => exact ⟨K + 1, hKJ, by go_num, by rw [hs.out]; exact hnew, hBn⟩
        case measure => simp [intOf]; omega
      · obtain ⟨rfl, h3⟩ := H2.out hKJ
        rw [h3] at y0
        go_wp2_with fail
        go_ret
        exact ⟨rfl, hB2⟩
    · have hv2 : v = false := by
        rcases HV.out with ⟨h1, _⟩ | ⟨_, h1, _⟩
        · exact h1
        · omega
      subst hv2
      go_wp2_with fail
      go_ret
      exact ⟨rfl, hB⟩
theorem twice_any (N M : Int) (A : Option Addr) (k c : Nat) (E : Nat → Int × Int) (v : Bool) (w : World) (h : Prs w A k E) (hN : N ≤ 512) (hM : M ≤ 512) (hk : k ≤ 2000) (hr : ∀ i, i < k → InE N M (E i))
    (hv : v = false ↔ ∀ i j, i < j → j < k → E i ≠ E j) : Calls Try.prog 35 #[.slice A k c] w fun e w' => e = .returned (.bool v) ∧ Below w.heap.size w w' := by
  by_cases hd : ∀ K, K < k → sc E K (code (E K)) = false
  · have hv2 : v = false := hv.2 fun i j hij hj e => by
      have := hd j hj
      rw [(sc_iff E _ j).2 ⟨i, hij, by rw [e]⟩] at this
      cases this
    exact twice_at N M A k c E k v w h hN hM hk hr (Nat.le_refl _) hd (.inl ⟨hv2, rfl⟩)
  · obtain ⟨J, h1, h2, h3⟩ := first_not hd
    have h2' : sc E J (code (E J)) = true := by
      cases hs : sc E J (code (E J)) with
      | true => rfl
      | false => exact absurd hs h2
    have hv2 : v = true := by
      cases v with
      | true => rfl
      | false =>
        obtain ⟨i, hi, he⟩ := (sc_iff E _ J).1 h2'
        exact absurd (code_inj (hr i (by omega)) (hr J h1) hM he) (hv.1 rfl i J hi h1)
    exact twice_at N M A k c E J v w h hN hM hk hr (by omega) h3 (.inr ⟨hv2, h1, h2'⟩)
/- Valid, on sizes in range -/
theorem rValid_at (N M : Int) (A : Option Addr) (k c : Nat) (E : Nat → Int × Int) (J : Nat) (v : Bool) (w : World) (h : Prs w A k E) (n0 : 0 ≤ N) (hN : N ≤ 512) (m0 : 0 ≤ M) (hM : M ≤ 512) (hk : k ≤ 2000) (hJ : J ≤ k) (hz : ∀ i, i < J → InE N M (E i))
    (hv : (J < k ∧ v = false ∧ ¬ InE N M (E J)) ∨ (J = k ∧ (v = true ↔ ∀ i j, i < j → j < k → E i ≠ E j))) :
    Calls Try.prog 13 #[.int .i64 N, .int .i64 M, .slice A k c] w fun e w' => e = .returned (.bool v) ∧ Below w.heap.size w w' := by
  have HZ := Lib.hid hz; clear hz
  have HV := Lib.hid hv; clear hv
  have HH := Lib.hid h; clear h
  have d1 : decide (N < 0) = false := decide_eq_false (by omega)
  have d2 : decide (512 < N) = false := decide_eq_false (by omega)
  have d3 : decide (M < 0) = false := decide_eq_false (by omega)
  have d4 : decide (512 < M) = false := decide_eq_false (by omega)
  have d5 : decide (2000 < (k : Int)) = false := decide_eq_false (by omega)
  go_enter Try.func13, Try.ntmps13
  go_wp2_with fail
  go_loopw [7] (fun i wr => ∃ K : Nat, K ≤ J ∧ i = .int .i64 K ∧ wr = w) (fun i _ => J - (intOf i).toNat)
  case atStart => exact ⟨0, Nat.zero_le _, rfl, rfl⟩
  case round =>
    clear d1 d2 d3 d4 d5
    obtain ⟨K, hK, rfl, rfl⟩ := hrel
    by_cases hlt : K < k
    · obtain ⟨b, off, rfl, hbl, hcz⟩ := HH.out (by omega)
      obtain ⟨x0, x1⟩ := hcz K hlt
      clear hcz
      have hwrap : IntKind.i64.wrap ((K : Int) + 1) = (K : Int) + 1 := IntWalk.i64_in _ (by omega)
      have hg1 : K < J → InE N M (E K) := fun h => HZ.out K h
      have hg2 : ¬ K < J → v = false ∧ ¬ InE N M (E K) := fun h => by
        have e : J = K := by omega
        rcases HV.out with ⟨_, h1, h2⟩ | ⟨h1, _⟩
        · rw [e] at h2; exact ⟨h1, h2⟩
        · omega
      have HG1 := Lib.hid hg1
      have HG2 := Lib.hid hg2
      clear hg1 hg2
      obtain ⟨p, hp⟩ : ∃ p, p = E K := ⟨_, rfl⟩
      rw [← hp] at x0 x1 HG1 HG2
      clear hp
      obtain ⟨y1, y2⟩ := p
      replace x0 : wr.cell? ⟨b, off + K * 2, none⟩ = some (.int .i64 y1) := x0
      replace x1 : wr.cell? ⟨b, off + K * 2 + 1, none⟩ = some (.int .i64 y2) := x1
      by_cases hKJ : K < J
      · obtain ⟨⟨g1, g2⟩, g3, g4⟩ := HG1.out hKJ
        replace g1 : 0 ≤ y1 := g1
        replace g2 : y1 < N := g2
        replace g3 : 0 ≤ y2 := g3
        replace g4 : y2 < M := g4
        have q1 : decide (y1 < 0) = false := decide_eq_false (by omega)
        have q2 : decide (N ≤ y1) = false := decide_eq_false (by omega)
        have q3 : decide (y2 < 0) = false := decide_eq_false (by omega)
        have q4 : decide (M ≤ y2) = false := decide_eq_false (by omega)
        go_wp2_with fail
        go_roundw
        case rel => exact ⟨K + 1, by omega, by go_num, trivial⟩
        case measure => simp [intOf]; omega
      · obtain ⟨rfl, hn⟩ := HG2.out hKJ
        by_cases c1 : y1 < 0
        · have q1 : decide (y1 < 0) = true := decide_eq_true c1
          clear hn
          go_wp2_with fail
          go_ret
          exact ⟨rfl, Below.refl _ _⟩
        · have q1 : decide (y1 < 0) = false := decide_eq_false c1
          by_cases c2 : N ≤ y1
          · have q2 : decide (N ≤ y1) = true := decide_eq_true c2
            clear hn
            go_wp2_with fail
            go_ret
            exact ⟨rfl, Below.refl _ _⟩
          · have q2 : decide (N ≤ y1) = false := decide_eq_false c2
            by_cases c3 : y2 < 0
            · have q3 : decide (y2 < 0) = true := decide_eq_true c3
              clear hn
              go_wp2_with fail
              go_ret
              exact ⟨rfl, Below.refl _ _⟩
            · have q3 : decide (y2 < 0) = false := decide_eq_false c3
              have c4 : M ≤ y2 := by
                by_cases c4 : M ≤ y2
                · exact c4
                · exact absurd (show InE N M (y1, y2) from ⟨⟨by show 0 ≤ y1; omega, by show y1 < N; omega⟩, by show 0 ≤ y2; omega, by show y2 < M; omega⟩) hn
              have q4 : decide (M ≤ y2) = true := decide_eq_true c4
              clear hn
              go_wp2_with fail
              go_ret
              exact ⟨rfl, Below.refl _ _⟩
    · have hJk : J = k := by omega
      have hKk : K = k := by omega
      have hiff : v = true ↔ ∀ i j, i < j → j < k → E i ≠ E j := by
        rcases HV.out with ⟨h1, _⟩ | ⟨_, h1⟩
        · omega
        · exact h1
      have HT := Lib.hid (twice_any N M A k c E (!v) wr HH.out hN hM hk (fun i hi => HZ.out i (by omega)) (by cases v <;> simpa using hiff))
      clear hiff hJk hKk HZ HV
      go_wp2_with fail
      refine HT.out.mono ?_; rintro e w2 ⟨rfl, b2⟩
      cases v
      all_goals
        go_wp2_with fail
        go_ret
        exact ⟨rfl, b2⟩
theorem rValid_yes (N M : Int) (A : Option Addr) (k c : Nat) (E : Nat → Int × Int) (w : World) (h : Prs w A k E) (hv : VG N M k E) :
    Calls Try.prog 13 #[.int .i64 N, .int .i64 M, .slice A k c] w fun e w' => e = .returned (.bool true) ∧ Below w.heap.size w w' :=
  rValid_at N M A k c E k true w h hv.n0 hv.n1 hv.m0 hv.m1 hv.k2 (Nat.le_refl _) hv.ran (.inr ⟨rfl, fun _ => hv.one, fun _ => rfl⟩)
theorem rValid_no (N M : Int) (A : Option Addr) (k c : Nat) (E : Nat → Int × Int) (w : World) (h : Prs w A k E) (hv : ¬ VG N M k E) :
    Calls Try.prog 13 #[.int .i64 N, .int .i64 M, .slice A k c] w fun e w' => e = .returned (.bool false) ∧ Below w.heap.size w w' := by
  by_cases c1 : N < 0
  · have d1 : decide (N < 0) = true := decide_eq_true c1
    clear hv h
    go_enter Try.func13, Try.ntmps13
    go_wp2_with fail
    go_ret
    exact ⟨rfl, Below.refl _ _⟩
  · have d1 : decide (N < 0) = false := decide_eq_false c1
    by_cases c2 : 512 < N
    · have d2 : decide (512 < N) = true := decide_eq_true c2
      clear hv h
      go_enter Try.func13, Try.ntmps13
      go_wp2_with fail
      go_ret
      exact ⟨rfl, Below.refl _ _⟩
    · have d2 : decide (512 < N) = false := decide_eq_false c2
      by_cases c3 : M < 0
      · have d3 : decide (M < 0) = true := decide_eq_true c3
        clear hv h
        go_enter Try.func13, Try.ntmps13
        go_wp2_with fail
        go_ret
        exact ⟨rfl, Below.refl _ _⟩
      · have d3 : decide (M < 0) = false := decide_eq_false c3
        by_cases c4 : 512 < M
        · have d4 : decide (512 < M) = true := decide_eq_true c4
          clear hv h
          go_enter Try.func13, Try.ntmps13
          go_wp2_with fail
          go_ret
          exact ⟨rfl, Below.refl _ _⟩
        · have d4 : decide (512 < M) = false := decide_eq_false c4
          by_cases c5 : 2000 < k
          · have d5 : decide (2000 < (k : Int)) = true := decide_eq_true (by omega)
            clear hv h
            go_enter Try.func13, Try.ntmps13
            go_wp2_with fail
            go_ret
            exact ⟨rfl, Below.refl _ _⟩
          · clear d1 d2 d3 d4
            by_cases hr : ∀ i, i < k → InE N M (E i)
            · refine rValid_at N M A k c E k false w h (by omega) (by omega) (by omega) (by omega) (by omega) (Nat.le_refl _) hr (.inr ⟨rfl, fun h => (by cases h), fun h1 => absurd ⟨by omega, by omega, by omega, by omega, by omega, hr, h1⟩ hv⟩)
            · obtain ⟨J, h1, h2, h3⟩ := first_not hr
              exact rValid_at N M A k c E J false w h (by omega) (by omega) (by omega) (by omega) (by omega) (by omega) h3 (.inl ⟨h1, rfl, h2⟩)
end Go.Proofs.Ytmafnncpdccfdaa
