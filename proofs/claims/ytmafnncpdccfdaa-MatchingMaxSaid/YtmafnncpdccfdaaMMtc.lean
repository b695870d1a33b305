/- A look-up in a table of truths of the call's own; the contract of matched. -/
import Derived.Test.YtmafnncpdccfdaaMTop
namespace Go.Proofs.Ytmafnncpdccfdaa
open Go.RowKit Go.Maps
theorem plain_bool {H : Type} {P : Program} {e : TypeId} {v : Value} {x : DataW H × List MemPlace} (he : P.underlying e = some .bool) (h : plainElem (H := H) P e v = some x) : ∃ c, v = .bool c ∧ x = (.lit (.bool c), []) := by
  unfold plainElem at h
  rw [he] at h
  cases v <;> simp at h
  exact ⟨_, rfl, h.symm⟩
theorem look_bool {H : Type} {P : Program} (w : World) {ops : Array Oper} {rest : List Oper} {o : Oper} {a : Act} {Q : Exit → Act → World → Prop}
    (hg : o.guard = none) (m x : Operand) (t : TypeId) (hop : o.op = Op.lookup t m x false)
    (k e : TypeId) (K : Keyed P k) (ht : P.underlying t = some (.map k e)) (he : P.underlying e = some .bool) (hz : (zeroValue e).run P w = .ok (.bool false) w) (b n : Nat) (D : DataW H)
    (hm : a.eval m = .map (some b)) (hown : w.ownsMap P k (plainElem P e) b n D) (key : Value) (kl : Lit) (hx : a.eval x = key) (hkey : keyOf P k key = some kl) (c : Bool) (hat : D.atKey kl (.lit (.bool false)) = .lit (.bool c))
    (hK : wpList P ops Q rest (a.put o.dst (.bool c)) w) :
    wpList P ops Q (o :: rest) a w := by
  refine wpList_plain hg fun K' hK' => ?_
  obtain ⟨v, ps, hrun, hv⟩ := hown.lookup K ht hz (plainElem_bool he false) hkey
  obtain ⟨d, rfl, hd⟩ := plain_bool he hv
  have e1 : d = c := by
    have h1 : D.atKey kl (.lit (.bool false)) = .lit (.bool d) := congrArg Prod.fst hd
    rw [hat] at h1
    simpa using h1.symm
  subst e1
  unfold Oper.wp
  simp [execOp, hop, hm, hx, hrun, Result.andThen]
  exact hK' _ _ hK
theorem zero4 (w : World) : (zeroValue 4).run Try.prog w = .ok (.bool false) w := by
  have h : Try.t4.zero = some (.bool false) := by kernel_rfl
  simp [zeroValue, h, go_sem]
theorem tab_at_yes (E : Nat → Int × Int) (p : Int × Int) (z : DataW Unit) : ∀ K, (∃ i, i < K ∧ pkey (E i) = pkey p) → (tab E K).atKey (pkey p) z = .lit (.bool true)
  | 0, h => by obtain ⟨_, h, _⟩ := h; omega
  | K + 1, h => by
    show ((tab E K).put (pkey (E K)) (.lit (.bool true))).atKey (pkey p) z = _
    by_cases e : pkey p = pkey (E K)
    · rw [e]; exact atKey_put_same (tab_tidy E K).isMap (pkey_lit _) _ _
    · rw [atKey_put_other e]
      obtain ⟨i, hi, h2⟩ := h
      have : i ≠ K := fun h => e (by rw [← h2, h])
      exact tab_at_yes E p z K ⟨i, by omega, h2⟩
theorem tab_at_no (E : Nat → Int × Int) (p : Int × Int) (z : DataW Unit) (K : Nat) (h : ¬ ∃ i, i < K ∧ pkey (E i) = pkey p) : (tab E K).atKey (pkey p) z = z := by
  refine atKey_of_not_has ?_ z
  cases e : Maps.has (tab E K) (pkey p) with
  | false => rfl
  | true => exact absurd ((tab_has E _ K).1 e) h
/- matchings -/
def MatP (E : Nat → Int × Int) (k : Nat) (Z : Nat → Int × Int) (p : Nat) : Prop := (∀ i, i < p → ∃ e, e < k ∧ E e = Z i) ∧ ∀ i j, i < j → j < p → (Z i).1 ≠ (Z j).1 ∧ (Z i).2 ≠ (Z j).2
def mL (Z : Nat → Int × Int) : Nat → Nat → Int
  | 0 => fun _ => -1
  | K + 1 => put (mL Z K) (Z K).1.toNat (((Z K).2.toNat : Nat) : Int)
def mR (Z : Nat → Int × Int) : Nat → Nat → Int
  | 0 => fun _ => -1
  | K + 1 => put (mR Z K) (Z K).2.toNat (((Z K).1.toNat : Nat) : Int)
theorem mL_has (Z : Nat → Int × Int) (a : Nat) : ∀ K, mL Z K a ≠ -1 ↔ ∃ i, i < K ∧ (Z i).1.toNat = a
  | 0 => ⟨fun h => absurd rfl h, fun ⟨_, h, _⟩ => absurd h (Nat.not_lt_zero _)⟩
  | K + 1 => by
    show put (mL Z K) (Z K).1.toNat (((Z K).2.toNat : Nat) : Int) a ≠ -1 ↔ _
    by_cases e : a = (Z K).1.toNat
    · rw [e, put_same]
      exact ⟨fun _ => ⟨K, Nat.lt_succ_self K, rfl⟩, fun _ => by omega⟩
    · rw [put_ne _ _ e, mL_has Z a K]
      exact ⟨fun ⟨i, h1, h2⟩ => ⟨i, by omega, h2⟩, fun ⟨i, h1, h2⟩ => ⟨i, by have : i ≠ K := fun h => e (by rw [← h2, h]); omega, h2⟩⟩
theorem mR_has (Z : Nat → Int × Int) (a : Nat) : ∀ K, mR Z K a ≠ -1 ↔ ∃ i, i < K ∧ (Z i).2.toNat = a
  | 0 => ⟨fun h => absurd rfl h, fun ⟨_, h, _⟩ => absurd h (Nat.not_lt_zero _)⟩
  | K + 1 => by
    show put (mR Z K) (Z K).2.toNat (((Z K).1.toNat : Nat) : Int) a ≠ -1 ↔ _
    by_cases e : a = (Z K).2.toNat
    · rw [e, put_same]
      exact ⟨fun _ => ⟨K, Nat.lt_succ_self K, rfl⟩, fun _ => by omega⟩
    · rw [put_ne _ _ e, mR_has Z a K]
      exact ⟨fun ⟨i, h1, h2⟩ => ⟨i, by omega, h2⟩, fun ⟨i, h1, h2⟩ => ⟨i, by have : i ≠ K := fun h => e (by rw [← h2, h]); omega, h2⟩⟩
section
variable {n m k : Nat} {E Z : Nat → Int × Int}
theorem MatP.mono {p q : Nat} (h : MatP E k Z p) (hq : q ≤ p) : MatP E k Z q := ⟨fun i hi => h.1 i (by omega), fun i j h1 h2 => h.2 i j h1 (by omega)⟩
theorem MatP.in_ (hv : VG n m k E) {p i : Nat} (h : MatP E k Z p) (hi : i < p) : InE n m (Z i) := by
  obtain ⟨e, he, h2⟩ := h.1 i hi
  rw [← h2]; exact hv.ran e he
theorem mat_next {K : Nat} (h : MatP E k Z K) {a b : Nat} (h1 : Z K = ((a : Int), (b : Int))) (he : ∃ e, e < k ∧ E e = Z K) (hl : mL Z K a = -1) (hr : mR Z K b = -1) : MatP E k Z (K + 1) := by
  refine ⟨fun i hi => ?_, fun i j hij hj => ?_⟩
  · by_cases e : i = K
    · subst e; exact he
    · exact h.1 i (by omega)
  · by_cases e : j = K
    · subst e
      rw [h1]
      refine ⟨fun e => ?_, fun e => ?_⟩
      · exact (mL_has Z a j).2 ⟨i, hij, by rw [e]; rfl⟩ hl
      · exact (mR_has Z b j).2 ⟨i, hij, by rw [e]; rfl⟩ hr
    · exact h.2 i j hij (by omega)
theorem mat_no_e {K p : Nat} (hK : K < p) (he : ¬ ∃ e, e < k ∧ E e = Z K) : ¬ MatP E k Z p := fun h => he (h.1 K hK)
theorem mat_no_l (hv : VG n m k E) {K p a b : Nat} (hK : K < p) (h1 : Z K = ((a : Int), (b : Int))) (hl : mL Z K a ≠ -1) : ¬ MatP E k Z p := fun h => by
  obtain ⟨i, hi, e⟩ := (mL_has Z a K).1 hl
  have h2 := (h.2 i K hi hK).1
  have h3 := h.in_ hv (show i < p by omega)
  rw [h1] at h2
  replace h2 : (Z i).1 ≠ (a : Int) := h2
  have := h3.1.1
  omega
theorem mat_no_r (hv : VG n m k E) {K p a b : Nat} (hK : K < p) (h1 : Z K = ((a : Int), (b : Int))) (hl : mR Z K b ≠ -1) : ¬ MatP E k Z p := fun h => by
  obtain ⟨i, hi, e⟩ := (mR_has Z b K).1 hl
  have h2 := (h.2 i K hi hK).2
  have h3 := h.in_ hv (show i < p by omega)
  rw [h1] at h2
  replace h2 : (Z i).2 ≠ (b : Int) := h2
  have := h3.2.1
  omega
end
theorem owns_keep {w w' : World} {k : TypeId} {R : Value → Option (DataW Unit × List MemPlace)} {b n : Nat} {D : DataW Unit} (h : w.ownsMap Try.prog k R b n D) (hk : w'.heap[b]? = w.heap[b]?) : w'.ownsMap Try.prog k R b n D := by
  obtain ⟨es, clock, hb, hr⟩ := h
  exact ⟨es, clock, hk.trans hb, hr⟩
theorem owns_lt {w : World} {k : TypeId} {R : Value → Option (DataW Unit × List MemPlace)} {b n : Nat} {D : DataW Unit} (h : w.ownsMap Try.prog k R b n D) : b < w.heap.size := by
  obtain ⟨es, clock, hb, hr⟩ := h
  exact lt_of_block hb
theorem ga_match {lim base : Nat} {w w' : World} {n m gN gL gR : Nat} {nb : Nat → List Nat} {V : Nat → Value} {L R L' R' : Nat → Int} (h : GA lim base w n m gN gL gR nb V L R) (hl : w'.rowIs gL 3 n (ivals L')) (hr : w'.rowIs gR 3 m (ivals R')) (ha : Apart gL gR w w') : GA lim base w' n m gN gL gR nb V L' R' := by
  have hhi := h.hi
  exact ⟨h.tab.keep (ha gN h.tab.rows.lt h.ne.1 h.ne.2.1) (fun b h1 h2 => ha b h2 (by omega) (by omega)), hl, hr, h.lo, h.hi, h.ne⟩
theorem GA.put_far {q lim base : Nat} {w : World} {n m gN gL gR : Nat} {nb : Nat → List Nat} {V : Nat → Value} {L R : Nat → Int} (h : GA lim base w n m gN gL gR nb V L R) (hq : q < lim) (x0 x1 x2 : Value) :
    GA lim base (((w.setCell ⟨q, 0, none⟩ x0).setCell ⟨q, 1, none⟩ x1).setCell ⟨q, 2, none⟩ x2) n m gN gL gR nb V L R := by
  have hlo := h.lo
  have hhi := h.hi
  have far : ∀ b, b ≠ q → (((w.setCell ⟨q, 0, none⟩ x0).setCell ⟨q, 1, none⟩ x1).setCell ⟨q, 2, none⟩ x2).heap[b]? = w.heap[b]? := fun b hb => by
    rw [Below.heap_setCell _ _ _ _ (by exact hb), Below.heap_setCell _ _ _ _ (by exact hb), Below.heap_setCell _ _ _ _ (by exact hb)]
  exact ⟨h.tab.keep (far gN (by omega)) (fun b h1 _ => far b (by omega)), h.l.of_block (far gL (by omega)), h.r.of_block (far gR (by omega)), h.lo, h.hi, h.ne⟩
def MtYes (w : World) (n m k p : Nat) (E Z : Nat → Int × Int) (e : Ending) (w' : World) : Prop :=
  ∃ lim base gN gL gR V, w.heap.size < lim ∧ e = .returned (.tuple #[.agg #[.slice (some ⟨gN, 0, none⟩) n n, .slice (some ⟨gL, 0, none⟩) n n, .slice (some ⟨gR, 0, none⟩) m m], .bool true]) ∧ GA lim base w' n m gN gL gR (nbs E k) V (mL Z p) (mR Z p) ∧ Below w.heap.size w w'
def MtNo (w : World) (e : Ending) (w' : World) : Prop := e = .returned (.tuple #[.agg #[.slice none 0 0, .slice none 0 0, .slice none 0 0], .bool false]) ∧ Below w.heap.size w w'
def MtEnd (w : World) (n m k p : Nat) (E Z : Nat → Int × Int) (e : Ending) (w' : World) : Prop :=
  (MatP E k Z p ∧ MtYes w n m k p E Z e w') ∨ (¬ MatP E k Z p ∧ MtNo w e w')
set_option maxRecDepth 100000 in
set_option maxHeartbeats 4000000 in
theorem matched_any (n m k c p cp : Nat) (A B : Option Addr) (E Z : Nat → Int × Int) (w : World) (h : Prs w A k E) (hv : VG n m k E) (hz : Prs w B p Z) (hwf : ∀ i, i < p → WfP (Z i)) (hp : p ≤ 9000000000000000000) :
    Calls Try.prog 43 #[.int .i64 n, .int .i64 m, .slice A k c, .slice B p cp] w (MtEnd w n m k p E Z) := by
  have hn := hv.n1
  have hm := hv.m1
  obtain ⟨w1, hw1⟩ : ∃ w1, w1 = w.alloc (.cells #[.slice none 0 0, .slice none 0 0, .slice none 0 0] 55) := ⟨_, rfl⟩
  have hs1 : w1.heap.size = w.heap.size + 1 := by rw [hw1]; simp
  have b1 : Below w.heap.size w w1 := by rw [hw1]; exact below_new _ _
  have e1 : w1.heap[w.heap.size]? = some (.cells #[.slice none 0 0, .slice none 0 0, .slice none 0 0] 55 (0, 0)) := by rw [hw1]; exact heap_alloc_new _ _
  have HH := Lib.hid h
  have HT := Lib.hid (table_any A k c E w1 (h.below b1) hv.k2 (fun i hi => hv.wf hi))
  have HZ := Lib.hid hz
  have HWF := Lib.hid hwf
  have HW := Lib.hid hw1
  have HV := Lib.hid hv
  clear h hz hwf hw1 hv
  go_enter Try.func43, Try.ntmps43
  go_upto_region 1 with fail
  rw [← HW.out]
  clear HW
  go_wp2_with fail
  refine HT.out.mono ?_; rintro e w2 ⟨rfl, hown, b2⟩
  have B2 := below_next b1 b2
  have e2 := (b2.block _ (lt_of_block e1)).trans e1
  have HU := Lib.hid (unmatched_any n m k c A E w2 (HH.out.below B2) HV.out)
  have hml := owns_lt hown
  clear HT b1 e1
  obtain ⟨mb, hmb⟩ : ∃ mb, mb = w.heap.size + 1 := ⟨_, rfl⟩
  rw [hs1, ← hmb] at hown hml ⊢
  clear hs1 b2 hmb
  go_wp2_with fail
  refine HU.out.mono ?_; rintro e w3 ⟨gN, gL, gR, V, rfl, hG⟩
  have hlo := hG.lo
  have hhi := hG.hi
  have hGA : GA w2.heap.size (w2.heap.size + 5) w3 n m gN gL gR (nbs E k) V (mL Z 0) (mR Z 0) := ⟨hG.tab, hG.l, hG.r, hG.lo, hG.hi, hG.ne⟩
  have B3 := below_next B2 hG.bl
  have e3 := (hG.bl.block _ (lt_of_block e2)).trans e2
  have hown3 := owns_keep hown (hG.bl.block _ hml)
  have hml3 := owns_lt hown3
  have hq2 := lt_of_block e2
  clear HU hown hG e2 B2
  obtain ⟨lim, hlim⟩ : ∃ lim, lim = w2.heap.size := ⟨_, rfl⟩
  have hqlim : w.heap.size < lim := by omega
  have hmlim : mb < lim := by omega
  rw [← hlim] at hGA hlo hhi
  clear hlim hml hq2
  obtain ⟨o7, ho7⟩ : ∃ o, o = Obj.cells #[.slice (some ⟨gN, 0, none⟩) n n, .slice (some ⟨gL, 0, none⟩) n n, .slice (some ⟨gR, 0, none⟩) m m] 55 := ⟨_, rfl⟩
  have e7 : (w3.alloc o7).heap[w3.heap.size]? = some o7 := heap_alloc_new _ _
  have b4 := below_new w3 o7
  have hGB := hGA.below b4
  have B4 := below_next B3 b4
  have e4 := (b4.block _ (lt_of_block e3)).trans e3
  have hown4 := owns_keep hown3 (b4.block _ hml3)
  have n7 : w3.heap.size ≠ gL ∧ w3.heap.size ≠ gR := ⟨by have := hGA.l.lt; omega, by have := hGA.r.lt; omega⟩
  rw [ho7] at e7 hGB B4 e4 hown4
  obtain ⟨p7, hp7⟩ : ∃ p7, p7 = w3.heap.size := ⟨_, rfl⟩
  have hp7w : w.heap.size < p7 := by rw [hp7]; exact lt_of_block e3
  clear ho7 b4 e3 hown3 hml3 hGA B3
  go_upto_region 3 with fail
  rw [← hp7] at e7 n7 ⊢
  generalize w3.alloc (.cells #[.slice (some ⟨gN, 0, none⟩) n n, .slice (some ⟨gL, 0, none⟩) n n, .slice (some ⟨gR, 0, none⟩) m m] 55) = w4 at *
  clear hp7
  go_wp2_with fail
  go_loopw [22] (fun i wr => ∃ K : Nat, K ≤ p ∧ i = .int .i64 K ∧ MatP E k Z K ∧ GA lim (lim + 5) wr n m gN gL gR (nbs E k) V (mL Z K) (mR Z K) ∧
      wr.heap[p7]? = some (.cells #[.slice (some ⟨gN, 0, none⟩) n n, .slice (some ⟨gL, 0, none⟩) n n, .slice (some ⟨gR, 0, none⟩) m m] 55 (0, 0)) ∧
      wr.heap[w.heap.size]? = some (.cells #[.slice none 0 0, .slice none 0 0, .slice none 0 0] 55 (0, 0)) ∧ wr.ownsMap Try.prog 47 (plainElem (H := Unit) Try.prog 4) mb k (tab E k) ∧ Below w.heap.size w wr) (fun i _ => p - (intOf i).toNat)
  case atStart => exact ⟨0, Nat.zero_le _, rfl, ⟨fun _ h => absurd h (Nat.not_lt_zero _), fun _ _ _ h => absurd h (Nat.not_lt_zero _)⟩, hGB, e7, e4, hown4, B4⟩
  case round =>
    clear hGB e7 e4 hown4 B4
    obtain ⟨K, hK, rfl, hMP, hG, e7, r3, hown, hB⟩ := hrel
    by_cases hlt : K < p
    · obtain ⟨bz, off, rfl, hbl, hcz⟩ := (HZ.out.below hB) (by omega)
      obtain ⟨x0, x1⟩ := hcz K hlt
      clear hcz
      have hkey := key_of (HWF.out K hlt)
      have hwrap : IntKind.i64.wrap ((K : Int) + 1) = (K : Int) + 1 := IntWalk.i64_in _ (by omega)
      obtain ⟨pz, hpz⟩ : ∃ pz, pz = Z K := ⟨_, rfl⟩
      rw [← hpz] at x0 x1 hkey
      obtain ⟨y1, y2⟩ := pz
      replace x0 : wr.cell? ⟨bz, off + K * 2, none⟩ = some (.int .i64 y1) := x0
      replace x1 : wr.cell? ⟨bz, off + K * 2 + 1, none⟩ = some (.int .i64 y2) := x1
      replace hkey : keyOf Try.prog 47 (.agg #[.int .i64 y1, .int .i64 y2]) = some (pkey (y1, y2)) := hkey
      have bN := below_new wr (.cells #[.int .i64 y1, .int .i64 y2] 47)
      have eP : (wr.alloc (.cells #[.int .i64 y1, .int .i64 y2] 47)).heap[wr.heap.size]? = some (.cells #[.int .i64 y1, .int .i64 y2] 47 (0, 0)) := heap_alloc_new wr _
      have u0 := cell_of_row _ _ 0 _ _ _ eP
      have u1 := cell_of_row _ _ 1 _ _ _ eP
      have BP := below_next hB bN
      have hown5 := owns_keep hown (bN.block _ (owns_lt hown))
      have r5 := (bN.block _ (lt_of_block r3)).trans r3
      have e75 := (bN.block _ (lt_of_block e7)).trans e7
      have hG5 := hG.below bN
      clear hown r3 e7 hG bN eP hB
      go_upto_region 6 with fail
      generalize wr.alloc (.cells #[.int .i64 y1, .int .i64 y2] 47) = w5 at *
      generalize wr.heap.size = pb at *
      by_cases hin : ∃ e, e < k ∧ E e = Z K
      · have hat := tab_at_yes E (y1, y2) (.lit (.bool false)) k (by obtain ⟨e, h1, h2⟩ := hin; exact ⟨e, h1, by rw [h2, ← hpz]⟩)
        have hIn : InE n m (y1, y2) := by obtain ⟨e, h1, h2⟩ := hin; rw [hpz, ← h2]; exact HV.out.ran e h1
        obtain ⟨⟨g1, g2⟩, g3, g4⟩ := hIn
        replace g1 : 0 ≤ y1 := g1
        replace g2 : y1 < n := g2
        replace g3 : 0 ≤ y2 := g3
        replace g4 : y2 < m := g4
        obtain ⟨a, rfl⟩ := Int.eq_ofNat_of_zero_le g1
        obtain ⟨b, rfl⟩ := Int.eq_ofNat_of_zero_le g3
        have ha : a < n := by omega
        have hb : b < m := by omega
        have l0 : w5.cell? ⟨gL, a, none⟩ = some (.int .i64 (mL Z K a)) := hG5.l.cell ha
        have l1 : w5.cell? ⟨gR, b, none⟩ = some (.int .i64 (mR Z K b)) := hG5.r.cell hb
        have k1 : w5.cell? ⟨p7, 1, none⟩ = some (.slice (some ⟨gL, 0, none⟩) n n) := cell_of_row _ _ 1 _ _ _ e75
        have k2 : w5.cell? ⟨p7, 2, none⟩ = some (.slice (some ⟨gR, 0, none⟩) m m) := cell_of_row _ _ 2 _ _ _ e75
        have k0 : w5.cell? ⟨p7, 0, none⟩ = some (.slice (some ⟨gN, 0, none⟩) n n) := cell_of_row _ _ 0 _ _ _ e75
        clear g1 g2 g3 g4
        by_cases hL : mL Z K a = -1
        · have q1 : (mL Z K a != -1) = false := by rw [hL]; rfl
          by_cases hR : mR Z K b = -1
          · have q2 : (mR Z K b != -1) = false := by rw [hR]; rfl
            have HM := Lib.hid (mat_next hMP hpz.symm hin hL hR)
            have HC := Lib.hid (match_any lim n m gL gR n n (some ⟨gN, 0, none⟩) (mL Z K) (mR Z K) a b w5 hG5.l hG5.r hG5.ne.2.2 ha hb hlo.2.1 hlo.2.2)
            have HE := Lib.hid hpz
            have HG := Lib.hid hG5
            have HO := Lib.hid hown5
            have H7 := Lib.hid e75
            have H5 := Lib.hid r5
            have nq : Hid (w.heap.size ≠ gL ∧ w.heap.size ≠ gR ∧ mb ≠ gL ∧ mb ≠ gR) := Lib.hid ⟨by omega, by omega, by omega, by omega⟩
            clear hMP hin hL hR hpz hG5 e75 r5
            go_wp2_with (first
              | (at_lookup; refine look_bool _ rfl _ _ 62 rfl 47 4 law47 Try.underlying62 Try.underlying4 (zero4 _) mb k _ rfl hown5 _ _ rfl hkey true hat ?_)
              | fail)
            refine HC.out.mono ?_; rintro e w6 ⟨rfl, hl6, hr6, b6, ap6⟩
            have hG6 := ga_match HG.out hl6 hr6 ap6
            have e76 := (ap6 p7 (lt_of_block H7.out) n7.1 n7.2).trans H7.out
            have r6 := (ap6 w.heap.size (lt_of_block H5.out) nq.out.1 nq.out.2.1).trans H5.out
            have hown6 := owns_keep HO.out (ap6 mb (owns_lt HO.out) nq.out.2.2.1 nq.out.2.2.2)
            have B6 := BP.trans (b6.mono (by omega))
            have e1 : mL Z (K + 1) = put (mL Z K) a (b : Int) := by show put (mL Z K) (Z K).1.toNat (((Z K).2.toNat : Nat) : Int) = _; rw [← HE.out]; rfl
            have e2 : mR Z (K + 1) = put (mR Z K) b (a : Int) := by show put (mR Z K) (Z K).2.toNat (((Z K).1.toNat : Nat) : Int) = _; rw [← HE.out]; rfl
            have HR6 := Lib.hid (show GA lim (lim + 5) w6 n m gN gL gR (nbs E k) V (mL Z (K + 1)) (mR Z (K + 1)) by rw [e1, e2]; exact hG6)
            clear hl6 hr6 hG6 e1 e2 l0 l1 k0 k1 k2 u0 u1 hown5 x0 x1
            go_wp2_with fail
            go_roundw
            case rel => exact ⟨K + 1, hlt, by go_num, HM.out, HR6.out, e76, r6, hown6, B6⟩
            case measure => simp [intOf]; omega
          · have q2 : (mR Z K b != -1) = true := bne_iff_ne.2 hR
            have HN := Lib.hid (mat_no_r HV.out hlt hpz.symm hR)
            have q0 := cell_of_row _ _ 0 _ _ _ r5
            have q1' := cell_of_row _ _ 1 _ _ _ r5
            have q2' := cell_of_row _ _ 2 _ _ _ r5
            have z0 := frozen_of_row _ _ 0 _ _ r5
            have z1 := frozen_of_row _ _ 1 _ _ r5
            have z2 := frozen_of_row _ _ 2 _ _ r5
            have H5 := Lib.hid r5
            clear hMP hin hL hR hpz hG5 e75 r5
            go_wp2_with (first
              | (at_lookup; refine look_bool _ rfl _ _ 62 rfl 47 4 law47 Try.underlying62 Try.underlying4 (zero4 _) mb k _ rfl hown5 _ _ rfl hkey true hat ?_)
              | fail)
            have hres := put3 (.slice none 0 0) (.slice none 0 0) (.slice none 0 0) H5.out
            have hBf := ((BP.setCell (p := ⟨w.heap.size, 0, none⟩) (by exact Nat.le_refl _) (.slice none 0 0)).setCell (p := ⟨w.heap.size, 1, none⟩) (by exact Nat.le_refl _) (.slice none 0 0)).setCell (p := ⟨w.heap.size, 2, none⟩) (by exact Nat.le_refl _) (.slice none 0 0)
            generalize ((w5.setCell ⟨w.heap.size, 0, none⟩ (.slice none 0 0)).setCell ⟨w.heap.size, 1, none⟩ (.slice none 0 0)).setCell ⟨w.heap.size, 2, none⟩ (.slice none 0 0) = W9 at *
            have j0 := cell_of_row _ _ 0 _ _ _ hres
            have j1 := cell_of_row _ _ 1 _ _ _ hres
            have j2 := cell_of_row _ _ 2 _ _ _ hres
            refine bodyPost_ret (v := .tuple #[.agg #[.slice none 0 0, .slice none 0 0, .slice none 0 0], .bool false]) (by simp [results, Try.results43, go_sem, j0, j1, j2]) rfl ?_
            exact .inr ⟨HN.out, rfl, hBf⟩
        · have q1 : (mL Z K a != -1) = true := bne_iff_ne.2 hL
          have HN := Lib.hid (mat_no_l HV.out hlt hpz.symm hL)
          have q0 := cell_of_row _ _ 0 _ _ _ r5
          have q1' := cell_of_row _ _ 1 _ _ _ r5
          have q2' := cell_of_row _ _ 2 _ _ _ r5
          have z0 := frozen_of_row _ _ 0 _ _ r5
          have z1 := frozen_of_row _ _ 1 _ _ r5
          have z2 := frozen_of_row _ _ 2 _ _ r5
          have H5 := Lib.hid r5
          clear hMP hin hL hpz hG5 e75 r5
          go_wp2_with (first
            | (at_lookup; refine look_bool _ rfl _ _ 62 rfl 47 4 law47 Try.underlying62 Try.underlying4 (zero4 _) mb k _ rfl hown5 _ _ rfl hkey true hat ?_)
            | fail)
          have hres := put3 (.slice none 0 0) (.slice none 0 0) (.slice none 0 0) H5.out
          have hBf := ((BP.setCell (p := ⟨w.heap.size, 0, none⟩) (by exact Nat.le_refl _) (.slice none 0 0)).setCell (p := ⟨w.heap.size, 1, none⟩) (by exact Nat.le_refl _) (.slice none 0 0)).setCell (p := ⟨w.heap.size, 2, none⟩) (by exact Nat.le_refl _) (.slice none 0 0)
          generalize ((w5.setCell ⟨w.heap.size, 0, none⟩ (.slice none 0 0)).setCell ⟨w.heap.size, 1, none⟩ (.slice none 0 0)).setCell ⟨w.heap.size, 2, none⟩ (.slice none 0 0) = W9 at *
          have j0 := cell_of_row _ _ 0 _ _ _ hres
          have j1 := cell_of_row _ _ 1 _ _ _ hres
          have j2 := cell_of_row _ _ 2 _ _ _ hres
          refine bodyPost_ret (v := .tuple #[.agg #[.slice none 0 0, .slice none 0 0, .slice none 0 0], .bool false]) (by simp [results, Try.results43, go_sem, j0, j1, j2]) rfl ?_
          exact .inr ⟨HN.out, rfl, hBf⟩
      · have hat := tab_at_no E (y1, y2) (.lit (.bool false)) k (fun ⟨e, h1, h2⟩ => hin ⟨e, h1, by
          have hw := HWF.out K hlt
          rw [← hpz] at hw ⊢
          exact pkey_inj (HV.out.wf h1) hw h2⟩)
        have HN := Lib.hid (mat_no_e (p := p) hlt hin)
        have q0 := cell_of_row _ _ 0 _ _ _ r5
        have q1' := cell_of_row _ _ 1 _ _ _ r5
        have q2' := cell_of_row _ _ 2 _ _ _ r5
        have z0 := frozen_of_row _ _ 0 _ _ r5
        have z1 := frozen_of_row _ _ 1 _ _ r5
        have z2 := frozen_of_row _ _ 2 _ _ r5
        have H5 := Lib.hid r5
        clear hMP hin hpz hG5 e75 r5
        go_wp2_with (first
          | (at_lookup; refine look_bool _ rfl _ _ 62 rfl 47 4 law47 Try.underlying62 Try.underlying4 (zero4 _) mb k _ rfl hown5 _ _ rfl hkey false hat ?_)
          | fail)
        have hres := put3 (.slice none 0 0) (.slice none 0 0) (.slice none 0 0) H5.out
        have hBf := ((BP.setCell (p := ⟨w.heap.size, 0, none⟩) (by exact Nat.le_refl _) (.slice none 0 0)).setCell (p := ⟨w.heap.size, 1, none⟩) (by exact Nat.le_refl _) (.slice none 0 0)).setCell (p := ⟨w.heap.size, 2, none⟩) (by exact Nat.le_refl _) (.slice none 0 0)
        generalize ((w5.setCell ⟨w.heap.size, 0, none⟩ (.slice none 0 0)).setCell ⟨w.heap.size, 1, none⟩ (.slice none 0 0)).setCell ⟨w.heap.size, 2, none⟩ (.slice none 0 0) = W9 at *
        have j0 := cell_of_row _ _ 0 _ _ _ hres
        have j1 := cell_of_row _ _ 1 _ _ _ hres
        have j2 := cell_of_row _ _ 2 _ _ _ hres
        refine bodyPost_ret (v := .tuple #[.agg #[.slice none 0 0, .slice none 0 0, .slice none 0 0], .bool false]) (by simp [results, Try.results43, go_sem, j0, j1, j2]) rfl ?_
        exact .inr ⟨HN.out, rfl, hBf⟩
    · obtain rfl : K = p := by omega
      have q0 := cell_of_row _ _ 0 _ _ _ r3
      have q1 := cell_of_row _ _ 1 _ _ _ r3
      have q2 := cell_of_row _ _ 2 _ _ _ r3
      have z0 := frozen_of_row _ _ 0 _ _ r3
      have z1 := frozen_of_row _ _ 1 _ _ r3
      have z2 := frozen_of_row _ _ 2 _ _ r3
      have k0 := cell_of_row _ _ 0 _ _ _ e7
      have k1 := cell_of_row _ _ 1 _ _ _ e7
      have k2 := cell_of_row _ _ 2 _ _ _ e7
      have HG := Lib.hid hG
      have HR3 := Lib.hid r3
      have HM := Lib.hid hMP
      clear hG r3 e7 hMP
      go_wp2_with fail
      have hres := put3 (.slice (some ⟨gN, 0, none⟩) n n) (.slice (some ⟨gL, 0, none⟩) n n) (.slice (some ⟨gR, 0, none⟩) m m) HR3.out
      have hout := HG.out.put_far hqlim (.slice (some ⟨gN, 0, none⟩) n n) (.slice (some ⟨gL, 0, none⟩) n n) (.slice (some ⟨gR, 0, none⟩) m m)
      have hBf : Below w.heap.size w (((wr.setCell ⟨w.heap.size, 0, none⟩ (.slice (some ⟨gN, 0, none⟩) n n)).setCell ⟨w.heap.size, 1, none⟩ (.slice (some ⟨gL, 0, none⟩) n n)).setCell ⟨w.heap.size, 2, none⟩ (.slice (some ⟨gR, 0, none⟩) m m)) :=
        ((hB.setCell (by exact Nat.le_refl _) _).setCell (by exact Nat.le_refl _) _).setCell (by exact Nat.le_refl _) _
      generalize ((wr.setCell ⟨w.heap.size, 0, none⟩ (.slice (some ⟨gN, 0, none⟩) n n)).setCell ⟨w.heap.size, 1, none⟩ (.slice (some ⟨gL, 0, none⟩) n n)).setCell ⟨w.heap.size, 2, none⟩ (.slice (some ⟨gR, 0, none⟩) m m) = W9 at *
      have j0 := cell_of_row _ _ 0 _ _ _ hres
      have j1 := cell_of_row _ _ 1 _ _ _ hres
      have j2 := cell_of_row _ _ 2 _ _ _ hres
      refine bodyPost_ret (v := .tuple #[.agg #[.slice (some ⟨gN, 0, none⟩) n n, .slice (some ⟨gL, 0, none⟩) n n, .slice (some ⟨gR, 0, none⟩) m m], .bool true]) (by simp [results, Try.results43, go_sem, j0, j1, j2]) rfl ?_
      exact .inl ⟨HM.out, lim, lim + 5, gN, gL, gR, V, hqlim, rfl, hout, hBf⟩
end Go.Proofs.Ytmafnncpdccfdaa
