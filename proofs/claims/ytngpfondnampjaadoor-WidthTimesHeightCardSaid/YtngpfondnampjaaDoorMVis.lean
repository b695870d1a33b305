/- Matching, ported: MVis. -/
import Derived.Test.YtngpfondnampjaaDoorMImp
namespace Go.Proofs.YtngpfondnampjaaDoor
open Go.RowKit
/- mathematics: one round of the search -/
structure Inv (n m : Nat) (nb : Nat → List Nat) (f a K : Nat) (g g' : Gr) : Prop where
  mat : Mat n m nb g'
  at_ : g'.L a = -1 ∨ ∃ b : Nat, g'.L a = b ∧ g'.seen b = true
  un_ : un g'.seen m < f + 1
  eq : walk (vis nb f) a ((nb a).drop K) g' = vis nb (f + 1) a g
theorem inv_start {n m : Nat} {nb : Nat → List Nat} {f a : Nat} {g : Gr} (h1 : Mat n m nb g) (h2 : g.L a = -1 ∨ ∃ b : Nat, g.L a = b ∧ g.seen b = true) (h3 : un g.seen m < f + 1) : Inv n m nb f a 0 g g := ⟨h1, h2, h3, rfl⟩
theorem drop_at {l : List Nat} {K : Nat} (h : K < l.length) : l.drop K = l.getD K 0 :: l.drop (K + 1) := by
  rw [List.drop_eq_getElem_cons h, List.getD_eq_getElem?_getD, List.getElem?_eq_getElem h]; rfl
theorem mem_at {l : List Nat} {K : Nat} (h : K < l.length) : l.getD K 0 ∈ l := by
  rw [List.getD_eq_getElem?_getD, List.getElem?_eq_getElem h]; exact List.getElem_mem h
section
variable {n m : Nat} {nb : Nat → List Nat} {f a K : Nat} {g g' : Gr}
theorem Inv.done (h : Inv n m nb f a (nb a).length g g') : vis nb (f + 1) a g = (false, g') := by
  have e := h.eq
  rw [List.drop_length] at e
  exact e.symm
theorem Inv.skip (h : Inv n m nb f a K g g') (hK : K < (nb a).length) (hs : g'.seen ((nb a).getD K 0) = true) : Inv n m nb f a (K + 1) g g' := ⟨h.mat, h.at_, h.un_, by
  have e := h.eq
  rw [drop_at hK] at e
  rw [← e]
  show _ = if _ then _ else _
  rw [if_pos hs]⟩
theorem Inv.free (h : Inv n m nb f a K g g') (hK : K < (nb a).length) {b : Nat} (hb : b = (nb a).getD K 0) (hs : g'.seen b = false) (hr : g'.R b = -1) : vis nb (f + 1) a g = (true, (g'.see b).mat a b) := by
  have e := h.eq
  rw [drop_at hK, ← hb] at e
  rw [← e]
  show (if _ then _ else _) = _
  rw [if_neg (by rw [hs]; exact Bool.false_ne_true), if_pos hr]
structure Deep (n m : Nat) (nb : Nat → List Nat) (f a K b d : Nat) (g g' : Gr) : Prop where
  dn : d < n
  rd : g'.R b = (d : Int)
  mat : Mat n m nb (g'.see b)
  at_ : (g'.see b).L d = -1 ∨ ∃ c : Nat, (g'.see b).L d = c ∧ (g'.see b).seen c = true
  un_ : un (g'.see b).seen m < f
  yes : (vis nb f d (g'.see b)).1 = true → vis nb (f + 1) a g = (true, (vis nb f d (g'.see b)).2.mat a b)
  no : (vis nb f d (g'.see b)).1 = false → Inv n m nb f a (K + 1) g (vis nb f d (g'.see b)).2
theorem Inv.deep (hnb : ∀ a b, b ∈ nb a → b < m) (h : Inv n m nb f a K g g') (hK : K < (nb a).length) {b : Nat} (hb : b = (nb a).getD K 0) (hs : g'.seen b = false) (hr : g'.R b ≠ -1) : ∃ d, Deep n m nb f a K b d g g' := by
  have hbm : b < m := hnb a b (by rw [hb]; exact mem_at hK)
  obtain ⟨d, hd, hRd, hLd⟩ := (Mat.r h.mat b hbm).resolve_left hr
  have hs' : ¬ g'.seen b = true := by rw [hs]; exact Bool.false_ne_true
  have hus := un_mark hs' hbm
  have hun := h.un_
  have hu2 : un (g'.see b).seen m < f := by show un (mark g'.seen b) m < f; omega
  have hms : Mat n m nb (g'.see b) := ⟨h.mat.l, h.mat.w, fun b' hb' hx => Par.r h.mat b' hb' hx⟩
  have hat : (g'.see b).L d = -1 ∨ ∃ c : Nat, (g'.see b).L d = c ∧ (g'.see b).seen c = true := .inr ⟨b, hLd, mark_same _ _⟩
  have hres := vis_res hnb f d (g'.see b) hms hd hat hu2
  have e := h.eq
  rw [drop_at hK, ← hb] at e
  have e2 : (if g'.seen b = true then walk (vis nb f) a ((nb a).drop (K + 1)) g' else if g'.R b = -1 then (true, (g'.see b).mat a b) else if (vis nb f (g'.R b).toNat (g'.see b)).1 = true then (true, (vis nb f (g'.R b).toNat (g'.see b)).2.mat a b) else walk (vis nb f) a ((nb a).drop (K + 1)) (vis nb f (g'.R b).toNat (g'.see b)).2) = vis nb (f + 1) a g := e
  rw [if_neg hs', if_neg hr, show (g'.R b).toNat = d by rw [hRd]; rfl] at e2
  refine ⟨d, hd, hRd, hms, hat, hu2, fun h1 => ?_, fun h1 => ?_⟩
  · rw [if_pos h1] at e2; exact e2.symm
  · rw [if_neg (by rw [h1]; exact Bool.false_ne_true)] at e2
    have fl := hres.no h1
    have mono : ∀ c, g'.seen c = true → (vis nb f d (g'.see b)).2.seen c = true := fun c hc => hres.kept.mono c ((mark_or _ _ _).2 (.inl hc))
    have eL : (vis nb f d (g'.see b)).2.L = g'.L := fl.eL
    have eR : (vis nb f d (g'.see b)).2.R = g'.R := fl.eR
    refine ⟨⟨by rw [eL, eR]; exact h.mat.l, by rw [eR]; exact h.mat.w, by rw [eL, eR]; exact Par.r h.mat⟩, ?_, ?_, e2⟩
    · rw [eL]; exact h.at_.imp id fun ⟨c, h1, h2⟩ => ⟨c, h1, mono c h2⟩
    · have := un_mono mono m; omega
end
/- memory -/
def Out (gL gR gS b : Nat) : Prop := b ≠ gL ∧ b ≠ gR ∧ b ≠ gS
def Kp (gL gR gS : Nat) (w w' : World) : Prop := w.heap.size ≤ w'.heap.size ∧ ∀ b, b < w.heap.size → Out gL gR gS b → w'.heap[b]? = w.heap[b]?
theorem Kp.refl (gL gR gS : Nat) (w : World) : Kp gL gR gS w w := ⟨Nat.le_refl _, fun _ _ _ => rfl⟩
theorem Kp.trans {gL gR gS : Nat} {w w' w'' : World} (h : Kp gL gR gS w w') (h' : Kp gL gR gS w' w'') : Kp gL gR gS w w'' := ⟨Nat.le_trans h.1 h'.1, fun b hb hx => (h'.2 b (Nat.lt_of_lt_of_le hb h.1) hx).trans (h.2 b hb hx)⟩
theorem kp_set (gL gR gS : Nat) (w : World) (q : Addr) (hq : q.block = gS) (u : Value) : Kp gL gR gS w (w.setCell q u) := ⟨by simp, fun b _ hx => Below.heap_setCell w q u b (by rw [hq]; exact hx.2.2)⟩
theorem Apart.kp {gL gR gS lim : Nat} {w w' : World} (h : Apart gL gR w w') (hb : Below lim w w') : Kp gL gR gS w w' := ⟨hb.size, fun b hb hx => h b hb hx.1 hx.2.1⟩
structure NbAt (w : World) (X : Nat → Prop) (gN n : Nat) (nb : Nat → List Nat) (Ad : Nat → Option Addr) (cp : Nat → Nat) : Prop where
  rows : w.rowIs gN 25 n (fun a => .slice (Ad a) (nb a).length (cp a))
  outN : X gN
  each : ∀ a, a < n → 0 < (nb a).length → ∃ b off, Ad a = some ⟨b, off, none⟩ ∧ X b ∧ b < w.heap.size ∧ ∀ k, k < (nb a).length → w.cell? ⟨b, off + k, none⟩ = some (.int .i64 (((nb a).getD k 0 : Nat) : Int))
theorem NbAt.keep {w w' : World} {X : Nat → Prop} {gN n : Nat} {nb : Nat → List Nat} {Ad : Nat → Option Addr} {cp : Nat → Nat} (h : NbAt w X gN n nb Ad cp) (hs : w.heap.size ≤ w'.heap.size) (hk : ∀ b, b < w.heap.size → X b → w'.heap[b]? = w.heap[b]?) : NbAt w' X gN n nb Ad cp :=
  ⟨h.rows.of_block (hk gN h.rows.lt h.outN), h.outN, fun a ha h0 => by
    obtain ⟨b, off, h1, h2, h3, h4⟩ := h.each a ha h0
    exact ⟨b, off, h1, h2, Nat.lt_of_lt_of_le h3 hs, fun k hk' => (World.cell?_of_block (w := w) (hk b h3 h2)).trans (h4 k hk')⟩⟩
def cv (p1 p2 p3 : Nat) : Value := .func (Fn.func 97) #[] #[.pointer (some ⟨p1, 0, none⟩), .pointer (some ⟨p2, 0, none⟩), .pointer (some ⟨p3, 0, none⟩)]
structure Env (w : World) (n m p1 p2 p3 gN gL gR gS : Nat) (nb : Nat → List Nat) (Ad : Nat → Option Addr) (cp : Nat → Nat) : Prop where
  b1 : w.heap[p1]? = some (.cells #[.slice (some ⟨gN, 0, none⟩) n n, .slice (some ⟨gL, 0, none⟩) n n, .slice (some ⟨gR, 0, none⟩) m m] 100 (0, 0))
  b2 : w.heap[p2]? = some (.cells #[.slice (some ⟨gS, 0, none⟩) m m] 65 (0, 0))
  b3 : w.heap[p3]? = some (.cells #[cv p1 p2 p3] 69 (0, 0))
  x1 : Out gL gR gS p1
  x2 : Out gL gR gS p2
  x3 : Out gL gR gS p3
  nbr : NbAt w (Out gL gR gS) gN n nb Ad cp
  LR : gL ≠ gR
  LS : gL ≠ gS
  RS : gR ≠ gS
structure StAt (w : World) (n m gL gR gS : Nat) (g : Gr) : Prop where
  l : w.rowIs gL 3 n (ivals g.L)
  r : w.rowIs gR 3 m (ivals g.R)
  s : w.rowIs gS 4 m (bvals g.seen)
section
variable {w w' : World} {n m p1 p2 p3 gN gL gR gS : Nat} {nb : Nat → List Nat} {Ad : Nat → Option Addr} {cp : Nat → Nat} {g : Gr}
theorem Env.keep (h : Env w n m p1 p2 p3 gN gL gR gS nb Ad cp) (k : Kp gL gR gS w w') : Env w' n m p1 p2 p3 gN gL gR gS nb Ad cp :=
  ⟨(k.2 p1 (lt_of_block h.b1) h.x1).trans h.b1, (k.2 p2 (lt_of_block h.b2) h.x2).trans h.b2, (k.2 p3 (lt_of_block h.b3) h.x3).trans h.b3, h.x1, h.x2, h.x3, h.nbr.keep k.1 k.2, h.LR, h.LS, h.RS⟩
theorem Env.c0 (h : Env w n m p1 p2 p3 gN gL gR gS nb Ad cp) : w.cell? ⟨p1, 0, none⟩ = some (.slice (some ⟨gN, 0, none⟩) n n) := cell_of_row _ _ 0 _ _ _ h.b1
theorem Env.c1 (h : Env w n m p1 p2 p3 gN gL gR gS nb Ad cp) : w.cell? ⟨p1, 1, none⟩ = some (.slice (some ⟨gL, 0, none⟩) n n) := cell_of_row _ _ 1 _ _ _ h.b1
theorem Env.c2 (h : Env w n m p1 p2 p3 gN gL gR gS nb Ad cp) : w.cell? ⟨p1, 2, none⟩ = some (.slice (some ⟨gR, 0, none⟩) m m) := cell_of_row _ _ 2 _ _ _ h.b1
theorem Env.cs (h : Env w n m p1 p2 p3 gN gL gR gS nb Ad cp) : w.cell? ⟨p2, 0, none⟩ = some (.slice (some ⟨gS, 0, none⟩) m m) := cell_of_row _ _ 0 _ _ _ h.b2
theorem Env.cf (h : Env w n m p1 p2 p3 gN gL gR gS nb Ad cp) : w.cell? ⟨p3, 0, none⟩ = some (.func (Fn.func 97) #[] #[.pointer (some ⟨p1, 0, none⟩), .pointer (some ⟨p2, 0, none⟩), .pointer (some ⟨p3, 0, none⟩)]) := cell_of_row _ _ 0 _ _ _ h.b3
theorem StAt.see (h : StAt w n m gL gR gS g) (h1 : gL ≠ gS) (h2 : gR ≠ gS) (b : Nat) : StAt (w.setCell ⟨gS, b, none⟩ (.bool true)) n m gL gR gS (g.see b) := ⟨h.l.setOther (by exact h1) _, h.r.setOther (by exact h2) _, row_mark h.s⟩
theorem StAt.drewN (h : StAt w n m gL gR gS g) (q : Nat) : StAt (w.drewN q) n m gL gR gS g := ⟨h.l.of_block rfl, h.r.of_block rfl, h.s.of_block rfl⟩
theorem kp_drewN (gL gR gS : Nat) (w : World) (q : Nat) : Kp gL gR gS w (w.drewN q) := ⟨Nat.le_refl _, fun _ _ _ => rfl⟩
end
def VisEnd (w : World) (lim n m gL gR gS : Nat) (out : Bool × Gr) (e : Ending) (w' : World) : Prop :=
  e = .returned (.bool out.1) ∧ StAt w' n m gL gR gS out.2 ∧ Below lim w w' ∧ Kp gL gR gS w w'
set_option maxRecDepth 100000 in
set_option maxHeartbeats 4000000 in
theorem visit_any (lim n m p1 p2 p3 gN gL gR gS : Nat) (nb : Nat → List Nat) (Ad : Nat → Option Addr) (cp : Nat → Nat) (hnb : ∀ a b, b ∈ nb a → b < m) (hlen : ∀ a, (nb a).length ≤ 2000) (l1 : lim ≤ gL) (l2 : lim ≤ gR) (l3 : lim ≤ gS) :
    ∀ (f a : Nat) (g : Gr) (w : World), Env w n m p1 p2 p3 gN gL gR gS nb Ad cp → StAt w n m gL gR gS g → Mat n m nb g → a < n → (g.L a = -1 ∨ ∃ b : Nat, g.L a = b ∧ g.seen b = true) → un g.seen m < f →
    Calls Tryd.prog 97 #[.int .i64 a, .pointer (some ⟨p1, 0, none⟩), .pointer (some ⟨p2, 0, none⟩), .pointer (some ⟨p3, 0, none⟩)] w (VisEnd w lim n m gL gR gS (vis nb f a g)) := by
  intro f
  induction f with
  | zero => intro a g w _ _ _ _ _ h; exact absurd h (Nat.not_lt_zero _)
  | succ f ih =>
    intro a g w hE hS hM ha hat hun
    have IH := Lib.hid ih; clear ih
    have HNB := Lib.hid hnb; clear hnb
    have HI := Lib.hid (inv_start hM hat hun); clear hM hat hun
    have HE := Lib.hid hE; clear hE
    have hl := hlen a
    have HLEN := Lib.hid hlen; clear hlen
    have k0 := HE.out.c0
    have r0 : w.cell? ⟨gN, a, none⟩ = some (.slice (Ad a) (nb a).length (cp a)) := HE.out.nbr.rows.cell ha
    obtain ⟨len, hlen⟩ : ∃ len, len = (nb a).length := ⟨_, rfl⟩
    obtain ⟨A, hA⟩ : ∃ A, A = Ad a := ⟨_, rfl⟩
    rw [← hlen, ← hA] at r0
    rw [← hlen] at hl
    have HLN := Lib.hid hlen
    have HAD := Lib.hid hA
    clear hlen hA
    go_enter Tryd.func97, Tryd.ntmps97
    go_wp2_with fail
    clear k0 r0
    go_loopw [14] (fun i wr => ∃ (K : Nat) (g' : Gr), K ≤ len ∧ i = .int .i64 K ∧ StAt wr n m gL gR gS g' ∧ Hid (Inv n m nb f a K g g') ∧ Below lim w wr ∧ Hid (Kp gL gR gS w wr)) (fun i _ => len - (intOf i).toNat)
    case atStart => exact ⟨0, g, Nat.zero_le _, rfl, hS, HI, Below.refl _ _, Lib.hid (Kp.refl _ _ _ _)⟩
    case round =>
      clear HI hS
      obtain ⟨K, g', hK, rfl, hS, HI, hB, HK⟩ := hrel
      by_cases hlt : K < len
      · have hltn : K < (nb a).length := by rw [← HLN.out]; exact hlt
        have hEr := HE.out.keep HK.out
        obtain ⟨b0, off, hAd, -, hbl, hcz⟩ := hEr.nbr.each a ha (by omega)
        have x0 := hcz K hltn
        have hA : A = some ⟨b0, off, none⟩ := HAD.out.trans hAd
        clear hcz hAd
        have hbm0 := HNB.out a _ (mem_at hltn)
        obtain ⟨b, hb⟩ : ∃ b, b = (nb a).getD K 0 := ⟨_, rfl⟩
        rw [← hb] at x0 hbm0
        have HBB := Lib.hid hb
        clear hb
        subst hA
        have c2 := hEr.cs
        have s0 : wr.cell? ⟨gS, b, none⟩ = some (.bool (g'.seen b)) := hS.s.cell hbm0
        have hwrap : IntKind.i64.wrap ((K : Int) + 1) = (K : Int) + 1 := IntWalk.i64_in _ (by omega)
        cases hs : g'.seen b with
        | true =>
          rw [hs] at s0
          have HI2 := Lib.hid (HI.out.skip hltn (by rw [← HBB.out]; exact hs))
          have hKn : K + 1 ≤ len := hlt
          clear hs hltn HI hEr
          go_wp2_with fail
          go_roundw
          case rel => exact ⟨K + 1, g', hKn, by go_num, hS, HI2, hB, HK⟩
          case measure => simp [intOf]; omega
        | false =>
          rw [hs] at s0
          have z0 : wr.frozen? ⟨gS, b, none⟩ = false := hS.s.frozen b
          have hS1 := hS.see hEr.LS hEr.RS b
          have kp1 := HK.out.trans (kp_set gL gR gS wr ⟨gS, b, none⟩ rfl (.bool true))
          have B1 := hB.setCell (p := ⟨gS, b, none⟩) (by exact l3) (.bool true)
          go_upto_region 6 with fail
          clear c2 s0 z0 x0 hEr hbl
          generalize wr.setCell ⟨gS, b, none⟩ (.bool true) = w1 at *
          have E1 := HE.out.keep kp1
          have HKP := Lib.hid kp1
          clear kp1
          have c2 := E1.c2
          have cf := E1.cf
          have r1 : w1.cell? ⟨gR, b, none⟩ = some (.int .i64 (g'.R b)) := hS1.r.cell hbm0
          by_cases hr : g'.R b = -1
          · rw [hr] at r1
            have hfin := Lib.hid (HI.out.free hltn HBB.out hs hr)
            clear hr HI hs hltn
            go_quiet (fail)
            have E2 := E1.keep (kp_drewN gL gR gS w1 nq)
            have S2 := hS1.drewN nq
            have B2 := below_drewN B1 nq
            have kp2 := HKP.out.trans (kp_drewN gL gR gS w1 nq)
            clear c2 cf r1 E1 hS1 B1 HKP
            generalize w1.drewN nq = w2 at *
            have c0 := E2.c0
            have c1 := E2.c1
            have c2 := E2.c2
            have HMT := Lib.hid (match_any lim n m gL gR n n (some ⟨gN, 0, none⟩) (g'.see b).L (g'.see b).R a b w2 S2.l S2.r E2.LR ha hbm0 l1 l2)
            have HKP := Lib.hid kp2
            have HS2 := Lib.hid S2.s
            have hne1 := E2.LS
            have hne2 := E2.RS
            clear kp2 S2 E2
            go_wp2_with fail
            refine HMT.out.mono ?_; rintro e w3 ⟨rfl, hL3, hR3, b3, a3⟩
            have A3 := Lib.hid a3
            clear c0 c1 c2 a3 HMT
            go_wp2_with fail
            go_ret
            rw [hfin.out]
            exact ⟨rfl, ⟨hL3, hR3, HS2.out.of_block (A3.out gS HS2.out.lt hne1.symm hne2.symm)⟩, B2.trans b3, HKP.out.trans (A3.out.kp b3)⟩
          · obtain ⟨d, hd⟩ := HI.out.deep HNB.out hltn HBB.out hs hr
            rw [hd.rd] at r1
            have q1 : ((d : Int) == -1) = false := beq_false_of_ne (by omega)
            have HCAL : Hid (∀ q, Calls Tryd.prog 97 #[.int .i64 d, .pointer (some ⟨p1, 0, none⟩), .pointer (some ⟨p2, 0, none⟩), .pointer (some ⟨p3, 0, none⟩)] (w1.drewN q) (VisEnd (w1.drewN q) lim n m gL gR gS (vis nb f d (g'.see b)))) :=
              fun q => IH.out d (g'.see b) (w1.drewN q) (E1.keep (kp_drewN _ _ _ _ q)) (hS1.drewN q) hd.mat hd.dn hd.at_ hd.un_
            have HDP := Lib.hid hd
            clear hr HI hs hltn hd
            have HY := Lib.hid HDP.out.yes
            have HN := Lib.hid HDP.out.no
            clear HDP
            have hB1 := below_drewN B1 1
            have kp1 := HKP.out.trans (kp_drewN gL gR gS w1 1)
            have HKP1 := Lib.hid kp1
            clear kp1
            have HC1 := Lib.hid (HCAL.out 1)
            clear HCAL
            generalize vis nb f d (g'.see b) = out at *
            obtain ⟨r, g2⟩ := out
            go_still_tail 13, (by kernel_rfl)
            change wpList _ _ _ _ _ (w1.drewN 1)
            clear c2 cf r1 E1 hS1 B1 HKP
            generalize w1.drewN 1 = w2 at *
            cases r with
            | true =>
              have hfin := Lib.hid (HY.out rfl)
              clear HY HN
              go_wp2_with fail
              refine HC1.out.mono ?_; rintro e w3 ⟨rfl, S3, b3, k3⟩
              have kp3 := HKP1.out.trans k3
              have E3 := HE.out.keep kp3
              have c0 := E3.c0
              have c1 := E3.c1
              have c2 := E3.c2
              have HMT := Lib.hid (match_any lim n m gL gR n n (some ⟨gN, 0, none⟩) g2.L g2.R a b w3 S3.l S3.r E3.LR ha hbm0 l1 l2)
              have HKP := Lib.hid kp3
              have HS3 := Lib.hid S3.s
              have hne1 := E3.LS
              have hne2 := E3.RS
              have B3 := hB1.trans b3
              clear kp3 S3 E3 b3 k3 HC1 hB1
              go_wp2_with fail
              refine HMT.out.mono ?_; rintro e w4 ⟨rfl, hL4, hR4, b4, a4⟩
              have A4 := Lib.hid a4
              clear c0 c1 c2 a4 HMT
              go_wp2_with fail
              go_ret
              rw [hfin.out]
              exact ⟨rfl, ⟨hL4, hR4, HS3.out.of_block (A4.out gS HS3.out.lt hne1.symm hne2.symm)⟩, B3.trans b4, HKP.out.trans (A4.out.kp b4)⟩
            | false =>
              have HI2 := Lib.hid (HN.out rfl)
              have hKn : K + 1 ≤ len := hlt
              clear HY HN
              go_wp2_with fail
              refine HC1.out.mono ?_; rintro e w3 ⟨rfl, S3, b3, k3⟩
              have KP3 := Lib.hid (HKP1.out.trans k3)
              have B3 := hB1.trans b3
              clear HC1 k3 b3 hB1
              go_wp2_with fail
              go_roundw
              case rel => exact ⟨K + 1, g2, hKn, by go_num, S3, HI2, B3, KP3⟩
              case measure => simp [intOf]; omega
      · obtain rfl : K = len := by omega
        have hdone : vis nb (f + 1) a g = (false, g') := Inv.done (by rw [← HLN.out]; exact HI.out)
        have HD := Lib.hid hdone
        clear hdone
        go_wp2_with fail
        go_ret
        rw [HD.out]
        exact ⟨rfl, hS, hB, HK.out⟩
end Go.Proofs.YtngpfondnampjaaDoor
