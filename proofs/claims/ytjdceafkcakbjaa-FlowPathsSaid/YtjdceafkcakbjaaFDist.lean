/- The contract of distances. -/
import Derived.Test.YtjdceafkcakbjaaFNew
namespace Go.Proofs.Ytjdceafkcakbjaa
open Go.RowKit
theorem add_nil (p k j : Nat) : (⟨p, k, none⟩ : Addr).add j = ⟨p, k + j, none⟩ := by unfold Addr.add; split <;> simp_all
theorem len99 : Try.prog.arrayLen 99 = 512 := by kernel_rfl
theorem elem99 : Try.prog.elem 99 = 3 := by kernel_rfl
theorem und99 : Try.prog.underlying 99 = some (.array (Try.prog.arrayLen 99) (Try.prog.elem 99)) := by kernel_rfl
theorem slice_room (p n : Nat) (h : n ≤ 512) (w : World) : (Instr.sliceAt 99 (.pointer (some ⟨p, 0, none⟩)) (some (.int .i64 0)) (some (.int .i64 0)) (some (.int .i64 (n : Int)))).run Try.prog w = .ok (.slice (some ⟨p, 0, none⟩) 0 n) w := by
  rw [run_sliceAt_array_lhm w 99 ⟨p, 0, none⟩ und99 .i64 .i64 .i64 0 0 n (Int.le_refl _) (Int.le_refl _) (by omega) (by rw [len99]; omega)]
  obtain ⟨i, hi, _, hs, _⟩ := info_parts Try.info3
  rw [elem99]
  simp [sizeOf, typeInfo, hi, slicedAt, Result.andThen, hs]
  rw [add_nil]
  intro _; rfl
theorem append_in {ops : Array Oper} {rest : List Oper} {o : Oper} {a : Act} {Q : Exit → Act → World → Prop} (w : World) (hg : o.guard = none) (s x : Operand)
    (hop : o.op = .call { callee := .builtin .append, args := #[s, x], argTypes := #[25, 25] }) (b n cap : Nat) (hs : a.eval s = .slice (some ⟨b, 0, none⟩) n cap) (B : Nat) (I : Int) (hx : a.eval x = .slice (some ⟨B, 0, none⟩) 1 1)
    (hB : w.heap[B]? = some (.cells #[.int .i64 I] 3 (0, 0))) (hroom : n + 1 ≤ cap) (hc : (w.cell? ⟨b, n, none⟩).isSome = true) (hf : w.frozen? ⟨b, n, none⟩ = false)
    (Post : World → Prop) (hp : Post (w.setCell ⟨b, n, none⟩ (.int .i64 I))) (h : ∀ w', Post w' → wpList Try.prog ops Q rest (a.put o.dst (.slice (some ⟨b, 0, none⟩) (n + 1) cap)) w') : wpList Try.prog ops Q (o :: rest) a w := by
  refine wpList_plain hg fun K hK' => ?_
  obtain ⟨i, hi, hz, hs1, hb1⟩ := info_parts Try.info3
  have hrun := run_append_room_cells (P := Try.prog) w 25 o.type 3 i Try.underlying25 hi b 0 n cap ⟨B, 0, none⟩ 1 1 [.int .i64 I] (by rw [hs1]; rfl) (fun j u hu => by
    have hj : j = 0 := by
      have := (List.getElem?_eq_some_iff.1 hu).1
      simpa using this
    subst hj
    rw [add_nil]
    exact (cell_of_row _ _ 0 _ _ _ hB).trans hu) (fun u hu => by simp at hu; subst hu; rfl) hroom (fun j hj => by
    have hj : j = 0 := by simpa using hj
    subst hj; rw [hs1]; simpa using hc) (fun j hj => by
    have hj : j = 0 := by simpa using hj
    subst hj; rw [hs1]; simpa using hf)
  have e : w.setCells b (0 + n * i.size) [.int .i64 I] = w.setCell ⟨b, n, none⟩ (.int .i64 I) := by rw [hs1]; simp [World.setCells]
  rw [e] at hrun
  unfold Oper.wp
  simp [execOp, hop, resolve, invoke, builtin, hs, hx, hrun, Result.andThen]
  exact hK' _ _ (h _ hp)
theorem z99 : Try.zeroCells99 = Array.replicate 512 (.int .i64 0) := by kernel_rfl
def qc (q : List Nat) : Nat → Value := fun i => .int .i64 ((q.getD i 0 : Nat) : Int)
theorem room_made (w : World) : (w.alloc (.cells Try.zeroCells99 99)).rowIs w.heap.size 99 512 (qc []) :=
  ⟨_, heap_alloc_new w _, by rw [z99]; simp, fun i hi => by rw [z99]; simp [qc, hi]⟩
theorem qc_snoc (q : List Nat) (b k : Nat) (_hk : k < 512) : (if k = q.length then Value.int .i64 (b : Nat) else qc q k) = qc (q ++ [b]) k := by
  unfold qc
  by_cases e : k = q.length
  · rw [if_pos e, e]; simp
  · rw [if_neg e]
    by_cases h : k < q.length
    · rw [List.getD_eq_getElem?_getD, List.getD_eq_getElem?_getD, List.getElem?_append_left h]
    · rw [List.getD_eq_getElem?_getD, List.getD_eq_getElem?_getD, List.getElem?_eq_none (by omega), List.getElem?_eq_none (by simp; omega)]
theorem qc_get {q : List Nat} {i c : Nat} (h : q[i]? = some c) : qc q i = .int .i64 (c : Nat) := by unfold qc; rw [List.getD_eq_getElem?_getD, h]; rfl
def DistEnd (w : World) (N : Net) (R : Nat → Int) (s : Nat) (e : Ending) (w' : World) : Prop :=
  ∃ g d, e = .returned (.slice (some ⟨g, 0, none⟩) N.n N.n) ∧ w'.rowIs g 3 N.n (ivals d) ∧ N.Dst R s d ∧ w.heap.size ≤ g ∧ Below w.heap.size w w'
structure BfAt (w wr : World) (N : Net) (gD gQ : Nat) (q : List Nat) (d : Nat → Int) : Prop where
  rq : wr.rowIs gQ 99 512 (qc q)
  rd : wr.rowIs gD 3 N.n (ivals d)
  m : ∀ v, v < N.n → d v = -1 ∨ 0 ≤ d v
  b : Below w.heap.size w wr
set_option maxRecDepth 100000 in
set_option maxHeartbeats 8000000 in
theorem dist_any (N : Net) (gr gA gF s : Nat) (R : Nat → Int) (w : World) (h : Rsd w N gr gA gF R) (ok : N.Ok) (hs : s < N.n) :
    Calls Try.prog 52 #[.pointer (some ⟨gr, 0, none⟩), .int .i64 s] w (DistEnd w N R s) := by
  have c1 := ResB.b1 h
  have hn1 := ok.n1
  have hn2 := ok.n2
  have hm2 := ok.m2
  have HOK := Lib.hid ok; clear ok
  have HH := Lib.hid h; clear h
  go_enter Try.func52, Try.ntmps52
  go_wp2_with fail
  have bM := below_new w (.cells #[.int .i64 (-1)] 3)
  refine (repeat_any N.n _ _ _ hn1 hn2 (heap_alloc_new _ _)).mono ?_; rintro e w1 ⟨gD, rfl, hD, hgD, b1⟩
  have f0 := hD.frozen s
  have c0 := hD.cell hs
  have hsl := slice_room w1.heap.size N.n hn2
  have hgD1 : w.heap.size ≤ gD := by have : w.heap.size + 1 ≤ gD := by simpa using hgD
                                     omega
  have hlD := hD.lt
  have hD1 := (hD.set s (.int .i64 0)).congr (g := ivals (fun v => if v = s then 0 else -1)) (fun k _ => by
    show (if k = s then Value.int .i64 0 else Value.int .i64 (-1)) = Value.int .i64 (if k = s then 0 else -1)
    by_cases e : k = s
    · rw [if_pos e, if_pos e]
    · rw [if_neg e, if_neg e])
  have bS : Below w.heap.size w (w1.setCell ⟨gD, s, none⟩ (.int .i64 0)) := (below_next bM b1).setCell hgD1 _
  clear bM b1 hD hgD
  have hs1 : (w1.setCell ⟨gD, s, none⟩ (.int .i64 0)).heap.size = w1.heap.size := by simp [World.setCell]
  have hQ := room_made (w1.setCell ⟨gD, s, none⟩ (.int .i64 0))
  rw [hs1] at hQ
  have hD2 := hD1.alloc (.cells Try.zeroCells99 99)
  have bQ := bS.alloc bS.size (.cells Try.zeroCells99 99)
  have hQ3 := hQ.alloc (.cells #[.int .i64 (s : Int)] 3)
  have hD3 := hD2.alloc (.cells #[.int .i64 (s : Int)] 3)
  have bQ3 := bQ.alloc bQ.size (.cells #[.int .i64 (s : Int)] 3)
  have hB : (((w1.setCell ⟨gD, s, none⟩ (.int .i64 0)).alloc (.cells Try.zeroCells99 99)).alloc (.cells #[.int .i64 (s : Int)] 3)).heap[w1.heap.size + 1]? = some (.cells #[.int .i64 (s : Int)] 3 (0, 0)) := by
    have := heap_alloc2_new (w1.setCell ⟨gD, s, none⟩ (.int .i64 0)) (.cells Try.zeroCells99 99) (.cells #[.int .i64 (s : Int)] 3)
    rw [hs1] at this; exact this
  have HB := Lib.hid hB
  have HC : Hid (((((w1.setCell ⟨gD, s, none⟩ (.int .i64 0)).alloc (.cells Try.zeroCells99 99)).alloc (.cells #[.int .i64 (s : Int)] 3)).cell? ⟨w1.heap.size, 0, none⟩).isSome = true) := by show _ = _; rw [hQ3.cell (i := 0) (by omega)]; rfl
  have HF := Lib.hid (hQ3.frozen 0)
  clear hB hD1 bS hQ hD2 bQ hs1
  have hBF : BfAt w ((((w1.setCell ⟨gD, s, none⟩ (.int .i64 0)).alloc (.cells Try.zeroCells99 99)).alloc (.cells #[.int .i64 (s : Int)] 3)).setCell ⟨w1.heap.size, 0, none⟩ (.int .i64 (s : Int))) N gD w1.heap.size [s] (fun v => if v = s then 0 else -1) :=
    ⟨(hQ3.set 0 (.int .i64 (s : Int))).congr (fun k hk => by
      have := qc_snoc [] s k hk
      simpa using this), hD3.setOther (by show gD ≠ w1.heap.size; omega) _, fun v _ => by by_cases e : v = s <;> simp [e], bQ3.setCell (by show w.heap.size ≤ w1.heap.size; omega) _⟩
  have HBF := Lib.hid hBF
  clear hBF
  go_wp2_with (at_builtin; refine append_in _ rfl (.tmp 25) (.tmp 27) rfl w1.heap.size 0 N.n rfl (w1.heap.size + 1) s rfl HB.out (by omega) HC.out HF.out (fun W => BfAt w W N gD w1.heap.size [s] (fun v => if v = s then 0 else -1)) HBF.out ?_)
  intro w5 hBF
  clear HBF
  have hgQ : gD ≠ w1.heap.size := by omega
  have hgQ2 : w.heap.size ≤ w1.heap.size := by omega
  have hbf := Lib.hid (bf_start (N := N) (R := R) hs)
  clear hQ3 hD3 bQ3 HB HC HF hsl hlD f0 c0 c1
  generalize w1.heap.size = gQ at *
  go_wp2_with fail
  go_loopw [8, 9, 10, 11, 12] (fun x i _ _ _ wr => ∃ (a : Nat) (q : List Nat) (d : Nat → Int), x = .slice (some ⟨gQ, 0, none⟩) q.length N.n ∧ i = .int .i64 a ∧ a ≤ q.length ∧ Hid (N.Bf R s a q d) ∧ BfAt w wr N gD gQ q d) (fun _ i _ _ _ _ => N.n + 1 - (intOf i).toNat)
  case atStart => exact ⟨0, [s], _, rfl, rfl, by simp, hbf, hBF⟩
  case round =>
    clear hbf hBF
    obtain ⟨a, q, d, rfl, rfl, haq, hbf, hA⟩ := hrel
    have hql := hbf.out.len
    by_cases hlt : a < q.length
    · obtain ⟨c, hc⟩ : ∃ c, q[a]? = some c := ⟨_, List.getElem?_eq_getElem hlt⟩
      have hcn := hbf.out.lt c (List.mem_iff_getElem?.2 ⟨a, hc⟩)
      have y0 := hA.rq.cell (i := a) (by omega)
      rw [qc_get hc] at y0
      have hR := HH.out.below hA.b
      have k1 := hR.b1
      have k2 := hR.f hcn
      have hwrap : IntKind.i64.wrap ((a : Int) + 1) = (a : Int) + 1 := IntWalk.i64_in _ (by omega)
      have hbi := Lib.hid (hbf.out.begin hc)
      have hgap := N.la_lt c (2 * N.m)
      clear hbf hc hR
      go_wp2_with fail
      clear y0 k1 k2
      generalize N.la c (2 * N.m) = K0 at *
      go_loopw [8, 11, 12] (fun x k _ wr => ∃ (q : List Nat) (d : Nat → Int) (K : Int), x = .slice (some ⟨gQ, 0, none⟩) q.length N.n ∧ k = .int .i64 K ∧ -1 ≤ K ∧ a < q.length ∧ Hid (N.Bi R s a c K q d) ∧ BfAt w wr N gD gQ q d) (fun _ k _ _ => (intOf k + 1).toNat)
      case atStart => exact ⟨q, d, K0, rfl, rfl, hgap.2, hlt, hbi, hA⟩
      case round =>
        clear hA hbi hql hlt haq hgap
        obtain ⟨q, d, K, rfl, rfl, hK1, hlt, hbi, hA⟩ := hrel
        by_cases hK : K = -1
        · subst hK
          have hbf := Lib.hid hbi.out.done
          go_wp2_with fail
          go_roundw
          case rel => exact ⟨a + 1, q, d, rfl, by go_num, by omega, hbf, hA⟩
          case measure => simp [intOf]; have := hbi.out.b.len; omega
        · obtain ⟨k, rfl⟩ : ∃ k : Nat, K = (k : Int) := ⟨K.toNat, by omega⟩
          obtain ⟨hk2, hkc⟩ : k < 2 * N.m ∧ N.aF k = c := by
            rcases hbi.out.k with h1 | ⟨k', h1, h2, h3⟩
            · omega
            · obtain rfl : k = k' := by omega
              exact ⟨h2, h3⟩
          have hne : ((k : Int) != -1) = true := bne_iff_ne.2 (by omega)
          have hR := HH.out.below hA.b
          have k0 := hR.b0
          have kt := hR.t hk2
          have kr := hR.r hk2
          have kx := hR.x hk2
          have hbn := HOK.out.aT hk2
          have hgap := N.la_lt (N.aF k) k
          have yb := hA.rd.cell hbn
          have hkey := hbi.out.b.key a c hbi.out.qc
          replace yb : wr.cell? ⟨gD, N.aT k, none⟩ = some (.int .i64 (d (N.aT k))) := yb
          have hst := Lib.hid (hbi.out.step (k := k))
          rw [← hkc] at hst
          by_cases hr : 0 < R k
          · have q1 : decide (0 < R k) = true := decide_eq_true hr
            by_cases hd : d (N.aT k) = -1
            · have qd : (d (N.aT k) == -1) = true := beq_iff_eq.2 hd
              have hnew := hbi.out.found hk2 hbn hkc rfl hr hd
              have hnl := hnew.b.len
              rw [List.length_append, List.length_singleton] at hnl
              have hstep := hnew.step (k := k) (fun _ => by show (if N.aT k = N.aT k then _ else _) ≠ _; rw [if_pos rfl]; omega)
              have hstep2 : N.Bi R s a c (N.la (N.aF k) k) (q ++ [N.aT k]) (fun v => if v = N.aT k then d c + 1 else d v) := by rw [hkc]; exact hstep
              have hST := Lib.hid hstep2
              clear hstep2
              have yc := hA.rd.cell (i := c) (by rw [← hkc]; exact HOK.out.aF hk2)
              replace yc : wr.cell? ⟨gD, c, none⟩ = some (.int .i64 (d c)) := yc
              have yf := hA.rd.frozen (N.aT k)
              have hwrap : IntKind.i64.wrap (d c + 1) = d c + 1 := IntWalk.i64_in _ (by omega)
              have hBb : (((wr.setCell ⟨gD, N.aT k, none⟩ (.int .i64 (d c + 1))).alloc (.cells #[.int .i64 ((N.aT k : Nat) : Int)] 3))).heap[wr.heap.size]? = some (.cells #[.int .i64 ((N.aT k : Nat) : Int)] 3 (0, 0)) := by
                have := heap_alloc_new (wr.setCell ⟨gD, N.aT k, none⟩ (.int .i64 (d c + 1))) (.cells #[.int .i64 ((N.aT k : Nat) : Int)] 3)
                rw [show (wr.setCell ⟨gD, N.aT k, none⟩ (.int .i64 (d c + 1))).heap.size = wr.heap.size by simp [World.setCell]] at this
                exact this
              have hQ5 := (hA.rq.setOther (a := ⟨gD, N.aT k, none⟩) (by exact Ne.symm hgQ) (.int .i64 (d c + 1))).alloc (.cells #[.int .i64 ((N.aT k : Nat) : Int)] 3)
              have hD5 := ((hA.rd.set (N.aT k) (.int .i64 (d c + 1))).congr (g := ivals (fun v => if v = N.aT k then d c + 1 else d v)) (fun j _ => by
                show (if j = N.aT k then Value.int .i64 (d c + 1) else Value.int .i64 (d j)) = Value.int .i64 (if j = N.aT k then d c + 1 else d j)
                by_cases e : j = N.aT k
                · rw [if_pos e, if_pos e]
                · rw [if_neg e, if_neg e])).alloc (.cells #[.int .i64 ((N.aT k : Nat) : Int)] 3)
              have b5 := (hA.b.setCell (p := ⟨gD, N.aT k, none⟩) (by exact hgD1) (.int .i64 (d c + 1)))
              have b6 := b5.alloc b5.size (.cells #[.int .i64 ((N.aT k : Nat) : Int)] 3)
              have HBb := Lib.hid hBb
              have HC : Hid ((((wr.setCell ⟨gD, N.aT k, none⟩ (.int .i64 (d c + 1))).alloc (.cells #[.int .i64 ((N.aT k : Nat) : Int)] 3)).cell? ⟨gQ, q.length, none⟩).isSome = true) := by show _ = _; rw [hQ5.cell (i := q.length) (by omega)]; rfl
              have HF := Lib.hid (hQ5.frozen q.length)
              have hBF : BfAt w ((((wr.setCell ⟨gD, N.aT k, none⟩ (.int .i64 (d c + 1))).alloc (.cells #[.int .i64 ((N.aT k : Nat) : Int)] 3))).setCell ⟨gQ, q.length, none⟩ (.int .i64 ((N.aT k : Nat) : Int))) N gD gQ (q ++ [N.aT k]) (fun v => if v = N.aT k then d c + 1 else d v) :=
                ⟨(hQ5.set q.length (.int .i64 ((N.aT k : Nat) : Int))).congr (fun j hj => qc_snoc q (N.aT k) j hj), hD5.setOther (by exact hgQ) _, fun v hv => by
                  show (if v = N.aT k then _ else _) = _ ∨ 0 ≤ (if v = N.aT k then _ else _)
                  by_cases e : v = N.aT k
                  · rw [if_pos e]; right; omega
                  · rw [if_neg e]; exact hA.m v hv, b6.setCell (by exact hgQ2) _⟩
              have HBF := Lib.hid hBF
              rw [hd] at yb
              have hlq : q.length + 1 ≤ N.n := hnl
              clear hst hbi hnew hstep hQ5 hD5 b5 b6 hBF hBb hR hd hr hA hnl
              generalize N.aT k = b at *
              generalize R k = rk at *
              generalize d c = dc at *
              generalize hK1 : N.la (N.aF k) k = K1 at *
              have HK1 := Lib.hid hK1
              clear hK1
              go_wp2_with (at_builtin; refine append_in _ rfl (.tmp 88) (.tmp 90) rfl gQ q.length N.n rfl wr.heap.size b rfl HBb.out hlq HC.out HF.out (fun W => BfAt w W N gD gQ (q ++ [b]) (fun v => if v = b then dc + 1 else d v)) HBF.out ?_)
              intro w5 hA5
              clear HBF HBb HC HF k0 kt kr kx
              have hR5 := HH.out.below hA5.b
              have k0 := hR5.b0
              have kx := hR5.x hk2
              replace kx : w5.cell? ⟨gA, k * 4 + 3, none⟩ = some (.int .i64 K1) := by rw [kx, ← HK1.out]
              go_wp2_with fail
              go_roundw
              case rel => exact ⟨q ++ [b], _, K1, by rw [List.length_append, List.length_singleton], rfl, hgap.2, by rw [List.length_append, List.length_singleton]; omega, hST, hA5⟩
              case measure => simp [intOf]; omega
            · have qd : (d (N.aT k) == -1) = false := beq_false_of_ne hd
              have hst2 := Lib.hid (hst.out (fun _ => hd))
              clear hst hr hR hd
              generalize N.aT k = b at *
              generalize R k = rk at *
              generalize d b = db at *
              generalize N.la (N.aF k) k = K1 at *
              go_wp2_with fail
              go_roundw
              case rel => exact ⟨q, d, K1, rfl, rfl, hgap.2, hlt, by rw [← hkc]; exact hst2, hA⟩
              case measure => simp [intOf]; omega
          · have q1 : decide (0 < R k) = false := decide_eq_false hr
            have hst2 := Lib.hid (hst.out (fun h => absurd h hr))
            clear hst hr hR
            generalize N.aT k = b at *
            generalize R k = rk at *
            generalize N.la (N.aF k) k = K1 at *
            go_wp2_with fail
            go_roundw
            case rel => exact ⟨q, d, K1, rfl, rfl, hgap.2, hlt, by rw [← hkc]; exact hst2, hA⟩
            case measure => simp [intOf]; omega
    · have hd := Lib.hid (hbf.out.dst HOK.out (by omega) hA.m)
      go_wp2_with fail
      go_ret
      exact ⟨gD, d, rfl, hA.rd, hd.out, hgD1, hA.b⟩
end Go.Proofs.Ytjdceafkcakbjaa
