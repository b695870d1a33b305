/- The contracts of the reference on sets: Empty, Of, Members, and what is made of them. -/
import Derived.Test.YtijghglppgihmaaDoorSets
import Derived.RegionTactic
namespace Go.Proofs.YtijghglppgihmaaDoor
open Go.RowKit
theorem Tryd.info3 : (Tryd.prog.info? 3).map (fun i => (i.zero, i.size, i.bytes)) = some (some (.int .i64 0), 1, 8) := by kernel_rfl
theorem Tryd.info54 : (Tryd.prog.info? 54).map (fun i => (i.zero, i.size, i.bytes)) = some (some (.int .u64 0), 1, 8) := by kernel_rfl
/- what a function that returns a new slice of numbers leaves -/
def RowOut (w : World) (l : List Nat) (e : Ending) (w' : World) : Prop := ∃ v, e = .returned v ∧ w'.ownsRow w.heap.size 3 1 v l.length (vals l) ∧ Below w.heap.size w w'
theorem grown_below {w wr w1 : World} {base : Nat} {e : TypeId} {size : Nat} {v : Value} {n : Nat} {xs : List Value} {o : Obj} (h : Below w.heap.size w wr) (hown : wr.ownsRow base e size v n xs) (hb : w.heap.size ≤ base) (hg : (wr.alloc o).grownBy w1 v.ownBlock) : Below w.heap.size w w1 :=
  (h.alloc h.size o).grown hg (by have := h.size; simp; omega) (fun k hk => Nat.le_trans hb (hown.lt k hk).1)
theorem one_grown {w wr w1 : World} {N : Int} {A : Option Addr} {la ca : Nat} {e : TypeId} {size : Nat} {v : Value} {n : Nat} {xs : List Value} {o : Obj} (h : One w wr N A la ca) (hown : wr.ownsRow (w.heap.size + 1) e size v n xs) (hg : (wr.alloc o).grownBy w1 v.ownBlock) : One w w1 N A la ca :=
  ⟨(hg.block w.heap.size (by have := h.s.lt; simp; omega) (fun e => by have := (hown.lt _ e.symm).1; omega)).trans (h.s.alloc o), grown_below h.b hown (by omega) hg⟩
theorem own_below {w w' : World} {base : Nat} {e : TypeId} {size : Nat} {v : Value} {n : Nat} {xs : List Value} (h : w.ownsRow base e size v n xs) (hb : Below w.heap.size w w') : w'.ownsRow base e size v n xs :=
  h.kept (row := none) ⟨hb.os, hb.tape, hb.output, hb.size, fun k hk _ => hb.block k hk⟩ (by cases v.ownBlock <;> simp)
/- append of one number to a slice of the call's own -/
theorem append_one {ops : Array Oper} {rest : List Oper} {o : Oper} {a : Act} {Q : Exit → Act → World → Prop} (hgd : o.guard = none) (s x : Operand)
    (ho : o.op = .call { callee := .builtin .append, args := #[s, x], argTypes := #[25, 25] }) (base : Nat) (v : Value) (l : List Nat) (I : Int) (J : Nat) (w : World) (hs : a.eval s = v)
    (hown : w.ownsRow base 3 1 v l.length (vals l)) (hx : a.eval x = .slice (some ⟨w.heap.size, 0, none⟩) 1 1) (hl : l.length ≤ 1000000) (hbase : base ≤ w.heap.size) (hI : (J : Int) = I)
    (h : ∀ v' w', w'.ownsRow base 3 1 v' (l ++ [J]).length (vals (l ++ [J])) → (w.alloc (.cells #[.int .i64 I] 3)).grownBy w' v.ownBlock → wpList Tryd.prog ops Q rest (a.put o.dst v') w') :
    wpList Tryd.prog ops Q (o :: rest) a (w.alloc (.cells #[.int .i64 I] 3)) := by
  subst hI
  obtain ⟨i0, hi0, hz0, hz1, hz2⟩ := info_parts Tryd.info3
  refine wpList_append_own _ hgd s x 25 ho base 3 i0 (.int .i64 0) 1 8 Tryd.underlying25 hi0 hz0 hz1 hz2 rfl (by decide) v l.length (vals l) hs (hown.alloc _) ⟨w.heap.size, 0, none⟩ 1 1 [.int .i64 (J : Int)] hx rfl
    ?_ (by intro u hu; rw [List.mem_singleton.1 hu]; rfl) (by unfold maxLen; omega) (by omega) (by simp; omega) (fun v' w' h1 h2 _ => h v' w' ?_ h2)
  · intro j u hu
    match j with
    | 0 =>
      have hu' : Value.int .i64 (J : Int) = u := by simpa using hu
      subst hu'
      exact cell_of_row _ _ 0 _ _ _ (heap_alloc_new w _)
    | j + 1 => simp at hu
  · rw [vals_snoc, List.length_append]; exact h1
set_option maxHeartbeats 1000000 in
theorem refMembers_any (N : Nat) (A : Option Addr) (len cap : Nat) (f : Nat → Nat) (w : World) (h : Wds w A len f) (hN : N ≤ 64 * len) (hl : len ≤ 9) :
    Calls Tryd.prog 23 #[.agg #[.int .i64 N, .slice A len cap]] w (RowOut w (mem f N)) := by
  have HW := Lib.hid h; clear h
  go_enter Tryd.func23, Tryd.ntmps23
  go_wp2
  go_loopw [3, 4] (fun x i wr => ∃ (I : Nat) (v : Value), I ≤ N ∧ i = .int .i64 I ∧ v = x ∧ wr.ownsRow (w.heap.size + 1) 3 1 v (mem f I).length (vals (mem f I)) ∧ One w wr N A len cap) (fun _ i _ => N - (intOf i).toNat)
  case atStart => exact ⟨0, _, by omega, rfl, rfl, World.ownsRow_nil _ _ _ _, one_new w N A len cap⟩
  case round =>
    obtain ⟨I, v, hI, rfl, rfl, hown, hO⟩ := hrel
    have c0 := hO.s.c0
    have c1 := hO.s.c1
    by_cases hlt : I < N
    · have HW2 : Hid (Wds wr A len f) := HW.out.below hO.b
      have HM := Lib.hid (mem_succ f I)
      have hml := mem_len_le f I
      cases hb : bt f I
      · have HB := Lib.hid hb; clear hb
        go_wp2_with fail
        refine (bit_any N A len cap f I false _ HW2.out (by omega) (by omega) HB.out).mono ?_; rintro e w2 ⟨rfl, b2⟩
        have hown2 := own_below hown b2
        go_wp2_with fail
        go_roundw
        case rel => exact ⟨I + 1, v, by omega, by go_num, rfl, by rw [HM.out, HB.out]; simpa using hown2, hO.next b2⟩
        case measure => simp [intOf]; omega
      · have HB := Lib.hid hb; clear hb
        go_wp2_with fail
        refine (bit_any N A len cap f I true _ HW2.out (by omega) (by omega) HB.out).mono ?_; rintro e w2 ⟨rfl, b2⟩
        have hown2 := own_below hown b2
        have hO2 := hO.next b2
        go_wp2_with (at_builtin; refine append_one rfl (.tmp 14) (.tmp 16) rfl (w.heap.size + 1) v (mem f I) I I w2 rfl hown2 rfl (by omega) (by have := hO2.s.lt; omega) rfl ?_)
        intro v' w3 hown3 hg3
        go_wp2_with fail
        go_roundw
        case rel => exact ⟨I + 1, v', by omega, by go_num, rfl, by rw [HM.out, HB.out]; simpa using hown3, one_grown hO2 hown2 hg3⟩
        case measure => simp [intOf]; omega
    · obtain rfl : I = N := by omega
      go_wp2_with fail
      go_ret
      exact ⟨v, rfl, own_mono hown (by omega), hO.b⟩
end Go.Proofs.YtijghglppgihmaaDoor
