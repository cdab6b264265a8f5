/-
  pack.put, times, putSymbols.
-/
import Derived.Test.YthehjhckcblbdaaPacKa
import Derived.Test.YthehjhckcblbdaaPacWm
import Derived.Test.YthehjhckcblbdaaHufX
import Derived.Laws.AppendOwnNone
namespace Go.Proofs.Ythehjhckcblbdaa.Pk
set_option maxRecDepth 100000
open Go.RowKit Mt Ma Mb Cn Hf Go.Lib
theorem infoB : (Try.prog.info? 4).map (fun i => (i.zero, i.size, i.bytes)) = some (some (.bool false), 1, 1) := by kernel_rfl
/-- a row of bits of the call's own, nil or not -/
structure RowV (base : Nat) (w0 w : World) (v : Value) (l : List Bool) : Prop where
  own : w.ownsRow base 4 1 v l.length (flv l)
  below : Below base w0 w
  room : base ≤ w0.heap.size
theorem RowV.size {base : Nat} {w0 w : World} {v : Value} {l : List Bool} (h : RowV base w0 w v l) : base ≤ w.heap.size := Nat.le_trans h.room h.below.size
theorem RowV.later {base : Nat} {w0 w w' : World} {v : Value} {l : List Bool} (h : RowV base w0 w v l) (hb : Below w.heap.size w w') : RowV base w0 w' v l :=
  ⟨own_keep h.own hb, h.below.trans (hb.mono h.size), h.room⟩
theorem RowV.more {base : Nat} {w0 w w' : World} {v v' : Value} {l m : List Bool} (h : RowV base w0 w v l) (hown : w'.ownsRow base 4 1 v' (l.length + m.length) (flv (l ++ m))) (hg : w.grownBy w' v.ownBlock) : RowV base w0 w' v' (l ++ m) :=
  ⟨by rw [List.length_append]; exact hown, h.below.grown hg h.size (fun b hb => (h.own.lt b hb).1), h.room⟩
theorem RowV.none {base : Nat} {w0 w : World} (hb : Below base w0 w) (hr : base ≤ w0.heap.size) : RowV base w0 w (.slice Option.none 0 0) [] :=
  ⟨World.ownsRow_nil _ _ _ _, hb, hr⟩
theorem own_flags {w : World} {B n c : Nat} {q : Option Addr} {l : List Bool} (h : w.ownsRow B 4 1 (.slice q n c) n (flv l)) (hn : l.length = n) : FlagsLie w q l c := by
  rcases h.2 with ⟨h1, h2⟩ | ⟨g', cap', cur, h1, _, _, h2, h3, _⟩
  · cases h1
    exact ⟨by omega, Nat.zero_le _, .inl (List.length_eq_zero_iff.1 (by omega))⟩
  · cases h1
    refine ⟨by omega, h3, .inr ⟨g', 0, rfl, fun i hi => ?_⟩⟩
    have := h.cells (g := g') rfl i (.bool (l.getD i false)) (by unfold flv; rw [List.getElem?_map, List.getElem?_eq_getElem hi]; simp [hi])
    rwa [Addr.add_lit] at this
/-- append of a row of bits, nil or not -/
theorem wpList_append_bits (w : World) {ops : Array Oper} {rest : List Oper} {o : Oper} {a : Act} {Q : Exit → Act → World → Prop} (hgd : o.guard = none) (s x : Operand)
    (ho : o.op = .call { callee := .builtin .append, args := #[s, x], argTypes := #[33, 33] })
    (base : Nat) (v : Value) (l : List Bool) (hs : a.eval s = v) (hown : w.ownsRow base 4 1 v l.length (flv l))
    (B2 : Nat) (u : Value) (m : List Bool) (hx : a.eval x = u) (hu : w.ownsRow B2 4 1 u m.length (flv m)) (hlen : l.length + m.length ≤ 100000000) (hbase : base ≤ w.heap.size)
    (h : ∀ v' w', w'.ownsRow base 4 1 v' (l.length + m.length) (flv (l ++ m)) → w.grownBy w' v.ownBlock → wpList Try.prog ops Q rest (a.put o.dst v') w') : wpList Try.prog ops Q (o :: rest) a w := by
  obtain ⟨i0, hi0, hz0, hz1, hz2⟩ := info_parts infoB
  rcases hu.2 with ⟨rfl, h0⟩ | ⟨g, cap, cur, rfl, _⟩
  · obtain rfl : m = [] := List.length_eq_zero_iff.1 h0
    refine wpList_append_own_none hgd s x 33 ho base 4 i0 1 Try.underlying33 hi0 v _ _ hs hown hx ?_
    exact h v w (by simpa using hown) ⟨rfl, rfl, rfl, Nat.le_refl _, fun _ _ _ => rfl⟩
  · refine wpList_append_own w hgd s x 33 ho base 4 i0 (.bool false) 1 1 Try.underlying33 hi0 hz0 hz1 hz2 rfl (by decide) v _ (flv l) hs hown ⟨g, 0, none⟩ m.length cap (flv m) hx (by rw [flv_length, Nat.mul_one]) (hu.cells (g := g) rfl) (flv_one m) (by unfold maxLen; omega) (by omega) hbase ?_
    intro v' w' h1 h2 _
    exact h v' w' (by rw [show flv (l ++ m) = flv l ++ flv m from List.map_append]; exact h1) h2
set_option maxHeartbeats 1000000 in
theorem put_code (base : Nat) (w0 : World) (l : List Bool) (hl : l.length ≤ 1000000) (x n : Nat) (hn : n ≤ 30) (hx : x < 2 ^ n) (v : Value) (w : World) (H : RowV base w0 w v l) :
    Calls Try.prog 35 #[v, .int .i64 x, .int .i64 n] w fun e w' => ∃ v', e = .returned v' ∧ RowV base w0 w' v' (l ++ dig x n) ∧ w.grownBy w' v.ownBlock := by
  have hp := put_nil x n hn hx w
  have HR := Lib.hid H
  have HL := Lib.hid hl
  have HN := Lib.hid hn
  clear H hl hx hn
  go_enter Try.func35, Try.ntmps35
  go_wp2_with fail
  go_at_call 64
  refine hp.mono ?_
  rintro e w1 ⟨g, c, rfl, hB⟩
  have HR1 := Lib.hid (HR.out.later hB.below)
  have HB := Lib.hid hB
  have HG : Hid (∀ w2, w1.grownBy w2 v.ownBlock → w.grownBy w2 v.ownBlock) := Lib.hid fun w2 h2 => ⟨h2.os.trans hB.below.os, h2.tape.trans hB.below.tape, h2.output.trans hB.below.output, Nat.le_trans hB.below.size h2.size, fun i hi hne => (h2.block i (Nat.lt_of_lt_of_le hi hB.below.size) hne).trans (hB.below.block i hi)⟩
  clear hp hB HR
  go_wp2_with (with_reducible refine stop_append ?_)
  unfold Stop
  refine wpList_append_bits _ rfl _ _ rfl base v l rfl HR1.out.own w.heap.size (.slice (some ⟨g, 0, none⟩) (dig x n).length c) (dig x n) rfl HB.out.own (by rw [dig_length]; have := HL.out; have := HN.out; omega) HR1.out.size ?_
  intro v' w2 own2 gr2
  have HR2 := Lib.hid (HR1.out.more own2 gr2)
  have HG2 := Lib.hid (HG.out _ gr2)
  clear own2 gr2
  go_wp2
  go_ret
  exact ⟨_, rfl, HR2.out, HG2.out⟩
set_option maxHeartbeats 2000000 in
theorem times_code (T : List Tok) (n : Nat) (hn : T.length = n) (h1000 : n ≤ 1000) (hm : ∀ t, t ∈ T → may t = true) (p : Option Addr) (cp : Nat) (w : World) (h : ToksLie w p T cp) :
    Calls Try.prog 31 #[.slice p n cp] w fun e w' => e = .returned (.slice (some ⟨w.heap.size, 0, none⟩) 272 272) ∧ w'.ownsRow w.heap.size 3 1 (.slice (some ⟨w.heap.size, 0, none⟩) 272 272) 272 (intsN (freq T)) ∧ Below w.heap.size w w' := by
  have mk : ∀ w : World, (Instr.makeSlice 50 (.int .i64 272) (.int .i64 272)).run Try.prog w = .ok (.slice (some ⟨w.heap.size, 0, none⟩) 272 272) (w.alloc (.cells (madeCells #[.int .i64 0] 272) 3)) := fun w => make_row 272 (by decide) w
  have R0 := Lib.hid (made_row w 272 (by decide))
  rw [← freq_nil] at R0
  have B0 := Lib.hid ((Below.refl w.heap.size w).alloc (Nat.le_refl _) (.cells (madeCells #[.int .i64 0] 272) 3))
  obtain ⟨C, hC⟩ : ∃ C, C = madeCells #[.int .i64 0] 272 := ⟨_, rfl⟩
  rw [← hC] at R0 B0 mk
  have HL := Lib.hid h
  have Hn := Lib.hid hn
  have HM := Lib.hid hm
  have zn : (n : Int) ≤ 1000 := by omega
  have zcp : (n : Int) ≤ cp := by have := h.len; omega
  clear h hn hm hC
  go_enter Try.func31, Try.ntmps31
  go_wp2
  go_loopw [9] (fun i wr => ∃ k : Nat, i = .int .i64 k ∧ k ≤ n ∧ Hid (wr.ownsRow w.heap.size 3 1 (.slice (some ⟨w.heap.size, 0, none⟩) 272 272) 272 (intsN (freq (T.take k)))) ∧ Hid (Below w.heap.size w wr)) (fun i _ => n - (RowKit.intOf i).toNat)
  case atStart => exact ⟨0, rfl, Nat.zero_le _, R0, B0⟩
  case round =>
    clear R0 B0
    obtain ⟨k, rfl, hk, HR, HW⟩ := hrel
    by_cases hlt : k < n
    · have hkT : k < T.length := by rw [Hn.out]; exact hlt
      obtain ⟨blk, off, rfl, hA⟩ := HL.out.at hkT
      obtain ⟨a1, a2, a3⟩ := Ma.may_at hA HW.out k hkT
      have hmt := HM.out T[k] (List.getElem_mem hkT)
      have HF2 : Hid (freq (T.take (k + 1)) = (freq (T.take k)).set (symT T[k]) ((freq (T.take k)).getD (symT T[k]) 0 + 1)) := Lib.hid (by rw [List.take_succ_eq_append_getElem hkT, freq_snoc _ _ (symT_lt hmt)])
      have hfl := freq_le (T.take k) (symT T[k])
      rw [List.length_take] at hfl
      have hs := symT_lt hmt
      have ks : ∀ w, Calls Try.prog 34 #[.agg #[.int .i64 T[k].byte, .int .i64 T[k].dist, .int .i64 T[k].len]] w fun e w' => e = .returned (.int .i64 (symT T[k] : Nat)) ∧ Below w.heap.size w w' := fun w => by
        have := sym_code T[k] w
        rw [show symA T[k] = (symT T[k] : Int) by unfold symA; rw [if_pos hmt]] at this
        exact this
      generalize T[k] = t at *
      generalize symT t = s at *
      generalize hx : (freq (T.take k)).getD s 0 = x at *
      have zx : (x : Int) ≤ 1000 := by omega
      have zs : (s : Int) < 272 := by omega
      have zk : (k : Int) < n := by omega
      have HB := Lib.hid (HW.out.alloc HW.out.size (.cells #[.int .i64 t.byte, .int .i64 t.dist, .int .i64 t.len] 48))
      have HRb := Lib.hid (HR.out.alloc (.cells #[.int .i64 t.byte, .int .i64 t.dist, .int .i64 t.len] 48))
      have HXs : Hid ((freq (T.take k))[s]? = some x) := Lib.hid (by
        have hl : s < (freq (T.take k)).length := by rw [freq_length]; exact hs
        rw [List.getElem?_eq_getElem hl]
        rw [List.getD_eq_getElem?_getD, List.getElem?_eq_getElem hl] at hx
        exact congrArg some hx)
      clear hA hmt hfl hx HR HW
      go_wp2_with fail
      go_at_call 34
      refine (ks _).mono ?_
      rintro e w1 ⟨rfl, hb1⟩
      have HB1 := Lib.hid (HB.out.trans (hb1.mono HB.out.size))
      have HR1 := Lib.hid (own_keep HRb.out hb1)
      have c1 : w1.cell? ⟨w.heap.size, s, none⟩ = some (.int .i64 (x : Nat)) := (HR1.out.cellAt s (by omega)).trans (by unfold intsN; rw [List.getElem?_map, HXs.out]; rfl)
      have f1 := HR1.out.frozenAt s
      obtain ⟨st1, st2⟩ := HR1.out.stored s (.int .i64 ((x + 1 : Nat) : Int))
      rw [← Go.Proofs.Ythehjhckcblbdaa.ints_set, ← HF2.out] at st1
      have HW2 := Lib.hid (HB1.out.grown st2 HB1.out.size (fun b hb => by cases hb; exact Nat.le_refl _))
      replace st1 := Lib.hid st1
      have e1 : ((x + 1 : Nat) : Int) = (x : Int) + 1 := by omega
      rw [e1] at st1 HW2
      clear st2 hb1 ks HB HRb HB1 HR1 a1 a2 a3 e1
      go_wp2
      go_roundw
      case measure => simp [RowKit.intOf]; omega
      case rel => exact ⟨k + 1, by go_num, by omega, st1, HW2⟩
    · have e : n = k := by omega
      subst e
      rw [List.take_of_length_le (by rw [Hn.out]; exact Nat.le_refl _)] at HR
      clear hlt hk
      go_wp2
      go_ret
      exact ⟨rfl, HR.out, HW.out⟩
end Go.Proofs.Ythehjhckcblbdaa.Pk

