/-
  Lists of numbers that lie in memory; a walk that stands still at an append; the document's May, Deep, and its sameness of lists of numbers.
-/
import Derived.Test.YtengkkbiceennaaGe
import Derived.Test.YtengkkbiceennaaHufLn
namespace Go.Proofs.Ytengkkbiceennaa
open Go.RowKit Go.Lib
theorem ret_bool {a b : Bool} (h : a = b) : Ending.returned (.bool a) = .returned (.bool b) := by rw [h]
/-- a walk stands still here -/
def Stop (p : Prop) : Prop := p
theorem stop_append {P : Program} {ops : Array Oper} {rest : List Oper} {a : Act} {Q : Exit → Act → World → Prop} {w : World} {dst : Option Tmp} {ty : TypeId} {ps : String} {af : Array Edge} {t : TypeId} {x y : Operand}
    (h : Stop (wpList P ops Q (⟨dst, Op.call { callee := Callee.builtin Builtin.append, args := #[x, y], argTypes := #[t, t] }, ty, ps, af, none⟩ :: rest) a w)) :
    wpList P ops Q (⟨dst, Op.call { callee := Callee.builtin Builtin.append, args := #[x, y], argTypes := #[t, t] }, ty, ps, af, none⟩ :: rest) a w := h
/-- numbers that lie from a place on -/
def IntsAt (w : World) (blk off : Nat) (L : List Int) : Prop := ∀ i (h : i < L.length), w.cell? ⟨blk, off + i, none⟩ = some (.int .i64 L[i])
theorem IntsAt.below {w w' : World} {blk off : Nat} {L : List Int} (h : IntsAt w blk off L) (hb : Below w.heap.size w w') : IntsAt w' blk off L := fun i hi => by
  rw [hb.cell (p := ⟨blk, off + i, none⟩) (World.block_lt_of_cell? w _ (h i hi))]; exact h i hi
/-- a list of numbers, and where it lies -/
structure IntsLie (w : World) (p : Option Addr) (L : List Int) (cap : Nat) : Prop where
  len : L.length ≤ cap
  cap : cap ≤ maxLen
  lies : L = [] ∨ ∃ blk off, p = some ⟨blk, off, none⟩ ∧ IntsAt w blk off L
theorem IntsLie.below {w w' : World} {p : Option Addr} {L : List Int} {cap : Nat} (h : IntsLie w p L cap) (hb : Below w.heap.size w w') : IntsLie w' p L cap :=
  ⟨h.len, h.cap, h.lies.imp id fun ⟨blk, off, e, k⟩ => ⟨blk, off, e, k.below hb⟩⟩
theorem IntsLie.at {w : World} {p : Option Addr} {L : List Int} {cap : Nat} (h : IntsLie w p L cap) {i : Nat} (hi : i < L.length) : ∃ blk off, p = some ⟨blk, off, none⟩ ∧ IntsAt w blk off L := by
  rcases h.lies with rfl | h
  · simp at hi
  · exact h
theorem all_take {α : Type} (L : List α) (q : α → Bool) (i : Nat) (h : i < L.length) : (L.take (i + 1)).all q = ((L.take i).all q && q L[i]) := by
  rw [List.take_succ_eq_append_getElem h, List.all_append]; simp
def mayI (x : Int) : Bool := decide (0 ≤ x) && decide (x ≤ 100000)
set_option maxHeartbeats 1000000 in
theorem may_doc (L : List Int) (p : Option Addr) (cap : Nat) (w : World) (h : IntsLie w p L cap) (hl : L.length ≤ 281474976710656) :
    Calls Try.prog 9 #[.slice p L.length cap] w fun e w' => e = .returned (.bool (L.all mayI && decide (L.length ≤ 300))) ∧ w' = w := by
  have HI := Lib.hid h
  have zl : (L.length : Int) ≤ 281474976710656 := by omega
  clear h hl
  go_enter Try.func9, Try.ntmps9
  go_wp2
  go_loop [3] (fun v => ∃ i : Nat, i ≤ L.length ∧ v = .int .i64 i ∧ Hid ((L.take i).all mayI = true)) (fun v => L.length - (RowKit.intOf v).toNat)
  case atStart => exact ⟨0, Nat.zero_le _, rfl, by show _ = _; rfl⟩
  case round =>
    obtain ⟨i, hi, rfl, HA⟩ := hrel
    by_cases hlt : i < L.length
    · obtain ⟨blk, off, rfl, hc⟩ := HI.out.at hlt
      have c := hc i hlt
      have HS := Lib.hid (all_take L mayI i hlt)
      have HM := Lib.hid (fun (hx : mayI L[i] = false) => show L.all mayI = false from List.all_eq_false.2 ⟨L[i], List.getElem_mem hlt, by rw [hx]; simp⟩)
      generalize L[i] = x at c HS HM
      have ii : (i : Int) < L.length := by omega
      have hcap : (L.length : Int) ≤ cap := by have := HI.out.len; omega
      clear hc
      by_cases h0 : x < 0
      · have HF := Lib.hid (HM.out (by simp [mayI]; omega))
        clear HM HS
        go_wp2
        go_ret
        exact ⟨ret_bool (by rw [HF.out]; rfl), rfl⟩
      · by_cases h1 : 100000 < x
        · have HF := Lib.hid (HM.out (by simp [mayI]; omega))
          have h0' : 0 ≤ x := by omega
          clear HM HS h0
          go_wp2
          go_ret
          exact ⟨ret_bool (by rw [HF.out]; rfl), rfl⟩
        · have HT : Hid ((L.take (i + 1)).all mayI = true) := by
            show _ = _
            rw [HS.out, HA.out]; simp [mayI]; omega
          have h0' : 0 ≤ x := by omega
          have h1' : x ≤ 100000 := by omega
          clear HM HS h0 h1
          go_wp2
          go_round
          case rel => exact ⟨i + 1, by omega, by go_num, HT⟩
          case measure => simp [RowKit.intOf]; omega
    · have e : i = L.length := by omega
      subst e
      have HT : Hid (L.all mayI = true) := by have := HA.out; rw [List.take_length] at this; exact this
      clear HA
      go_wp2
      go_ret
      exact ⟨ret_bool (by rw [HT.out]; simp; omega), rfl⟩
set_option maxHeartbeats 1000000 in
theorem deep_doc (L : List Int) (p : Option Addr) (cap : Nat) (w : World) (h : IntsLie w p L cap) (hl : L.length ≤ 281474976710656) :
    Calls Try.prog 13 #[.slice p L.length cap] w fun e w' => e = .returned (.bool (L.any fun x => decide (15 < x))) ∧ w' = w := by
  have HI := Lib.hid h
  have zl : (L.length : Int) ≤ 281474976710656 := by omega
  clear h hl
  go_enter Try.func13, Try.ntmps13
  go_wp2
  go_loop [3] (fun v => ∃ i : Nat, i ≤ L.length ∧ v = .int .i64 i ∧ Hid ((L.take i).any (fun x => decide (15 < x)) = false)) (fun v => L.length - (RowKit.intOf v).toNat)
  case atStart => exact ⟨0, Nat.zero_le _, rfl, by show _ = _; rfl⟩
  case round =>
    obtain ⟨i, hi, rfl, HA⟩ := hrel
    by_cases hlt : i < L.length
    · obtain ⟨blk, off, rfl, hc⟩ := HI.out.at hlt
      have c := hc i hlt
      have HS : Hid ((L.take (i + 1)).any (fun x => decide (15 < x)) = ((L.take i).any (fun x => decide (15 < x)) || decide (15 < L[i]))) := by
        show _ = _
        rw [List.take_succ_eq_append_getElem hlt, List.any_append]; simp
      have HM := Lib.hid (fun (hx : 15 < L[i]) => show L.any (fun x => decide (15 < x)) = true from List.any_eq_true.2 ⟨L[i], List.getElem_mem hlt, by simpa using hx⟩)
      generalize L[i] = x at c HS HM
      have ii : (i : Int) < L.length := by omega
      have hcap : (L.length : Int) ≤ cap := by have := HI.out.len; omega
      clear hc
      by_cases h1 : 15 < x
      · have HF := Lib.hid (HM.out h1)
        clear HM HS
        go_wp2
        go_ret
        exact ⟨ret_bool (by rw [HF.out]), rfl⟩
      · have HT : Hid ((L.take (i + 1)).any (fun x => decide (15 < x)) = false) := by
          show _ = _
          rw [HS.out, HA.out]; simp; omega
        have h1' : x ≤ 15 := by omega
        clear HM HS h1
        go_wp2
        go_round
        case rel => exact ⟨i + 1, by omega, by go_num, HT⟩
        case measure => simp [RowKit.intOf]; omega
    · have e : i = L.length := by omega
      subst e
      have HT : Hid (L.any (fun x => decide (15 < x)) = false) := by have := HA.out; rw [List.take_length] at this; exact this
      clear HA
      go_wp2
      go_ret
      exact ⟨ret_bool (by rw [HT.out]), rfl⟩
theorem get_at {L R : List Int} (hn : L.length = R.length) (i : Nat) (h : i < L.length) : ∃ (h2 : i < R.length), (L.take (i + 1) = R.take (i + 1) ↔ L.take i = R.take i ∧ L[i] = R[i]) := by
  have h2 : i < R.length := by omega
  refine ⟨h2, ?_⟩
  rw [List.take_succ_eq_append_getElem h, List.take_succ_eq_append_getElem h2]
  constructor
  · intro e
    have := List.append_inj e (by simp; omega)
    exact ⟨this.1, by simpa using this.2⟩
  · rintro ⟨e1, e2⟩; rw [e1, e2]
set_option maxHeartbeats 1000000 in
theorem ints_doc (L R : List Int) (p q : Option Addr) (c1 c2 : Nat) (w : World) (h : IntsLie w p L c1) (h' : IntsLie w q R c2) (hl : L.length ≤ 281474976710656) (hr : R.length ≤ 281474976710656) :
    Calls Try.prog 16 #[.slice p L.length c1, .slice q R.length c2] w fun e w' => e = .returned (.bool (decide (L = R))) ∧ Below w.heap.size w w' := by
  have HI := Lib.hid h
  have HJ := Lib.hid h'
  have HB := Lib.hid (Below.refl w.heap.size w)
  have zl : (L.length : Int) ≤ 281474976710656 := by omega
  have zr : (R.length : Int) ≤ 281474976710656 := by omega
  clear h h' hl hr
  by_cases hn : L.length = R.length
  · have HN := Lib.hid hn
    generalize hA : decide (L = R) = ans
    replace hA := Lib.hid hA
    rw [← hn] at zr ⊢
    clear hn
    go_enter Try.func16, Try.ntmps16
    go_wp2
    go_loopw [5] (fun v wr => ∃ i : Nat, i ≤ L.length ∧ v = .int .i64 i ∧ Hid (L.take i = R.take i) ∧ Hid (Below w.heap.size w wr)) (fun v _ => L.length - (RowKit.intOf v).toNat)
    case atStart => exact ⟨0, Nat.zero_le _, rfl, by show _ = _; rfl, HB⟩
    case round =>
      obtain ⟨i, hi, rfl, HA, HW⟩ := hrel
      by_cases hlt : i < L.length
      · obtain ⟨blk, off, rfl, hc⟩ := (HI.out.below HW.out).at hlt
        obtain ⟨blk2, off2, rfl, hc2⟩ := (HJ.out.below HW.out).at (by rw [← HN.out]; exact hlt)
        obtain ⟨h2, hst⟩ := get_at HN.out i hlt
        have k1 := hc i hlt
        have k2 := hc2 i h2
        have HS := Lib.hid hst
        have HM := Lib.hid (fun (hx : ¬ L[i] = R[i]) (e : L = R) => hx (by simp only [e]))
        clear hst hc hc2
        generalize L[i] = x at k1 HS HM
        generalize R[i] = y at k2 HS HM
        have ii : (i : Int) < L.length := by omega
        have hcap : (L.length : Int) ≤ c1 := by have := HI.out.len; omega
        have hcap2 : (L.length : Int) ≤ c2 := by have := HJ.out.len; have := HN.out; omega
        clear h2
        by_cases hxy : x = y
        · subst hxy
          have HT : Hid (L.take (i + 1) = R.take (i + 1)) := Lib.hid (HS.out.2 ⟨HA.out, rfl⟩)
          clear HM HS
          go_wp2_with fail
          go_quiet (fail)
          simp only [Exit.then]
          go_wp2
          go_roundw
          case rel => exact ⟨i + 1, by omega, by go_num, HT, Lib.hid (below_drewN HW.out _)⟩
          case measure => simp [RowKit.intOf]; omega
        · have HF : Hid (ans = false) := by show _ = _; rw [← hA.out]; exact decide_eq_false (HM.out hxy)
          clear HM HS
          go_wp2_with fail
          go_quiet (fail)
          simp only [Exit.then]
          go_wp2
          go_ret
          exact ⟨ret_bool HF.out.symm, below_drewN HW.out _⟩
      · have e : i = L.length := by omega
        subst e
        have HT : Hid (ans = true) := by
          show _ = _
          rw [← hA.out]
          have := HA.out
          rw [List.take_length, HN.out, List.take_length] at this
          exact decide_eq_true this
        clear HA
        go_wp2
        go_ret
        exact ⟨ret_bool HT.out.symm, HW.out⟩
  · have HF : Hid (decide (L = R) = false) := by show _ = _; exact decide_eq_false (fun e => hn (by rw [e]))
    have hz : ¬ ((L.length : Int) = R.length) := by omega
    clear hn
    go_enter Try.func16, Try.ntmps16
    go_wp2
    go_ret
    exact ⟨ret_bool HF.out.symm, HB.out⟩
end Go.Proofs.Ytengkkbiceennaa

