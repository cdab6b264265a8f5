/-
  Contract of Pack: the bytes that the bits are.
-/
import Derived.Test.YtiimghgolaijhaaUn
namespace Go.Proofs.Ytiimghgolaijhaa
open Go.RowKit Mb Go.Lib
theorem info5 : (Try.prog.info? 5).map (fun i => (i.zero, i.size, i.bytes)) = some (some (.int .u8 0), 1, 1) := by kernel_rfl
def pb (o : List UInt8) : List Value := o.map fun x => Value.int .u8 (x.toNat : Int)
theorem pb_one (o : List UInt8) : ∀ u ∈ pb o, u.oneCell' = true := fun u hu => by
  obtain ⟨j, _, rfl⟩ := List.mem_map.1 hu
  rfl
/-- a row of bytes of the call's own -/
structure RowU (w0 w : World) (g cap : Nat) (o : List UInt8) : Prop where
  own : w.ownsRow w0.heap.size 5 1 (.slice (some ⟨g, 0, Option.none⟩) o.length cap) o.length (pb o)
  below : Below w0.heap.size w0 w
theorem RowU.text {o : List UInt8} {w0 w : World} {g cap : Nat} (h : RowU w0 w g cap o) : (convert 42 9 (.slice (some ⟨g, 0, Option.none⟩) o.length cap)).run Try.prog w = .ok (.string ⟨o.toArray⟩) w := by
  refine run_convert_bytes_back w 42 9 5 ⟨g, 0, Option.none⟩ cap o Try.underlying42 Try.underlying5 Try.underlying9 (fun j hj => ?_)
  exact h.own.cells (g := g) rfl j (.int .u8 (o[j].toNat : Int)) (by unfold pb; rw [List.getElem?_map, List.getElem?_eq_getElem hj]; rfl)
theorem RowU.more {w0 wr w2 w3 : World} {g cap : Nat} {l m : List UInt8} {v : Value} (h : RowU w0 wr g cap l) (hb : Below wr.heap.size wr w2)
    (own1 : w3.ownsRow w0.heap.size 5 1 v (l.length + m.length) (pb l ++ pb m)) (gr : w2.grownBy w3 (Value.slice (some ⟨g, 0, Option.none⟩) l.length cap).ownBlock)
    (nn : ¬ v = .slice Option.none 0 0) : ∃ g1 c1, v = .slice (some ⟨g1, 0, Option.none⟩) (l.length + m.length) c1 ∧ RowU w0 w3 g1 c1 (l ++ m) := by
  obtain ⟨g1, c1, rfl⟩ := own_some own1 nn
  refine ⟨g1, c1, rfl, by simpa [pb] using own1, ?_⟩
  have hb2 : Below w0.heap.size w0 w2 := h.below.trans (hb.mono h.below.size)
  exact hb2.grown gr hb2.size (fun b hb => (h.own.lt b hb).1)
theorem one_byte (wr : World) (x : UInt8) : ∀ j u, (pb [x])[j]? = some u → (wr.alloc (.cells #[.int .u8 (x.toNat : Int)] 5)).cell? ((⟨wr.heap.size, 0, Option.none⟩ : Addr).add j) = some u := fun j u hj => by
  match j, hj with
  | 0, hj => simp [pb] at hj; subst hj; simp [Addr.add]
  | j + 1, hj => simp [pb] at hj
theorem make_bytes (n : Nat) (hn : n ≤ 140737488355300) (w : World) :
    (Instr.makeSlice 42 (.int .i64 0) (.int .i64 n)).run Try.prog w = .ok (.slice (some ⟨w.heap.size, 0, Option.none⟩) 0 n) (w.alloc (.cells (madeCells #[.int .u8 0] n) 5)) := by
  obtain ⟨i0, hi0, hz0, hz1, hz2⟩ := info_parts info5
  have h := run_make (P := Try.prog) w 42 5 i0 (.int .u8 0) Try.underlying42 hi0 hz0 .i64 .i64 0 n (by omega) (by omega) (by rw [hz2]; omega) (by omega)
  rw [hz1] at h
  simp only [Int.toNat_zero, Int.toNat_natCast, Nat.mul_one] at h
  exact h
theorem RowU.made (w : World) (n : Nat) (hn : n ≤ maxLen) : RowU w (w.alloc (.cells (madeCells #[.int .u8 0] n) 5)) w.heap.size n [] :=
  ⟨World.ownsRow_made w _ n (Nat.le_refl _) hn (by simp [size_madeCells]), (Below.refl _ _).alloc (Nat.le_refl _) _⟩
theorem wrap_byte (z : Nat) (h : z < 256) : wrap64 (z : Int) % 256 = (z : Int) := by
  unfold wrap64; omega
set_option maxHeartbeats 10000000 in
theorem pack_lit (l : List Bool) (blk off cap : Nat) (hl : l.length ≤ 100000) (hcap : l.length ≤ cap) (hcm : cap ≤ maxLen) (w : World) (hc : BoolsAt w blk off l) (hblk : blk < w.heap.size) :
    Calls Try.prog 11 #[.slice (some ⟨blk, off, Option.none⟩) l.length cap] w fun e w' => e = .returned (.string ⟨(packL l).toArray⟩) ∧ Below w.heap.size w w' := by
  have hmk := fun w => make_bytes ((l.length + 7) / 8) (by omega) w
  rw [show (((l.length + 7) / 8 : Nat) : Int) = ((l.length : Int) + 8 - 1) / 8 by omega] at hmk
  have zl : (l.length : Int) ≤ 100000 := by omega
  have HR : Hid (RowU w (w.alloc (.cells (madeCells #[.int .u8 0] ((l.length + 7) / 8)) 5)) w.heap.size ((l.length + 7) / 8) []) := RowU.made w _ (by unfold maxLen; omega)
  have HC : Hid (BoolsAt w blk off l) := hc
  have HK : Hid (blk < w.heap.size) := hblk
  have HM : Hid (cap ≤ maxLen) := hcm
  clear hc hblk hcm
  obtain ⟨i0, hi0, hz0, hz1, hz2⟩ := info_parts info5
  go_enter Try.func11, Try.ntmps11
  go_wp2
  go_loopw [0, 3, 4] (fun b v _ wr => ∃ (k r off' cap' g c : Nat), 8 * k ≤ l.length + 7 ∧ r = l.length - 8 * k ∧ r ≤ cap' ∧ cap' ≤ cap ∧ b = .slice (some ⟨blk, off', Option.none⟩) r cap' ∧ v = .slice (some ⟨g, 0, Option.none⟩) k c ∧ Hid (BoolsAt w blk off' (l.drop (8 * k))) ∧ Hid (RowU w wr g c (packN l k)))
    (fun b _ _ _ => match b with | .slice _ n _ => n | _ => 0)
  case atStart => exact ⟨0, l.length, off, cap, _, _, by omega, by omega, hcap, Nat.le_refl _, rfl, rfl, by simpa using HC, HR⟩
  case round =>
    clear HR HC hcap
    obtain ⟨k, r, off', cap', g, c, hk, hr, hrc, hcc, rfl, rfl, HC, HS⟩ := hrel
    have HMc : Hid (cap' ≤ maxLen) := Nat.le_trans hcc HM.out
    have hcm : (cap' : Int) ≤ 9223372036854775807 := by have := HMc.out; unfold maxLen at this; omega
    rcases Nat.eq_zero_or_pos r with h0 | h0
    · subst h0
      have ek : k = (l.length + 7) / 8 := by omega
      have htx := HS.out.text
      rw [packN_length] at htx
      have HL : Hid (packN l k = packL l) := by show _ = _; rw [ek]; rfl
      rw [HL.out] at htx
      clear hr ek hrc hk
      go_wp2
      go_ret
      exact ⟨rfl, HS.out.below⟩
    · obtain ⟨n, hn⟩ : ∃ n, n = min r 8 := ⟨_, rfl⟩
      have hdl : (l.drop (8 * k)).length = r := by rw [List.length_drop]; omega
      have hcl : ((l.drop (8 * k)).take n).length = n := by rw [List.length_take, hdl]; omega
      have hkk := fun c => number_any ((l.drop (8 * k)).take n) (by omega) blk off' c wr (by simpa using (HC.out.below HS.out.below).part 0 n (by omega))
      rw [hcl] at hkk
      have hx := byteAt_is l k n (by omega)
      have hx2 := byteAt_lt l k
      obtain ⟨u, hu⟩ : ∃ u, u = UInt8.ofNat (byteAt l k) := ⟨_, rfl⟩
      have hun : u.toNat = byteAt l k := by rw [hu]; simp; omega
      have HP : Hid (packN l (k + 1) = packN l k ++ [u]) := by show _ = _; rw [packN_snoc, hu]
      have HE : Hid (∀ off2, (8 < r → off2 = off' + 8) → BoolsAt w blk off2 (l.drop (8 * (k + 1)))) := by
        show ∀ _, _
        intro off2 h2
        refine ⟨fun i hi => ?_⟩
        rw [List.length_drop] at hi
        rw [h2 (by omega)]
        have := HC.out.cell (8 + i) (by omega)
        rw [show off' + 8 + i = off' + (8 + i) by omega, this]
        rw [List.getD_eq_getElem?_getD, List.getD_eq_getElem?_getD, List.getElem?_drop, List.getElem?_drop, show 8 * k + (8 + i) = 8 * (k + 1) + i by omega]
      rw [← hun] at hx
      generalize num ((l.drop (8 * k)).take n) = x at hkk hx
      clear hx2 hun hu
      have hxl := u.toNat_lt
      have hv : wrap64 ((x : Int) * 2 ^ (8 - n)) % 256 = ((u.toNat : Nat) : Int) := by
        rw [show (x : Int) * 2 ^ (8 - n) = ((x * 2 ^ (8 - n) : Nat) : Int) by simp, ← hx]
        exact wrap_byte _ hxl
      clear hx
      have hpl : (packN l k).length = k := packN_length l k
      have o1 := fun O => (HS.out.own).alloc (w := wr) O
      rw [hpl] at o1
      have o2 := one_byte wr u
      have o3 : w.heap.size ≤ (wr.alloc (.cells #[.int .u8 (u.toNat : Int)] 5)).heap.size := by have := HS.out.below.size; simp; omega
      have rc : (r : Int) ≤ cap' := by omega
      have r0 : (0 : Int) < r := by omega
      have zk : k ≤ 100000 := by omega
      have HKL : Hid (8 * k + n ≤ l.length) := by show _ ≤ _; omega
      have HRL : Hid (r = l.length - 8 * k) := hr
      have arm : (n = r ∧ r ≤ 8 ∧ r < cap') ∨ (n = r ∧ r ≤ 8 ∧ r = cap') ∨ (n = 8 ∧ 8 < r) := by omega
      clear hr hk hdl hcl hn
      rcases arm with ⟨e1, e2, e3⟩ | ⟨e1, e2, e3⟩ | ⟨e1, e2⟩
      case' inr.inl =>
        subst e1
        have f2 : (n : Int) ≤ 8 := by omega
        have f3 : (n : Int) < cap' := by omega
      case' inr.inr.inl =>
        subst e1
        subst e3
        have f2 : (n : Int) ≤ 8 := by omega
      case' inr.inr.inr =>
        subst e1
        have f2 : 8 < (r : Int) := by omega
        have hv2 : wrap64 (x : Int) % 256 = ((u.toNat : Nat) : Int) := by simpa using hv
        clear hv
      all_goals
        go_wp2_with (first
          | (go_at_call 16; ((with_reducible refine (hkk _).mono ?_); rintro e w' ⟨rfl, rfl⟩))
          | (at_builtin; refine wpList_append_own _ rfl _ _ 42 rfl w.heap.size 5 i0 (.int .u8 0) 1 1 Try.underlying42 hi0 hz0 hz1 hz2 rfl (by decide) _ k (pb (packN l k)) rfl (o1 _) ⟨_, 0, Option.none⟩ 1 1 (pb [u]) rfl rfl o2 (pb_one _) (by unfold maxLen; omega) (by omega) o3 ?_)
          | go_in)
        intro v1 w3 own1 gr1 nn1
        obtain ⟨g2, c2, hv1, HN⟩ := HS.out.more (m := [u]) ((Below.refl _ _).alloc (Nat.le_refl _) (.cells #[.int .u8 (u.toNat : Int)] 5)) (by rw [hpl]; exact own1) (by rw [hpl]; exact gr1) nn1
        rw [hpl] at hv1
        subst hv1
        replace HN := Lib.hid HN
        rw [← HP.out] at HN
        clear own1 gr1 nn1 o1 o2 o3 HS hpl
        go_wp2
        go_roundw
        case rel =>
          have q1 := HKL.out
          have q2 := HRL.out
          refine ⟨k + 1, _, _, _, g2, c2, ?_, ?_, ?_, ?_, rfl, rfl, HE.out _ (fun h => ?_), HN⟩ <;> omega
        case measure => simp; omega
theorem pack_empty (p : Option Addr) (cap : Nat) (w : World) :
    Calls Try.prog 11 #[.slice p 0 cap] w fun e w' => e = .returned (.string ⟨(packL []).toArray⟩) ∧ Below w.heap.size w w' := by
  have hmk : ∀ w, (Instr.makeSlice 42 (.int .i64 0) (.int .i64 0)).run Try.prog w = .ok (.slice (some ⟨w.heap.size, 0, Option.none⟩) 0 0) (w.alloc (.cells (madeCells #[.int .u8 0] 0) 5)) := fun w => make_bytes 0 (by omega) w
  have HR : Hid (RowU w (w.alloc (.cells (madeCells #[.int .u8 0] 0) 5)) w.heap.size 0 []) := RowU.made w _ (by decide)
  have htx := HR.out.text
  simp only [List.length_nil] at htx
  go_enter Try.func11, Try.ntmps11
  go_wp2
  go_loopw [0, 3, 4] (fun b v _ wr => b = .slice p 0 cap ∧ v = .slice (some ⟨w.heap.size, 0, Option.none⟩) 0 0 ∧ wr = (w.alloc (.cells (madeCells #[.int .u8 0] 0) 5)))
    (fun _ _ _ _ => 0)
  case atStart => exact ⟨rfl, rfl, rfl⟩
  case round =>
    obtain ⟨rfl, rfl, rfl⟩ := hrel
    go_wp2
    go_ret
    exact ⟨rfl, HR.out.below⟩
end Go.Proofs.Ytiimghgolaijhaa
