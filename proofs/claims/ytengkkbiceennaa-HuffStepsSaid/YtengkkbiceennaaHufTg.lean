/-
  Putting trees together till there is one.
-/
import Derived.Test.YtengkkbiceennaaHufSg
namespace Go.Proofs.Ytengkkbiceennaa
open Go.RowKit Go.Lib Hf
set_option maxRecDepth 100000

theorem Hf.least_of {X : List Hf.T} (h : Hf.Heap X X.length) : ∀ y ∈ X, ¬ Hf.T.lt y (Hf.g X 0) := fun y hy => by
  obtain ⟨i, hi, rfl⟩ := List.mem_iff_getElem.1 hy
  have := Hf.heap_least h i hi
  rw [Hf.g_get hi] at this
  exact this
theorem Hf.head_is {X rest : List Hf.T} {a : Hf.T} (hP : X.Perm (a :: rest)) (hs : (a :: rest).Pairwise Hf.T.lt) (h : Hf.Heap X X.length) : Hf.g X 0 = a := by
  have hl : 0 < X.length := by rw [hP.length_eq]; simp
  refine Hf.first_is hP hs ?_ (Hf.least_of h)
  rw [Hf.g_get hl]
  exact List.getElem_mem hl
def headLen (w : World) (h : Nat) : Nat := match w.cell? ⟨h, 0, none⟩ with
  | some (.slice _ n _) => n
  | _ => 0
theorem Heaped.len {B h : Nat} {w : World} {X : List T} (hX : Heaped w B h X) : headLen w h = X.length := by
  obtain ⟨q, c, hh⟩ := hX.head
  have : w.cell? ⟨h, 0, none⟩ = some (.slice q X.length c) := cell_of_row w _ 0 _ 36 (0, 0) hh
  unfold headLen
  rw [this]
theorem Heaped.drew {B h : Nat} {w : World} {X : List T} (hX : Heaped w B h X) : Heaped w.drew B h X := by
  obtain ⟨v, bs, h1, h2, h3, h4, h5⟩ := hX
  exact ⟨v, bs, h1, h2, h3, h4, fun i hi => Lies.keep (w := w) (w' := w.drew) (fun _ _ h => h) (h5 i hi)⟩
theorem Lies.weighs {w : World} {t : T} {b : Nat} (h : Lies w b t) : b < w.heap.size := by
  cases t with
  | leaf i k => exact lt_of_some h
  | node x y => obtain ⟨p, q, h, _⟩ := h; exact lt_of_some h

set_option maxHeartbeats 4000000 in
theorem together_at (f : List Nat) (hn : f.length ≤ 300) (hm : ∀ i, f.getD i 0 ≤ 100000) (B h : Nat) (X F : List T) (w : World) (hX : Heaped w B h X) (hp : Heap X X.length) (hP : X.Perm F) (hW : Hf.Way f F) (hl : 1 ≤ X.length ∧ X.length ≤ 300) (hB : B ≤ w.heap.size) :
    Calls Try.prog 26 #[.pointer (some ⟨h, 0, none⟩)] w fun e w' => ∃ b t, e = .returned (.pointer (some ⟨b, 0, none⟩)) ∧ Kept B w w' ∧ Lies w' b t ∧ Hf.Way f [t] := by
  have HX := Lib.hid hX
  have HH := Lib.hid hp
  have HP := Lib.hid hP
  have HW := Lib.hid hW
  have HL := Lib.hid hl
  have HM := Lib.hid hm
  have hn2 := Lib.hid hn
  clear hX hp hP hW hl hm hn
  go_enter Try.func26, Try.ntmps26
  go_wp2
  go_loopw [3, 4] (fun _ _ wr => ∃ (Y F : List T), Hid (Y.Perm F) ∧ Hid (Hf.Way f F) ∧ Hid (1 ≤ Y.length ∧ Y.length ≤ 300) ∧ Hid (Heaped wr B h Y) ∧ Hid (Heap Y Y.length) ∧ Hid (Kept B w wr)) (fun _ _ wr => headLen wr h)
  case atStart => exact ⟨X, F, HP, HW, HL, HX, HH, Kept.refl _ _⟩
  case round =>
    clear HX HH HP HW HL
    obtain ⟨Y, F, HP, HW, HY, HS, HH, HK⟩ := hrel
    obtain ⟨q, c, hh⟩ := HS.out.head
    have hc : wr.cell? ⟨h, 0, none⟩ = some (.slice q Y.length c) := cell_of_row wr _ 0 _ 36 (0, 0) hh
    clear hh
    by_cases h2 : 2 ≤ Y.length
    · obtain ⟨m, hm⟩ : ∃ m, Y.length = m + 2 := ⟨Y.length - 2, by omega⟩
      have z2 : (1 : Int) < ((m + 2 : Nat) : Int) := by omega
      rw [hm] at hc
      have hFl : F.length = m + 2 := by rw [← HP.out.length_eq]; exact hm
      obtain ⟨a, b, r, rfl⟩ : ∃ a b r, F = a :: b :: r := by
        match F, hFl with
        | a :: b :: r, _ => exact ⟨a, b, r, rfl⟩
      have hm3 : m ≤ 298 := by have := HY.out.2; omega
      have ha : g Y 0 = a := Hf.head_is HP.out HW.out.strict.sorted HH.out
      have ct := take_at B h (m + 1) Y wr hm HS.out (by have := HH.out; rw [hm] at this; exact this) (by omega)
      rw [ha] at ct
      have HLen : Hid (headLen wr h = m + 2) := HS.out.len.trans hm
      clear hm
      clear h2
      go_wp2_with fail
      go_at_call 32
      refine ct.mono ?_
      rintro e w3 ⟨p1, Z, rfl, k1, l1, P1, Zl, Zh, ZH⟩
      have PZ : Z.Perm (b :: r) := (List.Perm.cons_inv (P1.trans HP.out))
      have hb : g Z 0 = b := Hf.head_is PZ (List.pairwise_cons.1 HW.out.strict.sorted).2 (by rw [Zl]; exact Zh)
      have ct2 := take_at B h m Z w3 Zl ZH Zh (by omega)
      rw [hb] at ct2
      have K3 := Lib.hid (HK.out.trans k1)
      have L1 := Lib.hid l1
      have PZh := Lib.hid PZ
      clear ct k1 l1 P1 Zl Zh ZH PZ ha hb hc
      go_wp2_with fail
      go_at_call 32
      refine ct2.mono ?_
      rintro e w4 ⟨p2, Z2, rfl, k2, l2, P2, Z2l, Z2h, Z2H⟩
      have PZ2 : Hid (Z2.Perm r) := (List.Perm.cons_inv (P2.trans PZh.out))
      have K4 := Lib.hid (K3.out.trans k2)
      have L1' := Lib.hid (k2.lies L1.out)
      have L2 := Lib.hid l2
      have Z2L := Lib.hid Z2l
      have S4 := Lib.hid Z2H
      have H4 : Hid (Heap Z2 Z2.length) := by
        have := Z2h
        rw [← Z2l] at this
        exact this
      clear ct2 k2 l2 P2 Z2l Z2h Z2H L1 K3 PZh
      have wa := L1'.out.weight
      have na := L1'.out.number
      have wb := L2.out.weight
      have nb := L2.out.number
      have hsum : a.w + b.w ≤ 30000000 := by
        have h1 := HW.out.weight
        have h2 := Hf.tot_le HM.out hn2.out
        rw [← h1] at h2
        simp only [Hf.sm] at h2
        omega
      have hB4 : B ≤ w4.heap.size := Nat.le_trans hB K4.out.below.size
      have ne1 := World.new_ne w4 _ wa
      have ne2 := World.new_ne w4 _ wb
      have cp : ∀ W : World, W = (w4.alloc (.cells #[.int .i64 ((T.node a b).w : Nat), .int .i64 ((T.node a b).n : Nat), .pointer (some ⟨p1, 0, none⟩), .pointer (some ⟨p2, 0, none⟩)] 49)).drew →
          Calls Try.prog 33 #[.iface 51 (.pointer (some ⟨h, 0, none⟩)), .iface 38 (.pointer (some ⟨w4.heap.size, 0, none⟩))] W fun e w' => e = .returned (.tuple #[]) ∧ Kept B w4 w' ∧ ∃ X', X'.Perm (T.node a b :: Z2) ∧ Heap X' X'.length ∧ Heaped w' B h X' := fun W hW => by
        subst hW
        have hlies : Lies (w4.alloc (.cells #[.int .i64 ((T.node a b).w : Nat), .int .i64 ((T.node a b).n : Nat), .pointer (some ⟨p1, 0, none⟩), .pointer (some ⟨p2, 0, none⟩)] 49)).drew w4.heap.size (.node a b) :=
          ⟨p1, p2, heap_alloc_new w4 _,
            Lies.keep (w := w4) (fun b c hb => by show (w4.alloc _).heap[b]? = _; rw [Below.heap_alloc w4 _ b (lt_of_some hb)]; exact hb) L1'.out,
            Lies.keep (w := w4) (fun b c hb => by show (w4.alloc _).heap[b]? = _; rw [Below.heap_alloc w4 _ b (lt_of_some hb)]; exact hb) L2.out⟩
        refine (heap_push B h w4.heap.size Z2 (.node a b) _ (Nat.le_trans hB4 (by show _ ≤ (w4.alloc _).heap.size; simp)) ((S4.out.alloc _).drew) H4.out hlies (by have := Z2L.out; omega)).mono ?_
        rintro e w' ⟨h1, h2, h3⟩
        exact ⟨h1, ⟨(((Below.refl B w4).alloc hB4 _).drew).trans h2.below, fun k c t fr k1 k2 k3 => h2.block k c t fr k1 k2 (by show (w4.alloc _).heap[k]? = _; rw [Below.heap_alloc w4 _ k (lt_of_some k3)]; exact k3)⟩, h3⟩
      have CP := Lib.hid cp
      have HStep : Hid (Hf.Way f (Hf.ins (.node a b) r)) := Hf.way_step HW.out
      have HIns : Hid (∀ X' : List Hf.T, X'.Perm (.node a b :: Z2) → X'.Perm (Hf.ins (.node a b) r)) := fun X' h => h.trans ((PZ2.out.cons _).trans (Hf.ins_perm _ _).symm)
      have HZl : Hid (Z2.length = m) := Z2L
      have ew : ((T.node a b).w : Nat) = a.w + b.w := rfl
      have en : ((T.node a b).n : Nat) = min a.n b.n := rfl
      rw [ew, en] at cp
      have KW : Hid (∀ w5, Kept B w4 w5 → w5.cell? ⟨p1, 0, none⟩ = some (.int .i64 a.w) ∧ w5.cell? ⟨p2, 0, none⟩ = some (.int .i64 b.w) ∧ w5.cell? ⟨p1, 1, none⟩ = some (.int .i64 a.n) ∧ w5.cell? ⟨p2, 1, none⟩ = some (.int .i64 b.n)) :=
        Lib.hid fun w5 k => ⟨(k.lies L1'.out).weight, (k.lies L2.out).weight, (k.lies L1'.out).number, (k.lies L2.out).number⟩
      clear HW HP HS HH hFl PZ2 S4 L1' L2 CP HY HK Z2L H4 ew en
      generalize hT : Hf.T.node a b = t at *
      clear hT
      generalize a.w = aw at *
      generalize b.w = bw at *
      generalize a.n = an at *
      generalize b.n = bn at *
      have zs : (aw : Int) + (bw : Int) ≤ 30000000 := by omega
      rw [show ((aw + bw : Nat) : Int) = IntKind.i64.wrap ((aw : Int) + (bw : Int)) by rw [IntKind.wrap_i64]; omega, show ((min an bn : Nat) : Int) = min (an : Int) (bn : Int) by omega] at cp
      clear hsum
      go_wp2_with fail
      go_region_held3 (fun w' => w'.cell? ⟨p1, 0, none⟩ = some (.int .i64 aw) ∧ w'.cell? ⟨p2, 0, none⟩ = some (.int .i64 bw) ∧ w'.cell? ⟨p1, 1, none⟩ = some (.int .i64 an) ∧ w'.cell? ⟨p2, 1, none⟩ = some (.int .i64 bn))
        (first | go_keep | exact KW.out _ hK5)
        (first | (go_at_call 33; refine (cp _ rfl).mono ?_; rintro e w5 ⟨rfl, hK5, X', hP5, hH5, hX5⟩))
      have HK6 := Lib.hid (K4.out.trans hK5)
      have HX6 := Lib.hid hX5
      have HH6 := Lib.hid hH5
      have HP6 := Lib.hid (HIns.out X' hP5)
      have HY6 : Hid (1 ≤ X'.length ∧ X'.length ≤ 300) := by
        have := hP5.length_eq
        have h1 := HZl.out
        simp at this
        exact ⟨by omega, by omega⟩
      have HM6 : Hid (headLen w5 h = m + 1) := by
        have h0 := hX5.len
        have := hP5.length_eq
        have h1 := HZl.out
        simp at this
        show _ = _; omega
      clear hK5 hX5 hH5 hP5 cp KW HIns wa wb na nb
      go_wp2
      go_roundw
      case measure => rw [HM6.out, HLen.out]; omega
      case rel => exact ⟨X', _, HP6, HStep, HY6, HX6, HH6, HK6⟩
    · have hm : Y.length = 1 := by have := HY.out.1; omega
      rw [hm] at hc
      have hFl : F.length = 1 := by rw [← HP.out.length_eq]; exact hm
      obtain ⟨a, rfl⟩ : ∃ a, F = [a] := by
        match F, hFl with
        | [a], _ => exact ⟨a, rfl⟩
      have ha : g Y 0 = a := Hf.head_is HP.out (by simp) HH.out
      have ct := take_at B h 0 Y wr hm HS.out (by have := HH.out; rw [hm] at this; exact this) (by omega)
      rw [ha] at ct
      have HK0 := HK.out
      clear hm h2 ha hFl HS HH HP HY
      go_wp2_with fail
      go_at_call 32
      refine ct.mono ?_
      rintro e w3 ⟨p1, Z, rfl, k1, l1, _⟩
      have K3 := Lib.hid (HK0.trans k1)
      have L3 := Lib.hid l1
      clear ct k1 l1 HK0
      go_wp2
      go_ret
      exact ⟨p1, a, rfl, K3.out, L3.out, HW.out⟩
end Go.Proofs.Ytengkkbiceennaa
