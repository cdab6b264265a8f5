/-
  Taking the least tree; container/heap's Init over trees in memory.
-/
import Derived.Test.YtengkkbiceennaaHufPo
import Derived.Test.YtengkkbiceennaaHufRe
namespace Go.Proofs.Ytengkkbiceennaa
open Go.RowKit Go.Lib Hf
set_option maxRecDepth 100000

set_option maxHeartbeats 2000000 in
theorem take_at (B h n : Nat) (X : List T) (w : World) (hn : X.length = n + 1) (hX : Heaped w B h X) (hp : Heap X (n + 1)) (hl : n ≤ 900) :
    Calls Try.prog 32 #[.pointer (some ⟨h, 0, none⟩)] w fun e w' => ∃ b Z, e = .returned (.pointer (some ⟨b, 0, none⟩)) ∧ Kept B w w' ∧ Lies w' b (g X 0) ∧ (g X 0 :: Z).Perm X ∧ Z.length = n ∧ Heap Z n ∧ Heaped w' B h Z := by
  have c1 := heap_pop B h n X w hn hX hp hl
  clear hX hp hn
  go_enter Try.func32, Try.ntmps32
  go_wp2_with fail
  go_at_call 35
  refine c1.mono ?_
  rintro e w1 ⟨b, Z, rfl, r1, r2, r3, r4, r5, r6⟩
  have mA : ∀ w, (Instr.typeAssert (.iface 38 (.pointer (some ⟨b, 0, none⟩))) 20 38 false).run Try.prog w = .ok (.pointer (some ⟨b, 0, none⟩)) w := fun w => assert_tree _ w
  have HR := Lib.hid (And.intro r1 (And.intro r2 (And.intro r3 (And.intro r4 (And.intro r5 r6)))))
  clear r1 r2 r3 r4 r5 r6 c1
  go_wp2
  go_ret
  exact ⟨b, Z, rfl, HR.out⟩

theorem Heaped.head {B h : Nat} {w : World} {X : List T} (hX : Heaped w B h X) : ∃ q c, w.heap[h]? = some (.cells #[.slice q X.length c] 36 (0, 0)) := by
  obtain ⟨v, bs, h1, _, _, h4, _⟩ := hX
  rcases h4.2 with ⟨rfl, e⟩ | ⟨g', cap', cur, rfl, _⟩
  · exact ⟨none, 0, by rw [e]; exact h1⟩
  · exact ⟨_, _, h1⟩

set_option maxHeartbeats 4000000 in
theorem init_at (B h : Nat) (X : List T) (w : World) (hX : Heaped w B h X) (hl : X.length ≤ 900) :
    Calls Try.prog 31 #[.iface 51 (.pointer (some ⟨h, 0, none⟩))] w fun e w' => e = .returned (.tuple #[]) ∧ Kept B w w' ∧ ∃ X', X'.Perm X ∧ Heap X' X'.length ∧ Heaped w' B h X' := by
  by_cases h0 : X.length = 0
  · have HX := Lib.hid hX
    obtain ⟨q, c, hh⟩ := hX.head
    have H0 := Lib.hid h0
    rw [h0] at hh
    have hc : w.cell? ⟨h, 0, none⟩ = some (.slice q 0 c) := cell_of_row w h 0 _ 36 (0, 0) hh
    have mL := meth_len ⟨h, 0, none⟩ _ w hc
    have c1 := len_at q 0 c w
    clear hX hh h0
    go_enter Try.func31, Try.ntmps31
    go_wp2_with fail
    refine c1.mono ?_
    rintro e w1 ⟨rfl, rfl⟩
    go_wp2
    go_loop [3] (fun v => v = .int .i64 (-1)) (fun _ => 0)
    case atStart => rfl
    case round =>
      subst hrel
      go_wp2
      go_end0
      exact ⟨rfl, ⟨Below.refl _ _, fun _ _ _ _ _ _ h => h⟩, X, List.Perm.refl _, fun i _ hi => by have := H0.out; omega, HX.out⟩
  · obtain ⟨n, hn⟩ : ∃ n, X.length = n := ⟨_, rfl⟩
    have hBh : B ≤ h := by obtain ⟨_, _, _, k, _⟩ := hX; exact k
    obtain ⟨S, c, hh, hap, hBS, hT, cur, hS⟩ := hX.trees (by omega)
    have Hh := Lib.hid hh
    rw [hn] at hh hl
    have hc : w.cell? ⟨h, 0, none⟩ = some (.slice (some ⟨S, 0, none⟩) n c) := cell_of_row w h 0 _ 36 (0, 0) hh
    have mL := meth_len ⟨h, 0, none⟩ _ w hc
    have c1 := len_at (some ⟨S, 0, none⟩) n c w
    have HS := Lib.hid hS
    have Hn := Lib.hid hn
    obtain ⟨m0, hm0⟩ : ∃ m, m = n / 2 := ⟨_, rfl⟩
    have HF : Hid (From X n m0) := by rw [hm0]; exact from_none X n
    have e0 : (n : Int) / 2 = (m0 : Int) := by omega
    have zn : (n : Int) ≤ 900 := by omega
    have zm : m0 ≤ 900 := by omega
    clear hX hh hS hn h0 hm0
    go_enter Try.func31, Try.ntmps31
    go_wp2_with fail
    refine c1.mono ?_
    rintro e w1 ⟨rfl, rfl⟩
    go_wp2
    go_loopw [3] (fun v wr => ∃ (m : Nat) (Y : List T), v = .int .i64 ((m : Int) - 1) ∧ m ≤ 900 ∧ Hid (From Y n m) ∧ Hid (Y.Perm X) ∧ Hid (Y.length = n) ∧ Hid (Trees wr B S c Y) ∧ Hid (Only S w1 wr)) (fun v _ => (RowKit.intOf v + 1).toNat)
    case atStart => exact ⟨m0, X, by go_num, zm, HF, List.Perm.refl _, Hn.out, hT, Only.refl S w1⟩
    case round =>
      obtain ⟨m, Y, rfl, hm, hFr, hP, hL, hT, hO⟩ := hrel
      match m with
      | 0 =>
        go_wp2
        go_end0
        exact ⟨rfl, hO.out.kept hBS HS.out, Y, hP.out, by rw [hL.out]; exact from_all hFr.out, Heaped.of (X := X) hBh Hh.out hap hO.out (by rw [hL.out, Hn.out]) hT.out⟩
      | k + 1 =>
        have ek : ((k + 1 : Nat) : Int) - 1 = (k : Int) := by omega
        have zk : (k : Int) ≤ 899 := by omega
        have hhr : wr.cell? ⟨h, 0, none⟩ = some (.slice (some ⟨S, 0, none⟩) n c) := by rw [hO.out.cell (p := ⟨h, 0, none⟩) hap]; exact hc
        have cd := down_at ⟨h, 0, none⟩ B S c n n k hap Y hL.out (by omega) (by omega) wr hhr hT.out (by omega) (from_down hFr.out)
        rw [ek]
        clear ek
        go_wp2_with fail
        refine cd.mono ?_
        rintro e w3 ⟨⟨bb, rfl⟩, hO3, X', hP3, hF3, hHp3, hT3⟩
        have P3 : Hid (X'.Perm X) := hP3.trans hP.out
        have L3 : Hid (X'.length = n) := by have := hP3.length_eq; have h2 := hL.out; show _ = _; omega
        have O3 := Lib.hid (hO.out.trans hO3)
        have F3 := Lib.hid hHp3
        have T3 := Lib.hid hT3
        clear hP3 hF3 hHp3 hT3 hO3 cd
        go_wp2
        go_roundw
        case measure => simp [RowKit.intOf]
        case rel => exact ⟨k, X', by go_num, by omega, F3, P3, L3, T3, O3⟩
end Go.Proofs.Ytengkkbiceennaa
