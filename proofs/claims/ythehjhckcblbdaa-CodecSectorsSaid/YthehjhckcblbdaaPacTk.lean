/-
  Rows of tokens of the call's own; how tokens lie.
-/
import Derived.Test.YthehjhckcblbdaaPacLn
import Derived.Test.YthehjhckcblbdaaCanD
namespace Go.Proofs.Ythehjhckcblbdaa.Pk
set_option maxRecDepth 100000
open Go.RowKit Mt Ma Mb Cn Go.Lib
def tc (T : List Tok) : List Value := T.flatMap fun t => [.int .i64 t.byte, .int .i64 t.dist, .int .i64 t.len]
theorem tc_length (T : List Tok) : (tc T).length = T.length * 3 := by
  induction T with
  | nil => rfl
  | cons t T ih => unfold tc at ih ⊢; rw [List.flatMap_cons, List.length_append, ih, List.length_cons]; simp; omega
theorem tc_append (T U : List Tok) : tc (T ++ U) = tc T ++ tc U := by unfold tc; rw [List.flatMap_append]
theorem tc_one (T : List Tok) : ∀ u ∈ tc T, u.oneCell' = true := by
  intro u hu
  unfold tc at hu
  obtain ⟨t, _, ht⟩ := List.mem_flatMap.1 hu
  simp at ht
  rcases ht with rfl | rfl | rfl <;> rfl
theorem tc_get (T : List Tok) : ∀ i (h : i < T.length), (tc T)[i * 3]? = some (.int .i64 T[i].byte) ∧ (tc T)[i * 3 + 1]? = some (.int .i64 T[i].dist) ∧ (tc T)[i * 3 + 2]? = some (.int .i64 T[i].len) := by
  induction T with
  | nil => intro i h; simp at h
  | cons t T ih =>
    intro i h
    have e : tc (t :: T) = .int .i64 t.byte :: .int .i64 t.dist :: .int .i64 t.len :: tc T := by unfold tc; rw [List.flatMap_cons]; rfl
    rw [e]
    cases i with
    | zero => exact ⟨rfl, rfl, rfl⟩
    | succ i =>
      have := ih i (by simpa using h)
      rw [show (i + 1) * 3 = i * 3 + 3 by omega]
      exact this
theorem tok_new (w : World) (t : Tok) : ∀ j u, (tc [t])[j]? = some u → (w.alloc (.cells #[.int .i64 t.byte, .int .i64 t.dist, .int .i64 t.len] 48)).cell? ((⟨w.heap.size, 0, Option.none⟩ : Addr).add j) = some u := by
  intro j u hj
  have e := heap_alloc_new w (Obj.cells #[.int .i64 t.byte, .int .i64 t.dist, .int .i64 t.len] 48)
  rw [Addr.add_lit, Nat.zero_add, cell_of_row _ _ j _ 48 (0, 0) e]
  have e2 : #[Value.int .i64 t.byte, .int .i64 t.dist, .int .i64 t.len] = (tc [t]).toArray := rfl
  rw [e2, List.getElem?_toArray]
  exact hj
theorem infoTok : (Try.prog.info? 48).map (fun i => (i.zero, i.size, i.bytes)) = some (some (.agg #[.int .i64 0, .int .i64 0, .int .i64 0]), 3, 24) := by kernel_rfl
/-- tokens that lie where a slice says -/
structure ToksLie (w : World) (p : Option Addr) (T : List Tok) (cap : Nat) : Prop where
  len : T.length ≤ cap
  cap : cap ≤ maxLen
  lies : T = [] ∨ ∃ blk off, p = some ⟨blk, off, Option.none⟩ ∧ ToksAt w blk off T
theorem ToksLie.below {w w' : World} {p : Option Addr} {T : List Tok} {cap : Nat} (h : ToksLie w p T cap) (hb : Below w.heap.size w w') : ToksLie w' p T cap :=
  ⟨h.len, h.cap, h.lies.imp id fun ⟨blk, off, e, k⟩ => ⟨blk, off, e, k.below hb⟩⟩
theorem toks_lie {B n : Nat} {w : World} {v : Value} {T : List Tok} (hn : n = T.length) (h : w.ownsRow B 48 3 v n (tc T)) : ∃ p cap, v = .slice p n cap ∧ ToksLie w p T cap := by
  subst hn
  rcases h.2 with ⟨rfl, h0⟩ | ⟨g, cap, cur, rfl, hb, hg, h1, h2, _⟩
  · obtain rfl : T = [] := List.length_eq_zero_iff.1 h0
    exact ⟨Option.none, 0, rfl, Nat.le_refl _, Nat.zero_le _, .inl rfl⟩
  · have hc : ∀ j u, (tc T)[j]? = some u → w.cell? ⟨g, 0 + j, Option.none⟩ = some u := fun j u hj => by
      have := h.cells (g := g) rfl j u hj
      rwa [Addr.add_lit] at this
    exact ⟨some ⟨g, 0, Option.none⟩, cap, rfl, h1, h2, .inr ⟨g, 0, rfl, fun i hi => hc _ _ (tc_get T i hi).1, fun i hi => by rw [Nat.add_assoc]; exact hc _ _ (tc_get T i hi).2.1, fun i hi => by rw [Nat.add_assoc]; exact hc _ _ (tc_get T i hi).2.2⟩⟩
/-! ### a code read of bits -/
theorem readN_none {l : List Nat} {b : List Bool} {x : Nat} (h : readN l b x = none) (i : Nat) : hit l b x i = false := by
  unfold readN at h
  by_cases hi : i < l.length
  · have := List.find?_eq_none.1 h i (List.mem_range.2 hi)
    simpa using this
  · cases hh : hit l b x i
    · rfl
    · have := (hit_iff.1 hh).1
      rw [List.getD_eq_getElem?_getD, List.getElem?_eq_none (by omega)] at this
      simp at this
/-- what Read answers -/
def rk (l : List Nat) (b : List Bool) (x : Nat) : Nat × Nat × Bool := match readN l b x with
  | some i => (i, x + l.getD i 0, true)
  | none => (0, 0, false)
theorem rk_doc (l : List Nat) (n : Nat) (b : List Bool) (m x : Nat) (p q : Option Addr) (c d : Nat) (w : World) (hm : MayC l) (hn : l.length = n) (hb : b.length = m) (hbm : m ≤ 100000) (h : IntsLie w p (nums l) c) (hq : FlagsLie w q b d) :
    Calls Try.prog 52 #[.slice p n c, .slice q m d, .int .i64 x] w fun e w' => Below w.heap.size w w' ∧ e = .returned (.tuple #[.int .i64 ((rk l b x).1 : Nat), .int .i64 ((rk l b x).2.1 : Nat), .bool (rk l b x).2.2]) := by
  cases hr : readN l b x with
  | none =>
    have e1 : rk l b x = (0, 0, false) := by unfold rk; rw [hr]
    rw [e1]
    exact specDoc.read_no (nums l) n b m x p q c d w (fun l2 _ he at_ hx i => by
      rw [← nums_inj he]
      have : x = at_ := by omega
      rw [← this]; exact readN_none hr i) (by rw [nums_len]; exact hn) (by have := hm.len; omega) hb hbm h hq
  | some i =>
    have e1 : rk l b x = (i, x + l.getD i 0, true) := by unfold rk; rw [hr]
    rw [e1]
    exact specDoc.read l n b m x i p q c d w hm hn hb hbm (read_hit hr) h hq
theorem rk_le {l : List Nat} {b : List Bool} {x : Nat} : (rk l b x).2.1 ≤ b.length ∧ ((rk l b x).2.2 = true → (rk l b x).1 < l.length) := by
  unfold rk
  cases hr : readN l b x with
  | none => exact ⟨Nat.zero_le _, fun h => by cases h⟩
  | some i =>
    have hh := hit_iff.1 (read_hit hr)
    refine ⟨hh.2.1, fun _ => ?_⟩
    rcases Nat.lt_or_ge i l.length with h | h
    · exact h
    · have := hh.1
      rw [List.getD_eq_getElem?_getD, List.getElem?_eq_none (by omega)] at this
      simp at this
theorem tok_end (l : List Nat) (b : List Bool) (many f told x : Nat) (h : many ≤ told) : rdToks l b many f told x = some ([], x) := by
  cases f with
  | zero => rw [rdToks, if_pos h]
  | succ f => rw [rdToks, if_pos h]
theorem tok_step (l : List Nat) (b : List Bool) (many f told x : Nat) (h : told < many) : rdToks l b many (f + 1) told x =
    if (rk l b x).2.2 = true then
      if (rk l b x).1 < 256 then (rdToks l b many f (told + 1) (rk l b x).2.1).map fun r => (⟨(rk l b x).1, 0, 0⟩ :: r.1, r.2)
      else if (tk b (rk l b x).2.1 8).2.2 = true ∧ 1 ≤ (tk b (rk l b x).2.1 8).1 ∧ (tk b (rk l b x).2.1 8).1 ≤ told ∧ told + ((rk l b x).1 - 253) ≤ many then
        (rdToks l b many f (told + ((rk l b x).1 - 253)) (tk b (rk l b x).2.1 8).2.1).map fun r => (⟨0, (tk b (rk l b x).2.1 8).1, ((rk l b x).1 - 253 : Nat)⟩ :: r.1, r.2)
      else none
    else none := by
  rw [rdToks, if_neg (by omega)]
  cases hr : readN l b x with
  | none =>
    have e1 : rk l b x = (0, 0, false) := by unfold rk; rw [hr]
    rw [e1]; rfl
  | some s =>
    have e1 : rk l b x = (s, x + l.getD s 0, true) := by unfold rk; rw [hr]
    rw [e1]
    simp only [if_true]
    by_cases h1 : s < 256
    · rw [if_pos h1, if_pos h1]
    · rw [if_neg h1, if_neg h1]
      cases h2 : takeN b (x + l.getD s 0) 8 with
      | none =>
        have e2 : tk b (x + l.getD s 0) 8 = (0, 0, false) := by unfold tk; rw [h2]
        rw [e2]; simp
      | some d =>
        have e2 : tk b (x + l.getD s 0) 8 = (d, x + l.getD s 0 + 8, true) := by unfold tk; rw [h2]
        rw [e2]; simp
end Go.Proofs.Ythehjhckcblbdaa.Pk
