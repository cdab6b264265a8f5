/-
  A map of the call's own whose elements are slices of numbers, each in a row of its own: what is read at a key, and that an entry is taken, and stored. No condition.
-/
import Derived.Test.YtdiimebcahhieaaGe
import Derived.WideKeyEntry
import Derived.Maps.OwnRows
import Derived.DeepKeys4
namespace Go.Proofs.Ytdiimebcahhieaa
open Go.RowKit Go.Lib Go.MapKept Go.ChangeMaps Go.WideElems
section
variable {P : Program} {k e E t : TypeId} {q : IntKind} {w w' : World} {base b : Nat} {G : Value → List Int}
/-- block b is a map with these entries: at each key's entry lie the numbers that G tells -/
structure GrpAt (P : Program) (k e : TypeId) (q : IntKind) (w : World) (base b : Nat) (G : Value → List Int) (es : Array MapEntry) (clock : Nat) : Prop where
  heap : w.heap[b]? = some (.map es clock)
  stamped : Stamped es clock
  low : b < base
  keys : ∀ x ∈ es.toList, ∃ l, keyOf P k x.key = some l
  owns : ∀ x ∈ es.toList, w.ownsInts base e q x.val (G x.key)
  none : ∀ u, (∀ x ∈ es.toList, x.key ≠ u) → G u = []
  apart : ∀ x ∈ es.toList, ∀ y ∈ es.toList, x.key ≠ y.key → x.val.ownBlock = Option.none ∨ x.val.ownBlock ≠ y.val.ownBlock
def Grp (P : Program) (k e : TypeId) (q : IntKind) (w : World) (base b : Nat) (G : Value → List Int) : Prop := ∃ es clock, GrpAt P k e q w base b G es clock
theorem ints_block {v : Value} {zs : List Int} (h : w.ownsInts base e q v zs) (g : Nat) (hg : v.ownBlock = some g) : base ≤ g ∧ ∃ c, w.heap[g]? = some (.cells c e (0, 0)) := by
  rcases h.1.2 with ⟨rfl, _⟩ | ⟨g', cap, cur, rfl, hb, hh, _⟩
  · cases hg
  · cases hg; exact ⟨hb, cur, hh⟩
theorem ints_not {v : Value} {zs : List Int} (h : w.ownsInts base e q v zs) (hl : b < base) : v.ownBlock = Option.none ∨ v.ownBlock ≠ some b := by
  cases hv : v.ownBlock with
  | none => exact .inl rfl
  | some g => refine .inr fun e1 => ?_; cases e1; have := (ints_block h _ hv).1; omega
theorem Grp.made (w : World) : Grp P k e q (w.alloc (.map #[] 0)) (w.heap.size + 1) w.heap.size (fun _ => []) :=
  ⟨#[], 0, (MapKept.heap_alloc w _).1, stamped_empty 0, Nat.lt_succ_self _, by simp, by simp, fun _ _ => rfl, by simp⟩
theorem Grp.kept {row : Option Nat} (h : Grp P k e q w base b G) (hg : w.grownBy w' row) (hb : some b ≠ row)
    (hr : ∀ j, row = some j → j < base ∨ ∃ c s f, w.heap[j]? = some (.cells c s f) ∧ s ≠ e) : Grp P k e q w' base b G := by
  obtain ⟨es, clock, h⟩ := h
  have hlt : b < w.heap.size := (Array.getElem?_eq_some_iff.1 h.heap).1
  refine ⟨es, clock, (hg.block b hlt hb).trans h.heap, h.stamped, h.low, h.keys, fun x hx => (h.owns x hx).kept hg ?_, h.none, h.apart⟩
  cases hx' : x.val.ownBlock with
  | none => exact .inl rfl
  | some g =>
    refine .inr fun e1 => ?_
    obtain ⟨k1, c1, k2⟩ := ints_block (h.owns x hx) g hx'
    rcases hr g e1.symm with h1 | ⟨c, s, f, h1, h2⟩
    · omega
    · rw [k2] at h1; cases h1; exact h2 rfl
theorem Grp.later (h : Grp P k e q w base b G) (hb : Below w.heap.size w w') : Grp P k e q w' base b G :=
  h.kept (row := Option.none) ⟨hb.os, hb.tape, hb.output, hb.size, fun k hk _ => hb.block k hk⟩ (by simp) (fun j hj => by cases hj)
theorem Grp.look (K : WideMaps.KeyLaw P k) (ht : P.underlying t = some (.map k E)) (hz : (zeroValue E).run P w = .ok (.slice Option.none 0 0) w) (h : Grp P k e q w base b G) {key : Value} {kl : Lit} (hkey : keyOf P k key = some kl) :
    ∃ v, (Instr.lookup t (.map (some b)) key false).run P w = .ok v w ∧ w.ownsInts base e q v (G key) := by
  obtain ⟨es, clock, h⟩ := h
  rcases K.find w hkey es.toList h.keys with ⟨h1, h2⟩ | ⟨j, e0, h1, h2, h3⟩
  · refine ⟨_, by simp [Instr.lookup, run_underlying ht, MapKept.run_getObj_map h.heap, K.check w _ hkey, h1, hz, Result.andThen]; rfl, ?_⟩
    rw [h.none key h2]
    exact World.ownsInts_nil _ _ _ _
  · refine ⟨e0.val, by simp [Instr.lookup, run_underlying ht, MapKept.run_getObj_map h.heap, K.check w _ hkey, h1, Result.andThen], ?_⟩
    rw [← h3]
    exact h.owns e0 (List.mem_of_getElem? h2)
/-- what a store to the entry that was taken leaves -/
def Back (P : Program) (k e : TypeId) (q : IntKind) (t : TypeId) (w1 : World) (base b : Nat) (G : Value → List Int) (key v : Value) (st : Nat) : Prop :=
  ∀ (w2 : World) (v' : Value) (zs' : List Int), w1.grownBy w2 v.ownBlock → w2.ownsInts base e q v' zs' → (v'.ownBlock = v.ownBlock ∨ ∃ g, v'.ownBlock = some g ∧ w1.heap.size ≤ g) → ∀ G' : Value → List Int, G' key = zs' → (∀ u, u ≠ key → G' u = G u) →
    ∃ w3, (Instr.entryStore t (.map (some b)) (goInt st) v').run P w2 = .ok () w3 ∧ Grp P k e q w3 base b G' ∧ w2.grownBy w3 (some b)
theorem mem_set_of {l : List MapEntry} (hn : (l.map (·.key)).Nodup) {j : Nat} {e1 a x : MapEntry} (hj : l[j]? = some e1) (hx : x ∈ l.set j a) : x = a ∨ (x ∈ l ∧ x.key ≠ e1.key) := by
  obtain ⟨i, hi⟩ := List.mem_iff_getElem?.1 hx
  by_cases hij : i = j
  · subst hij
    have hlt : i < l.length := (List.getElem?_eq_some_iff.1 hj).1
    rw [List.getElem?_set_self hlt] at hi
    exact .inl (Option.some.inj hi).symm
  · rw [List.getElem?_set_ne (Ne.symm hij)] at hi
    refine .inr ⟨List.mem_of_getElem? hi, fun hk => hij ?_⟩
    have hlt : i < (l.map (·.key)).length := by rw [List.length_map]; exact (List.getElem?_eq_some_iff.1 hi).1
    exact (List.getElem?_inj hlt hn).1 (by simp [hi, hj, hk])
theorem mem_set_key {l : List MapEntry} {j : Nat} {e1 a x : MapEntry} (hj : l[j]? = some e1) (ha : a.key = e1.key) (hx : x ∈ l) : ∃ y ∈ l.set j a, y.key = x.key := by
  have hjl : j < l.length := (List.getElem?_eq_some_iff.1 hj).1
  obtain ⟨i, hi⟩ := List.mem_iff_getElem?.1 hx
  by_cases hij : i = j
  · subst hij
    rw [hj] at hi
    cases hi
    exact ⟨a, List.mem_iff_getElem?.2 ⟨i, List.getElem?_set_self hjl⟩, ha⟩
  · exact ⟨x, List.mem_iff_getElem?.2 ⟨i, by rw [List.getElem?_set_ne (Ne.symm hij)]; exact hi⟩, rfl⟩
theorem back_of {es : Array MapEntry} {clock j : Nat} {e1 : MapEntry} (h : GrpAt P k e q w base b G es clock) (hj : es.toList[j]? = some e1) : Back P k e q t w base b G e1.key e1.val e1.born := by
  intro w2 v' zs' hg hown hloc G' hG1 hG2
  have hlt : b < w.heap.size := (Array.getElem?_eq_some_iff.1 h.heap).1
  have hm1 : e1 ∈ es.toList := List.mem_of_getElem? hj
  have hb2 : w2.heap[b]? = some (.map es clock) := (hg.block b hlt (fun e2 => by
    have := (ints_block (h.owns e1 hm1) b e2.symm).1; have := h.low; omega)).trans h.heap
  have hidx : es.findIdx? (fun e => ((e.born : Nat) : Int) == ((e1.born : Nat) : Int)) = some j := by
    rw [findIdx_arr]
    exact findIdx_born h.stamped.2.1 hj
  have hrun : (Instr.entryStore t (.map (some b)) (goInt e1.born) v').run P w2 = .ok () (setBlock w2 b (.map (es.modify j fun e => { e with val := v' }) clock)) := by
    simp [Instr.entryStore, MapKept.run_getObj_map hb2, asInt, asIntOf, goInt, hidx, MapKept.run_setObj_map _ hb2, Result.andThen, setBlock]
  have hg2 : w2.grownBy (setBlock w2 b (.map (es.modify j fun e => { e with val := v' }) clock)) (some b) := ⟨rfl, rfl, rfl, by simp [setBlock], fun i _ hi => heap_setBlock_other hb2 _ (fun e1 => hi (by rw [e1]))⟩
  have hlist : (es.modify j fun e => { e with val := v' }).toList = es.toList.set j { e1 with val := v' } := by
    rw [Array.toList_modify, modify_eq_set _ _ _ _ hj]
  have who : ∀ x ∈ (es.modify j fun e => { e with val := v' }).toList, x = { e1 with val := v' } ∨ (x ∈ es.toList ∧ x.key ≠ e1.key) := fun x hx => mem_set_of h.stamped.2.2 hj (by rw [← hlist]; exact hx)
  have off : ∀ x ∈ es.toList, x.key ≠ e1.key → x.val.ownBlock = Option.none ∨ x.val.ownBlock ≠ e1.val.ownBlock := fun x hx hk => h.apart x hx e1 hm1 hk
  have far : ∀ x ∈ es.toList, x.key ≠ e1.key → x.val.ownBlock = Option.none ∨ x.val.ownBlock ≠ v'.ownBlock := by
    intro x hx hk
    rcases hloc with h1 | ⟨g, h1, h2⟩
    · rw [h1]; exact off x hx hk
    · cases hx' : x.val.ownBlock with
      | none => exact .inl rfl
      | some gx =>
        have := ((h.owns x hx).1.lt gx hx').2
        refine .inr fun e1 => ?_
        rw [h1] at e1
        cases e1
        omega
  refine ⟨_, hrun, ⟨_, clock, heap_setBlock_same hb2 _, stamped_modify h.stamped j _ (fun _ _ => rfl) (fun _ _ _ => rfl), h.low, ?_, ?_, ?_, ?_⟩, hg2⟩
  · intro x hx
    rcases who x hx with rfl | ⟨hx0, _⟩
    · exact h.keys e1 hm1
    · exact h.keys x hx0
  · intro x hx
    rcases who x hx with rfl | ⟨hx0, hk⟩
    · show World.ownsInts _ base e q v' (G' e1.key)
      rw [hG1]
      exact hown.kept hg2 (ints_not hown h.low)
    · rw [hG2 _ hk]
      have h1 := (h.owns x hx0).kept hg (off x hx0 hk)
      exact h1.kept hg2 (ints_not h1 h.low)
  · intro u hu
    have hne : u ≠ e1.key := fun e2 => by
      obtain ⟨y, hy, hyk⟩ := mem_set_key (a := { e1 with val := v' }) hj rfl hm1
      exact hu y (by rw [hlist]; exact hy) (hyk.trans e2.symm)
    rw [hG2 u hne]
    refine h.none u fun x hx hxu => ?_
    obtain ⟨y, hy, hyk⟩ := mem_set_key (a := { e1 with val := v' }) hj rfl hx
    exact hu y (by rw [hlist]; exact hy) (hyk.trans hxu)
  · intro x hx y hy hne
    rcases who x hx with rfl | ⟨hx0, hxk⟩ <;> rcases who y hy with rfl | ⟨hy0, hyk⟩
    · exact absurd rfl hne
    · show v'.ownBlock = Option.none ∨ v'.ownBlock ≠ y.val.ownBlock
      rcases far y hy0 hyk with h1 | h1
      · cases hv : v'.ownBlock with
        | none => exact .inl rfl
        | some g => rw [h1]; exact .inr (by simp)
      · exact .inr (Ne.symm h1)
    · exact far x hx0 hxk
    · exact h.apart x hx0 y hy0 hne
theorem Grp.entry (K : WideMaps.KeyLaw P k) (ht : P.underlying t = some (.map k E)) (hz : ∀ u : World, (zeroValue E).run P u = .ok (.slice Option.none 0 0) u) (h : Grp P k e q w base b G) {key : Value} {kl : Lit} (hkey : keyOf P k key = some kl) :
    ∃ v st w1, (Instr.mapEntry t (.map (some b)) key).run P w = .ok (.tuple #[v, goInt ((st : Nat) : Int)]) w1 ∧ w.grownBy w1 (some b) ∧ w1.ownsInts base e q v (G key) ∧ Back P k e q t w1 base b G key v st ∧ ∃ es c, w1.heap[b]? = some (.map es c) := by
  obtain ⟨es, clock, h⟩ := h
  have grown : ∀ es' c', w.grownBy (setBlock w b (.map es' c')) (some b) := fun es' c' => ⟨rfl, rfl, rfl, by simp [setBlock], fun i _ hi => heap_setBlock_other h.heap _ (fun e1 => hi (by rw [e1]))⟩
  rcases K.find w hkey es.toList h.keys with ⟨h1, h2⟩ | ⟨j, e0, h1, h2, h3⟩
  · have hrun : (Instr.mapEntry t (.map (some b)) key).run P w = .ok (.tuple #[.slice Option.none 0 0, goInt ((clock : Nat) : Int)]) (setBlock w b (.map (es.push ⟨key, .slice Option.none 0 0, clock⟩) (clock + 1))) := by
      simp [Instr.mapEntry, run_underlying ht, MapKept.run_getObj_map h.heap, K.check w false hkey, h1, hz, MapKept.run_setObj_map _ h.heap, Result.andThen, setBlock]
    have A : GrpAt P k e q (setBlock w b (.map (es.push ⟨key, .slice Option.none 0 0, clock⟩) (clock + 1))) base b G (es.push ⟨key, .slice Option.none 0 0, clock⟩) (clock + 1) := by
      refine ⟨heap_setBlock_same h.heap _, stamped_push h.stamped h2, h.low, ?_, ?_, ?_, ?_⟩
      · intro x hx
        simp only [Array.toList_push, List.mem_append, List.mem_singleton] at hx
        rcases hx with hx | rfl
        · exact h.keys x hx
        · exact ⟨_, hkey⟩
      · intro x hx
        simp only [Array.toList_push, List.mem_append, List.mem_singleton] at hx
        rcases hx with hx | rfl
        · exact (h.owns x hx).kept (grown _ _) (ints_not (h.owns x hx) h.low)
        · show World.ownsInts _ base e q (.slice Option.none 0 0) (G key)
          rw [h.none key h2]
          exact World.ownsInts_nil _ _ _ _
      · intro u hu
        exact h.none u fun x hx => hu x (by simp [hx])
      · intro x hx y hy hne
        simp only [Array.toList_push, List.mem_append, List.mem_singleton] at hx hy
        rcases hx with hx | rfl
        · rcases hy with hy | rfl
          · exact h.apart x hx y hy hne
          · cases hxv : x.val.ownBlock with
            | none => exact .inl rfl
            | some g => exact .inr (by simp [Value.ownBlock])
        · exact .inl rfl
    exact ⟨_, clock, _, hrun, grown _ _, by rw [h.none key h2]; exact World.ownsInts_nil _ _ _ _, back_of (j := es.size) (e1 := ⟨key, .slice Option.none 0 0, clock⟩) A (by simp), _, _, A.heap⟩
  · have hj : es[j]? = some e0 := by simpa using h2
    have hsame : es.modify j (fun e => { e with key := key }) = es := by
      apply Array.ext'
      rw [Array.toList_modify, modify_eq_set _ _ _ _ h2]
      have : ({ e0 with key := key } : MapEntry) = e0 := by rw [← h3]
      rw [this]
      exact set_self _ _ _ h2
    have hrun : (Instr.mapEntry t (.map (some b)) key).run P w = .ok (.tuple #[e0.val, goInt ((e0.born : Nat) : Int)]) (setBlock w b (.map es clock)) := by
      simp [Instr.mapEntry, run_underlying ht, MapKept.run_getObj_map h.heap, K.check w false hkey, h1, hj, h3, K.stays w hkey, hsame, MapKept.run_setObj_map _ h.heap, Result.andThen, setBlock]
    have A : GrpAt P k e q (setBlock w b (.map es clock)) base b G es clock :=
      ⟨heap_setBlock_same h.heap _, h.stamped, h.low, h.keys, fun x hx => (h.owns x hx).kept (grown _ _) (ints_not (h.owns x hx) h.low), h.none, h.apart⟩
    have hb := back_of (t := t) (j := j) (e1 := e0) A h2
    rw [h3] at hb
    refine ⟨_, e0.born, _, hrun, grown _ _, ?_, hb, _, _, A.heap⟩
    rw [← h3]
    exact A.owns e0 (List.mem_of_getElem? h2)
end
theorem wpList_grp_look {P : Program} (w : World) {ops : Array Oper} {rest : List Oper} {o : Oper} {a : Act} {Q : Exit → Act → World → Prop}
    (hg : o.guard = none) (m x : Operand) (t : TypeId) (hop : o.op = Op.lookup t m x false) {k E e : TypeId} {q : IntKind} (K : WideMaps.KeyLaw P k) (ht : P.underlying t = some (.map k E)) (hz : ∀ u : World, (zeroValue E).run P u = .ok (.slice none 0 0) u)
    {base b : Nat} {G : Value → List Int} (hm : a.eval m = .map (some b)) (h : Grp P k e q w base b G) {key : Value} {kl : Lit} (hx : a.eval x = key) (hkey : keyOf P k key = some kl)
    (hK : ∀ v, w.ownsInts base e q v (G key) → wpList P ops Q rest (a.put o.dst v) w) : wpList P ops Q (o :: rest) a w := by
  refine wpList_plain hg fun K' hK' => ?_
  obtain ⟨v, hrun, hoi⟩ := h.look K ht (hz w) hkey
  unfold Oper.wp
  simp [execOp, hop, hm, hx, hrun, Result.andThen]
  exact hK' _ _ (hK v hoi)
theorem wpList_grp_entry {P : Program} (w : World) {ops : Array Oper} {rest : List Oper} {o : Oper} {a : Act} {Q : Exit → Act → World → Prop}
    (hg : o.guard = none) (m x : Operand) (t : TypeId) (hop : o.op = Op.mapEntry t m x) {k E e : TypeId} {q : IntKind} (K : WideMaps.KeyLaw P k) (ht : P.underlying t = some (.map k E)) (hz : ∀ u : World, (zeroValue E).run P u = .ok (.slice none 0 0) u)
    {base b : Nat} {G : Value → List Int} (hm : a.eval m = .map (some b)) (h : Grp P k e q w base b G) {key : Value} {kl : Lit} (hx : a.eval x = key) (hkey : keyOf P k key = some kl)
    (hK : ∀ v st w1, w.grownBy w1 (some b) → w1.ownsInts base e q v (G key) → Back P k e q t w1 base b G key v st → (∃ es c, w1.heap[b]? = some (.map es c)) → wpList P ops Q rest (a.put o.dst (.tuple #[v, .int .i64 ((st : Nat) : Int)])) w1) : wpList P ops Q (o :: rest) a w := by
  refine wpList_plain hg fun K' hK' => ?_
  obtain ⟨v, st, w1, hrun, h1, h2, h3, h4⟩ := h.entry K ht hz hkey
  unfold Oper.wp
  simp [execOp, hop, hm, hx, hrun, Result.andThen]
  exact hK' _ _ (hK v st w1 h1 h2 h3 h4)
theorem wpList_grp_store {P : Program} (w : World) {ops : Array Oper} {rest : List Oper} {o : Oper} {a : Act} {Q : Exit → Act → World → Prop}
    (hg : o.guard = none) (m s x : Operand) (t : TypeId) (hop : o.op = Op.entryStore t m s x) {k e : TypeId} {q : IntKind} {w1 : World} {base b st : Nat} {G : Value → List Int} {key v v' : Value} {zs' : List Int}
    (hb : Back P k e q t w1 base b G key v st) (hm : a.eval m = .map (some b)) (hs : a.eval s = .int .i64 ((st : Nat) : Int)) (hx : a.eval x = v') (hgr : w1.grownBy w v.ownBlock) (hown : w.ownsInts base e q v' zs')
    (hloc : v'.ownBlock = v.ownBlock ∨ ∃ g, v'.ownBlock = some g ∧ w1.heap.size ≤ g) (G' : Value → List Int) (hG1 : G' key = zs') (hG2 : ∀ u, u ≠ key → G' u = G u)
    (hK : ∀ w3, Grp P k e q w3 base b G' → w.grownBy w3 (some b) → wpList P ops Q rest (a.put o.dst undef) w3) : wpList P ops Q (o :: rest) a w := by
  refine wpList_plain hg fun K' hK' => ?_
  obtain ⟨w3, hrun, h1, h2⟩ := hb w v' zs' hgr hown hloc G' hG1 hG2
  replace hrun : (Instr.entryStore t (.map (some b)) (.int .i64 ((st : Nat) : Int)) v').run P w = .ok () w3 := hrun
  unfold Oper.wp
  simp [execOp, hop, hm, hs, hx, hrun, Result.andThen]
  exact hK' _ _ (hK w3 h1 h2)
/-- a walk stands still here -/
def Stop (p : Prop) : Prop := p
theorem stop_entry {P : Program} {ops : Array Oper} {rest : List Oper} {a : Act} {Q : Exit → Act → World → Prop} {w : World} {dst : Option Tmp} {ty : TypeId} {ps : String} {af : Array Edge} {t : TypeId} {m x : Operand}
    (h : Stop (wpList P ops Q (⟨dst, Op.mapEntry t m x, ty, ps, af, none⟩ :: rest) a w)) : wpList P ops Q (⟨dst, Op.mapEntry t m x, ty, ps, af, none⟩ :: rest) a w := h
theorem stop_store {P : Program} {ops : Array Oper} {rest : List Oper} {a : Act} {Q : Exit → Act → World → Prop} {w : World} {dst : Option Tmp} {ty : TypeId} {ps : String} {af : Array Edge} {t : TypeId} {m x y : Operand}
    (h : Stop (wpList P ops Q (⟨dst, Op.entryStore t m x y, ty, ps, af, none⟩ :: rest) a w)) : wpList P ops Q (⟨dst, Op.entryStore t m x y, ty, ps, af, none⟩ :: rest) a w := h
theorem stop_look {P : Program} {ops : Array Oper} {rest : List Oper} {a : Act} {Q : Exit → Act → World → Prop} {w : World} {dst : Option Tmp} {ty : TypeId} {ps : String} {af : Array Edge} {t : TypeId} {m x : Operand}
    (h : Stop (wpList P ops Q (⟨dst, Op.lookup t m x false, ty, ps, af, none⟩ :: rest) a w)) : wpList P ops Q (⟨dst, Op.lookup t m x false, ty, ps, af, none⟩ :: rest) a w := h
theorem stop_append {P : Program} {ops : Array Oper} {rest : List Oper} {a : Act} {Q : Exit → Act → World → Prop} {w : World} {dst : Option Tmp} {ty : TypeId} {ps : String} {af : Array Edge} {t : TypeId} {x y : Operand}
    (h : Stop (wpList P ops Q (⟨dst, Op.call { callee := Callee.builtin Builtin.append, args := #[x, y], argTypes := #[t, t] }, ty, ps, af, none⟩ :: rest) a w)) :
    wpList P ops Q (⟨dst, Op.call { callee := Callee.builtin Builtin.append, args := #[x, y], argTypes := #[t, t] }, ty, ps, af, none⟩ :: rest) a w := h
end Go.Proofs.Ytdiimebcahhieaa
