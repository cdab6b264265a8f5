/-
  The walk of CrcMixed: it returns true for every three texts.
-/
import Derived.Test.YtckdkoakgnojbaaMm
import Derived.Laws.IdiomStrings
import Derived.Laws.AppendOwn
import Derived.Deep.RegionLaw
import Derived.BigQuiet
import Derived.Deep.DeepCutAuto
namespace Go.Proofs.Ytckdkoakgnojbaa
open Go.RowKit Ma Go.Lib
theorem info5 : (Try.prog.info? 5).map (fun i => (i.zero, i.size, i.bytes)) = some (some (.int .u8 0), 1, 1) := by kernel_rfl
def pb (o : List UInt8) : List Value := o.map fun x => Value.int .u8 (x.toNat : Int)
theorem pb_one (o : List UInt8) : ∀ u ∈ pb o, u.oneCell' = true := fun u hu => by
  obtain ⟨j, _, rfl⟩ := List.mem_map.1 hu
  rfl
/-- What the loop keeps in sight: the row of what is turned so far. -/
structure Row5 (o : List UInt8) (k : Nat) (w wr : World) (g cap : Nat) : Prop where
  own : wr.ownsRow w.heap.size 5 1 (.slice (some ⟨g, 0, none⟩) k cap) k (pb o)
  len : o.length = k
  below : Below w.heap.size w wr
theorem own_some {w : World} {base n : Nat} {v : Value} {xs : List Value} (h : w.ownsRow base 5 1 v n xs) (hn : ¬ v = .slice none 0 0) : ∃ g c, v = .slice (some ⟨g, 0, none⟩) n c := by
  rcases h.2 with ⟨h1, _⟩ | ⟨g, c, _, h1, _⟩
  · exact absurd h1 hn
  · exact ⟨g, c, h1⟩
theorem Row5.drew {o : List UInt8} {k : Nat} {w wr : World} {g cap : Nat} (h : Row5 o k w wr g cap) : Row5 o k w wr.drew g cap := ⟨h.own, h.len, h.below.drew⟩
theorem Row5.text {o : List UInt8} {k : Nat} {w wr : World} {g cap : Nat} (h : Row5 o k w wr g cap) (W : World) (hW : Below wr.heap.size wr W) :
    (convert 33 9 (.slice (some ⟨g, 0, none⟩) k cap)).run Try.prog W = .ok (.string ⟨o.toArray⟩) W := by
  have hl := h.len
  subst hl
  refine run_convert_bytes_back W 33 9 5 ⟨g, 0, none⟩ cap o Try.underlying33 Try.underlying5 Try.underlying9 (fun j hj => ?_)
  have hg := (h.own.lt g rfl).2
  have hc := h.own.cells (g := g) rfl j (.int .u8 (o[j].toNat : Int)) (by unfold pb; rw [List.getElem?_map, List.getElem?_eq_getElem hj]; rfl)
  rw [Addr.add_lit] at hc ⊢
  rw [hW.cell (p := ⟨g, 0 + j, none⟩) hg]
  exact hc
/-- append to a row of the call's own, as one step of a region that draws its order. -/
theorem step_append_mine {P : Program} {ops : Array Oper} {o : Oper} {a : Act} {w : World} {K : Act → World → Prop} {Q : Exit → Act → World → Prop} {E : Prop}
    (hg : o.guard = none) (s x : Operand) (t : TypeId) (hop : o.op = Op.call { callee := Callee.builtin Builtin.append, args := #[s, x], argTypes := #[t, t] })
    (base : Nat) (e : TypeId) (i : TypeInfo) (z : Value) (size bytes : Nat) (h1 : P.underlying t = some (.slice e)) (h2 : P.info? e = some i) (h3 : i.zero = some z) (h4 : i.size = size) (h5 : i.bytes = bytes) (h6 : z.cells.size = size) (h7 : 0 < size)
    (v : Value) (n : Nat) (xs : List Value) (hs : a.eval s = v) (hown : w.ownsRow base e size v n xs)
    (ad : Addr) (m c : Nat) (news : List Value) (hx : a.eval x = .slice (some ad) m c) (hn : news.length = m * size) (hc : ∀ j u, news[j]? = some u → w.cell? (ad.add j) = some u) (h1c : ∀ u ∈ news, u.oneCell' = true)
    (b1 : n + m ≤ maxLen) (b2 : (n + m) * bytes ≤ 140737488355328) (b3 : base ≤ w.heap.size)
    (hK : ∀ v' w', w'.ownsRow base e size v' (n + m) (xs ++ news) → w.grownBy w' v.ownBlock → (v' = .slice none 0 0 ↔ v = .slice none 0 0 ∧ m = 0) → K (a.put o.dst v') w') :
    if Region.wanted o (yielded ops a.tmps) = true then Oper.wp P o a w K Q else E := by
  have hw : Region.wanted o (yielded ops a.tmps) = true := by simp [Region.wanted, hg]
  rw [if_pos hw]
  obtain ⟨v', w', hrun, r1, r2, r3⟩ := run_append_own (P := P) w base t o.type e i z size bytes h1 h2 h3 h4 h5 h6 h7 v n xs hown ad m c news hn hc h1c b1 b2 b3
  unfold Oper.wp
  simp [execOp, hop, resolve, invoke, builtin, hs, hx, hrun, Result.andThen]
  exact hK v' w' r1 r2 r3
/-- A byte more in the row. -/
theorem Row5.more {o : List UInt8} {k : Nat} {w wr w3 : World} {g cap : Nat} {x : UInt8} {v : Value} (h : Row5 o k w wr g cap)
    (own1 : w3.ownsRow w.heap.size 5 1 v (k + 1) (pb o ++ pb [x])) (gr : ((wr.alloc (.cells #[.int .u8 (x.toNat : Int)] 5)).drew).grownBy w3 (Value.slice (some ⟨g, 0, none⟩) k cap).ownBlock)
    (nn : v = .slice none 0 0 ↔ (Value.slice (some ⟨g, 0, none⟩) k cap) = .slice none 0 0 ∧ 1 = 0) : ∃ g1 c1, v = .slice (some ⟨g1, 0, none⟩) (k + 1) c1 ∧ Row5 (o ++ [x]) (k + 1) w w3 g1 c1 := by
  obtain ⟨g1, c1, rfl⟩ := own_some own1 (fun e => by cases (nn.1 e).1)
  refine ⟨g1, c1, rfl, by simpa [pb] using own1, by simp [h.len], ?_⟩
  have hb : Below w.heap.size w ((wr.alloc (.cells #[.int .u8 (x.toNat : Int)] 5)).drew) := (h.below.alloc h.below.size _).drew
  exact hb.grown gr hb.size (fun b hb => (h.own.lt b hb).1)
theorem Row5.row {o : List UInt8} {k : Nat} {w wr : World} {g cap : Nat} (h : Row5 o k w wr g cap) (O : Obj) : ((wr.alloc O).drew).ownsRow w.heap.size 5 1 (.slice (some ⟨g, 0, none⟩) k cap) k (pb o) := h.own.alloc O
theorem one_cell (wr : World) (x : UInt8) : ∀ j u, (pb [x])[j]? = some u → ((wr.alloc (.cells #[.int .u8 (x.toNat : Int)] 5)).drew).cell? ((⟨wr.heap.size, 0, none⟩ : Addr).add j) = some u := fun j u hj => by
  match j, hj with
  | 0, hj => simp [pb] at hj; subst hj; simp [Addr.add]
  | j + 1, hj => simp [pb] at hj
/-- a world in which all that was there is as it was -/
structure BW (wr : World) where
  val : World
  ok : Below wr.heap.size wr val
theorem wp_region_bw {id : Nat} {Q : Exit → Act → World → Prop} {a : Act} {w : World} {l : List Oper} {P : Program} (hm : P.follows .mixedOrders = true) (hB : Region.lexB .any l.toArray = true)
    (h : wpQuiet P l.toArray (fun w' => ∃ i : BW w, w' = i.val) (fun a' => ∀ w', (∃ i : BW w, w' = i.val) → Q .normal a' w') l a) : (Code.region id l.toArray true).wp P Q a w :=
  wp_region_quiet (C := fun w' => ∃ i : BW w, w' = i.val) hm hB ⟨⟨w.drew, (Below.refl _ _).drew⟩, rfl⟩ (by simpa using h)
theorem BW.same {P : Program} {f : FuncId} {args : Array Value} {w : World} {v : Value} (i : BW w) (h : Calls P f args i.val fun e w' => e = .returned v ∧ w' = i.val) :
    Calls P f args i.val fun e w'' => e = .returned v ∧ ∃ j : BW w, w'' = j.val := h.mono fun _ _ ⟨he, hm⟩ => ⟨he, i, hm⟩
theorem BW.next {P : Program} {f : FuncId} {args : Array Value} {w : World} {v : Value} (i : BW w) (h : Calls P f args i.val fun e w' => e = .returned v ∧ Below w.heap.size w w') :
    Calls P f args i.val fun e w'' => e = .returned v ∧ ∃ j : BW w, w'' = j.val := h.mono fun _ _ ⟨he, hm⟩ => ⟨he, ⟨_, hm⟩, rfl⟩
theorem turn3 (a b c : UInt8) : bits .xor .u8 (bits .xor .u8 (a.toNat : Int) (b.toNat : Int)) (c.toNat : Int) = (((a ^^^ b ^^^ c).toNat : Nat) : Int) := by
  have ha := a.toNat_lt
  have hb := b.toNat_lt
  have hc := c.toNat_lt
  have hx : a.toNat ^^^ b.toNat < 2 ^ 8 := Nat.xor_lt_two_pow ha hb
  rw [u8_xor_nat _ _ (by omega) (by omega), u8_xor_nat _ _ (by omega) (by omega), UInt8.toNat_xor, UInt8.toNat_xor]
theorem sum3 (x y z : Nat) (hx : x < 2 ^ 32) (hy : y < 2 ^ 32) (hz : z < 2 ^ 32) : bits .xor .u32 (bits .xor .u32 (x : Int) (y : Int)) (z : Int) = ((x ^^^ y ^^^ z : Nat) : Int) := by
  have h : x ^^^ y < 2 ^ 32 := Nat.xor_lt_two_pow hx hy
  rw [u32_xor_nat _ _ (by omega) (by omega), u32_xor_nat _ _ (by omega) (by omega)]
/-- what is turned together, up to n -/
def mixL (a b c : ByteArray) (n : Nat) : List UInt8 := xorL (xorL (a.data.toList.take n) (b.data.toList.take n)) (c.data.toList.take n)
theorem mix_length (a b c : ByteArray) (n : Nat) (ha : n ≤ a.size) (hb : n ≤ b.size) (hc : n ≤ c.size) : (mixL a b c n).length = n := by
  rw [Lib.size_eq] at ha hb hc
  unfold mixL
  rw [xorL_length, xorL_length, List.length_take]
  · omega
  · simp only [List.length_take]; omega
  · rw [xorL_length] <;> simp only [List.length_take] <;> omega
theorem mix_snoc (a b c : ByteArray) (k : Nat) (ha : k < a.size) (hb : k < b.size) (hc : k < c.size) : mixL a b c (k + 1) = mixL a b c k ++ [a[k] ^^^ b[k] ^^^ c[k]] := by
  have l1 : (a.data.toList.take k).length = (b.data.toList.take k).length := by
    rw [Lib.size_eq] at ha hb
    simp only [List.length_take]; omega
  have l2 : (xorL (a.data.toList.take k) (b.data.toList.take k)).length = (c.data.toList.take k).length := by
    rw [xorL_length _ _ l1]
    rw [Lib.size_eq] at ha hc
    simp only [List.length_take]; omega
  unfold mixL
  rw [take_snoc a k ha, take_snoc b k hb, take_snoc c k hc]
  unfold xorL at *
  rw [List.zipWith_append l1, List.zipWith_append l2]
  rfl
theorem sum_mix (a b c : ByteArray) (n : Nat) (ha : n ≤ a.size) (hb : n ≤ b.size) (hc : n ≤ c.size) :
    sumN (mixL a b c n) = sumN (a.extract 0 n).data.toList ^^^ sumN (b.extract 0 n).data.toList ^^^ sumN (c.extract 0 n).data.toList := by
  rw [Lib.size_eq] at ha hb hc
  unfold mixL
  rw [sum_mixed _ _ _ (by simp only [List.length_take]; omega) (by simp only [List.length_take]; omega), Lib.extract_data, Lib.extract_data, Lib.extract_data]
  rfl
set_option maxHeartbeats 2000000 in
theorem mixed_walk (a b c : ByteArray) (n : Nat) (hn : min (a.size : Int) (min (b.size : Int) (c.size : Int)) = (n : Int)) (ha : n ≤ a.size) (hb : n ≤ b.size) (hc : n ≤ c.size) (hs : n ≤ 140737488351232) (w : World) :
    Calls Try.prog 5 #[.string a, .string b, .string c] w fun e w' => e = .returned (.bool true) ∧ Below w.heap.size w w' := by
  have H0 : Hid (Row5 (mixL a b c 0) 0 w (w.alloc (.cells #[] 5)) w.heap.size 0) := ⟨World.ownsRow_made w #[] 0 (Nat.le_refl _) (by decide) rfl, rfl, (Below.refl _ _).alloc (Nat.le_refl _) _⟩
  obtain ⟨i0, hi0, hz0, hz1, hz2⟩ := info_parts info5
  go_enter Try.func5, Try.ntmps5
  go_wp2
  go_loopw [8, 9] (fun v i wr => ∃ (k g cap : Nat), k ≤ n ∧ i = .int .i64 k ∧ v = .slice (some ⟨g, 0, none⟩) k cap ∧ Hid (Row5 (mixL a b c k) k w wr g cap)) (fun _ i _ => n - (RowKit.intOf i).toNat)
  case atStart => exact ⟨0, _, 0, by omega, rfl, rfl, H0⟩
  case round =>
    clear H0
    obtain ⟨k, g, cap, hk, rfl, rfl, HS⟩ := hrel
    by_cases hlt : k < n
    · have ka : k < a.size := by omega
      have kb : k < b.size := by omega
      have kc : k < c.size := by omega
      have HM : Hid (mixL a b c (k + 1) = mixL a b c k ++ [a[k] ^^^ b[k] ^^^ c[k]]) := by show _ = _; exact mix_snoc a b c k ka kb kc
      have hx := turn3 a[k] b[k] c[k]
      generalize a[k] ^^^ b[k] ^^^ c[k] = x at hx HM
      go_wp2
      have o1 := fun O => HS.out.row O
      have o2 := one_cell wr x
      have o3 : w.heap.size ≤ ((wr.alloc (.cells #[.int .u8 (x.toNat : Int)] 5)).drew).heap.size := by have := HS.out.below.size; show _ ≤ (wr.heap.push _).size; simp; omega
      go_region_law (refine step_append_mine rfl (.tmp 24) (.tmp 36) 33 rfl w.heap.size 5 i0 (.int .u8 0) 1 1 Try.underlying33 hi0 hz0 hz1 hz2 rfl (by decide) _ k (pb (mixL a b c k)) (by simp [Act.eval]) (o1 _) ⟨wr.heap.size, 0, none⟩ 1 1 (pb [x]) (by simp [Act.eval]) rfl o2 (pb_one _) (by unfold maxLen; omega) (by omega) o3 ?_; intro v1 w3 own1 gr1 nn1; obtain ⟨g1, c1, rfl, HN⟩ := HS.out.more own1 gr1 nn1; replace HN := Lib.hid HN; clear own1 gr1 nn1)
      all_goals
        rw [← HM.out] at HN
        simp only [Exit.inBlock, Exit.then]
        go_wp2
        go_roundw
        case rel => exact ⟨k + 1, g1, c1, by omega, by go_num, rfl, HN⟩
        case measure => simp [RowKit.intOf]; omega
    · have e : k = n := by omega
      subst e
      have hr : ∀ i : BW wr, _ := fun i => HS.out.text i.val i.ok
      have hne : Nonempty (BW wr) := ⟨⟨wr, Below.refl _ _⟩⟩
      have hb1 := HS.out.below
      have kf := fun i : BW wr => i.next (fixed_at wr i.val i.ok)
      have hm := sum_mix a b c k ha hb hc
      have s0 := fun i : BW wr => i.same (sum_any ⟨(mixL a b c k).toArray⟩ i.val (by rw [show (ByteArray.mk (mixL a b c k).toArray).size = (mixL a b c k).length from by simp [ByteArray.size], mix_length a b c k ha hb hc]; omega))
      have s1 := fun i : BW wr => i.same (sum_any (a.extract 0 k) i.val (by rw [Lib.size_eq, Lib.extract_data, List.length_take]; omega))
      have s2 := fun i : BW wr => i.same (sum_any (b.extract 0 k) i.val (by rw [Lib.size_eq, Lib.extract_data, List.length_take]; omega))
      have s3 := fun i : BW wr => i.same (sum_any (c.extract 0 k) i.val (by rw [Lib.size_eq, Lib.extract_data, List.length_take]; omega))
      have hx := sum3 _ _ _ (sumN_lt (a.extract 0 k).data.toList) (sumN_lt (b.extract 0 k).data.toList) (sumN_lt (c.extract 0 k).data.toList)
      rw [← hm] at hx
      rw [show (ByteArray.mk (mixL a b c k).toArray).data.toList = mixL a b c k from rfl] at s0
      clear hm HS
      generalize sumN (mixL a b c k) = x0 at *
      generalize sumN (a.extract 0 k).data.toList = x1 at *
      generalize sumN (b.extract 0 k).data.toList = x2 at *
      generalize sumN (c.extract 0 k).data.toList = x3 at *
      generalize (ByteArray.mk (mixL a b c k).toArray) = t at *
      have ha' : (k : Int) ≤ a.size := by omega
      have hb' : (k : Int) ≤ b.size := by omega
      have hc' : (k : Int) ≤ c.size := by omega
      go_wp2_with fail
      refine wp_region_bw (by kernel_rfl) (by kernel_rfl) ?_
      repeat (first
        | go_big_quiet_step (first | (go_at_call 10; exact kf _) | (go_at_call 11; with_reducible exact s0 _) | (go_at_call 11; with_reducible exact s1 _) | (go_at_call 11; with_reducible exact s2 _) | (go_at_call 11; with_reducible exact s3 _))
        | quiet_step (first | (go_at_call 10; exact kf _) | (go_at_call 11; with_reducible exact s0 _) | (go_at_call 11; with_reducible exact s1 _) | (go_at_call 11; with_reducible exact s2 _) | (go_at_call 11; with_reducible exact s3 _)))
      refine wpQuiet_nil ?_
      rintro _ ⟨i, rfl⟩
      have hB : Hid (Below w.heap.size w i.val) := hb1.trans (i.ok.mono hb1.size)
      simp only [Exit.then]
      go_wp2
      go_ret
      exact ⟨rfl, hB.out⟩
end Go.Proofs.Ytckdkoakgnojbaa
