/-
  What the document's own Uint, Hyper, Fixed and Opaque answer. Their condition: texts of at most 2^40 bytes.
-/
import Derived.Test.YtjogcdkebplcpaaGreatDoorXPut
import Derived.Deep.AppendSrc
namespace Go.Proofs.YtjogcdkebplcpaaGreatDoor.X
open Go.RowKit

theorem conv4 (W : World) (x0 x1 x2 x3 : Int) : (convert 54 9 (.slice (some ⟨W.heap.size, 0, none⟩) 4 4)).run Tryz.prog (W.alloc (.cells #[.int .u8 x0, .int .u8 x1, .int .u8 x2, .int .u8 x3] 5)) =
    .ok (.string (strOfNums [x0, x1, x2, x3])) (W.alloc (.cells #[.int .u8 x0, .int .u8 x1, .int .u8 x2, .int .u8 x3] 5)) := by
  refine run_convert_bytes_arg (P := Tryz.prog) _ 54 5 Tryz.underlying54 Tryz.underlying5 W.heap.size 0 4 4 [x0, x1, x2, x3] rfl ?_ 9 Tryz.underlying9
  intro i hi
  rw [cell_of_row _ W.heap.size (0 + i) _ _ _ (heap_alloc_new W _)]
  match i, hi with
  | 0, _ => rfl
  | 1, _ => rfl
  | 2, _ => rfl
  | 3, _ => rfl

theorem u64w (n : Int) : IntKind.u64.wrap n = n % 18446744073709551616 := rfl
theorem ubyte24 (n : Int) : (IntKind.u64.wrap ((IntKind.u64.wrap n).tdiv 16777216)).tmod 256 % 256 = n / (2 : Int) ^ 24 % 256 := by
  rw [u64w, u64w, Int.tdiv_eq_ediv_of_nonneg (by omega), Int.tmod_eq_emod_of_nonneg (by omega)]; simp only [Int.reducePow]; omega
theorem ubyte16 (n : Int) : (IntKind.u64.wrap ((IntKind.u64.wrap n).tdiv 65536)).tmod 256 % 256 = n / (2 : Int) ^ 16 % 256 := by
  rw [u64w, u64w, Int.tdiv_eq_ediv_of_nonneg (by omega), Int.tmod_eq_emod_of_nonneg (by omega)]; simp only [Int.reducePow]; omega
theorem ubyte8 (n : Int) : (IntKind.u64.wrap ((IntKind.u64.wrap n).tdiv 256)).tmod 256 % 256 = n / (2 : Int) ^ 8 % 256 := by
  rw [u64w, u64w, Int.tdiv_eq_ediv_of_nonneg (by omega), Int.tmod_eq_emod_of_nonneg (by omega)]; simp only [Int.reducePow]; omega
theorem ubyte0 (n : Int) : (IntKind.u64.wrap n).tmod 256 % 256 = n / (2 : Int) ^ 0 % 256 := by
  rw [u64w, Int.tmod_eq_emod_of_nonneg (by omega)]; simp only [Int.reducePow]; omega
theorem ubytes (n : Int) : strOfNums [(IntKind.u64.wrap ((IntKind.u64.wrap n).tdiv 16777216)).tmod 256 % 256, (IntKind.u64.wrap ((IntKind.u64.wrap n).tdiv 65536)).tmod 256 % 256, (IntKind.u64.wrap ((IntKind.u64.wrap n).tdiv 256)).tmod 256 % 256, (IntKind.u64.wrap n).tmod 256 % 256] = ⟨(numBytes n 4).toArray⟩ := by
  rw [ubyte24, ubyte16, ubyte8, ubyte0]; rfl
theorem ret_str {a b : ByteArray} (h : a = b) : Ending.returned (.string a) = .returned (.string b) := by rw [h]
theorem cat_arr (a b : List UInt8) : (({ data := a.toArray } : ByteArray) ++ { data := b.toArray }) = ⟨(a ++ b).toArray⟩ := by
  apply ByteArray.ext
  rw [ByteArray.data_append]; simp

set_option maxHeartbeats 400000 in
theorem refUint_any (n : Int) (w : World) :
    Calls Tryz.prog 39 #[.int .i64 n] w fun e w' => e = .returned (.string ⟨(numBytes n 4).toArray⟩) ∧ Below w.heap.size w w' := by
  have hcv := conv4 w
  go_enter Tryz.func39, Tryz.ntmps39
  go_wp2
  go_ret
  exact ⟨ret_str (ubytes n), (Below.refl _ _).alloc (Nat.le_refl _) _⟩

theorem hi_half (n : Int) : wrap64 (IntKind.u64.wrap ((IntKind.u64.wrap n).tdiv 4294967296)) = n % 18446744073709551616 / 4294967296 := by
  rw [u64w, u64w, Int.tdiv_eq_ediv_of_nonneg (by omega), IntWalk.wrap64_in _ (by omega)]; omega
theorem byteAt_congr {n m : Int} {k j : Nat} (h : n / (2 : Int) ^ k % 256 = m / (2 : Int) ^ j % 256) : byteAt n k = byteAt m j := by unfold byteAt; rw [h]
theorem halves (n : Int) : numBytes (n % 18446744073709551616 / 4294967296) 4 ++ numBytes n 4 = numBytes n 8 := by
  show [byteAt _ 24, byteAt _ 16, byteAt _ 8, byteAt _ 0] ++ [byteAt n 24, byteAt n 16, byteAt n 8, byteAt n 0] = [byteAt n 56, byteAt n 48, byteAt n 40, byteAt n 32, byteAt n 24, byteAt n 16, byteAt n 8, byteAt n 0]
  rw [byteAt_congr (m := n) (k := 24) (j := 56) (by simp only [Int.reducePow]; omega), byteAt_congr (m := n) (k := 16) (j := 48) (by simp only [Int.reducePow]; omega),
    byteAt_congr (m := n) (k := 8) (j := 40) (by simp only [Int.reducePow]; omega), byteAt_congr (n := n % 18446744073709551616 / 4294967296) (m := n) (k := 0) (j := 32) (by simp only [Int.reducePow]; omega)]
  rfl

set_option maxHeartbeats 400000 in
theorem refHyper_any (n : Int) (w : World) :
    Calls Tryz.prog 41 #[.int .i64 n] w fun e w' => e = .returned (.string ⟨(numBytes n 8).toArray⟩) ∧ Below w.heap.size w w' := by
  go_enter Tryz.func41, Tryz.ntmps41
  go_wp2_with fail
  rw [hi_half]
  refine (refUint_any _ _).mono ?_
  rintro e w1 ⟨rfl, hB1⟩
  have HB1 := Lib.hid hB1
  clear hB1
  go_wp2_with fail
  refine (refUint_any _ _).mono ?_
  rintro e w2 ⟨rfl, hB2⟩
  have HB2 := Lib.hid (HB1.out.trans (hB2.mono HB1.out.size))
  clear hB2 HB1
  go_wp2
  go_ret
  exact ⟨ret_str (by rw [cat_arr, halves]), HB2.out⟩

theorem cellsOf_at (l : List UInt8) (j : Nat) (hj : j < l.length) : (cellsOf l).toArray[j]? = some (.int .u8 (l[j].toNat : Int)) := by
  rw [List.getElem?_toArray]
  unfold cellsOf
  rw [List.getElem?_map, List.getElem?_eq_getElem hj]
  rfl

/-- A row of the call's own whose mark, if it has one, lies behind its cells (what a conversion of a string leaves). -/
def Own2 (w : World) (g : Nat) (v : Value) (l : List UInt8) : Prop :=
  ∃ cap cur fr, v = .slice (some ⟨g, 0, none⟩) l.length cap ∧ w.heap[g]? = some (.cells cur 5 fr) ∧ (fr = (0, 0) ∨ cap ≤ fr.1) ∧ cur.size = cap ∧ cap ≤ maxLen ∧ l.length ≤ cap ∧ ∀ j (_ : j < l.length), cur[j]? = some (.int .u8 (l[j].toNat : Int))

theorem Own2.cells {w : World} {g : Nat} {v : Value} {l : List UInt8} (h : Own2 w g v l) : ∀ j (_ : j < l.length), w.cell? ⟨g, j, none⟩ = some (.int .u8 (l[j].toNat : Int)) := by
  obtain ⟨cap, cur, fr, _, hg, _, _, _, _, hc⟩ := h
  intro j hj
  rw [cell_of_row w g j _ _ _ hg]; exact hc j hj
theorem Own2.kept {w w' : World} {g : Nat} {v : Value} {l : List UInt8} (h : Own2 w g v l) (hb : w'.heap[g]? = w.heap[g]?) : Own2 w' g v l := by
  obtain ⟨cap, cur, fr, h1, hg, r⟩ := h
  exact ⟨cap, cur, fr, h1, hb.trans hg, r⟩

/-- One byte more on such a row. -/
theorem run_append2 {P : Program} (w : World) (t ty : TypeId) (i : TypeInfo) (ht : P.underlying t = some (.slice 5)) (hi : P.info? 5 = some i) (hz : i.zero = some (.int .u8 0)) (hsize : i.size = 1) (hby : i.bytes = 1)
    (g : Nat) (v : Value) (l : List UInt8) (h : Own2 w g v l) (b : UInt8) (B : Nat) (hB : w.heap[B]? = some (.cells #[.int .u8 b.toNat] 5 (0, 0))) (hlen : l.length + 1 ≤ 140737488355328) :
    ∃ v' w' g', (Builtin.append_ #[t, t] ty #[v, .slice (some ⟨B, 0, none⟩) 1 1]).run P w = .ok v' w' ∧ Own2 w' g' v' (l ++ [b]) ∧ w.grownBy w' (some g) ∧ (g' = g ∨ g' = w.heap.size) := by
  obtain ⟨cap, cur, fr, rfl, hg, hfr, hcs, hcm, hlc, hc⟩ := h
  have hsrc : Src P i.size t (.slice (some ⟨B, 0, none⟩) 1 1) 1 [.int .u8 b.toNat] w := by
    rw [hsize]
    refine Src.ofSlice w ht ⟨B, 0, none⟩ 1 1 [.int .u8 b.toNat] rfl ?_ (by simp [Value.oneCell'])
    exact World.news_of_block (cs := #[.int .u8 b.toNat]) hB
  by_cases hroom : l.length + 1 ≤ cap
  · have hcell : ∀ j, j < 1 → (w.cell? ⟨g, 0 + l.length * i.size + j, none⟩).isSome = true := by
      intro j hj
      rw [hsize, cell_of_row w g _ _ _ _ hg]
      rw [Array.getElem?_eq_getElem (by omega)]
      rfl
    have hfz : ∀ j, j < 1 → w.frozen? ⟨g, 0 + l.length * i.size + j, none⟩ = false := by
      intro j hj
      rw [hsize]
      simp only [World.frozen?, hg]
      rcases hfr with rfl | hfr
      · simp
      · simp; omega
    have hr := run_append_room_src (P := P) w t t ty 5 i ht hi g 0 l.length cap (.slice (some ⟨B, 0, none⟩) 1 1) 1 [.int .u8 b.toNat] hsrc hroom hcell hfz
    refine ⟨_, _, g, hr, ⟨cap, cur.setIfInBounds l.length (.int .u8 b.toNat), fr, by simp, ?_, hfr, by simp [hcs], hcm, by simpa using hroom, ?_⟩, ?_, Or.inl rfl⟩
    · show (w.setCell ⟨g, 0 + l.length * i.size, none⟩ (.int .u8 b.toNat)).heap[g]? = _
      rw [hsize]
      simp [World.setCell, Array.getElem?_modify, hg]
    · intro j hj
      simp at hj
      rw [Array.getElem?_setIfInBounds]
      by_cases e : l.length = j
      · subst e
        rw [if_pos rfl, if_pos (by omega)]
        simp
      · rw [if_neg e, hc j (by omega), List.getElem_append_left (by omega)]
    · exact ⟨rfl, rfl, rfl, by simp [World.setCells, World.setCell], fun k _ hk => Below.heap_setCell _ _ _ _ (fun e => hk (by simp [e]))⟩
  · have hold : (Builtin.firstCells i.size l.length (.slice (some ⟨g, 0, none⟩) l.length cap)).run P w.drew = .ok (cellsOf l).toArray w.drew := by
      refine run_firstCells_some w.drew i.size l.length ⟨g, 0, none⟩ l.length cap (cellsOf l) (by rw [hsize, cellsOf_length, Nat.mul_one]) ?_
      intro j u hu
      have hj : j < l.length := by
        have := (List.getElem?_eq_some_iff.1 hu).1
        simpa [cellsOf] using this
      have e1 : (⟨g, 0, none⟩ : Addr).add j = ⟨g, j, none⟩ := by unfold Addr.add; split <;> simp_all
      rw [e1]
      show w.cell? _ = _
      rw [cell_of_row w g j _ _ _ hg, hc j hj]
      simp [cellsOf, List.getElem?_eq_getElem hj] at hu
      rw [hu]
    have hr := run_append_grow_src (P := P) w t t ty 5 i (.int .u8 0) ht hi hz (some ⟨g, 0, none⟩) l.length cap (cellsOf l) hold (.slice (some ⟨B, 0, none⟩) 1 1) 1 [.int .u8 b.toNat] hsrc (by omega) (by omega) (by rw [hby]; exact growslice_fits (by omega) (by omega))
    refine ⟨_, _, w.heap.size, hr, ⟨grownCap w (l.length + 1) cap 5, _, (0, 0), by simp, heap_alloc_new w.drew _, Or.inl rfl, ?_, grownCap_le_maxLen w _ _ _ (by unfold maxLen; omega), ?_, ?_⟩, ?_, Or.inr rfl⟩
    · have hge := grownCap_ge w (l.length + 1) cap 5
      simp only [Array.size_append, List.size_toArray, List.length_append, cellsOf_length, size_zeroCells, List.length_cons, List.length_nil]
      have : (Value.int IntKind.u8 0).cells.size = 1 := rfl
      rw [this]; omega
    · have hge := grownCap_ge w (l.length + 1) cap 5
      simpa using hge
    · intro j hj
      have hj2 : j < (cellsOf l ++ [Value.int .u8 b.toNat]).length := by simpa [cellsOf_length] using hj
      rw [Array.getElem?_append_left (by simpa using hj2)]
      rw [show cellsOf l ++ [Value.int .u8 b.toNat] = cellsOf (l ++ [b]) from by simp [cellsOf]]
      exact cellsOf_at (l ++ [b]) j hj
    · exact ⟨rfl, rfl, rfl, by simp, fun k hk _ => (World.grownBy_alloc w.drew _ none).block k hk (by simp)⟩

theorem wpList_append2 {P : Program} (w : World) {ops : Array Oper} {rest : List Oper} {o : Oper} {a : Act} {Q : Exit → Act → World → Prop} (hgd : o.guard = none) (sl x : Operand) (t : TypeId)
    (ho : o.op = .call { callee := .builtin .append, args := #[sl, x], argTypes := #[t, t] })
    (i : TypeInfo) (ht : P.underlying t = some (.slice 5)) (hi : P.info? 5 = some i) (hz : i.zero = some (.int .u8 0)) (hsize : i.size = 1) (hby : i.bytes = 1)
    (g : Nat) (v : Value) (l : List UInt8) (hs : a.eval sl = v) (hown : Own2 w g v l) (b : UInt8) (B : Nat) (hB : w.heap[B]? = some (.cells #[.int .u8 b.toNat] 5 (0, 0))) (hx : a.eval x = .slice (some ⟨B, 0, none⟩) 1 1) (hlen : l.length + 1 ≤ 140737488355328)
    (h : ∀ v' w' g', Own2 w' g' v' (l ++ [b]) → w.grownBy w' (some g) → (g' = g ∨ g' = w.heap.size) → wpList P ops Q rest (a.put o.dst v') w') : wpList P ops Q (o :: rest) a w := by
  refine wpList_plain hgd fun K hK => ?_
  obtain ⟨v', w', g', hr, h2, h3, h4⟩ := run_append2 (P := P) w t o.type i ht hi hz hsize hby g v l hown b B hB hlen
  unfold Oper.wp execOp
  simp only [ho, resolve, invoke, builtin, Sem.run_bind, Sem.run_pure, Result.andThen_ok, List.map_toArray, List.map_cons, List.map_nil, hs, hx, hr]
  exact hK _ _ (h v' w' g' h2 h3 h4)

theorem Own2.string {P : Program} {w : World} {g : Nat} {v : Value} {l : List UInt8} (h : Own2 w g v l) (src dst : TypeId) (hs : P.underlying src = some (.slice 5)) (he : P.underlying 5 = some (.int .u8)) (hd : P.underlying dst = some .string) :
    (convert src dst v).run P w = .ok (.string ⟨l.toArray⟩) w := by
  have hc := h.cells
  obtain ⟨cap, cur, fr, rfl, _⟩ := h
  refine run_convert_bytes_back w src dst 5 _ cap l hs he hd fun j hj => ?_
  rw [show (⟨g, 0, none⟩ : Addr).add j = ⟨g, j, none⟩ from by unfold Addr.add; split <;> simp_all]
  exact hc j hj

theorem Own2.made (w : World) (s : ByteArray) (hs : s.size ≤ maxLen) : Own2 (w.drew.alloc (.cells (bytesRow s (grownCap w s.size 0 5)) 5 ((bytesRow s (grownCap w s.size 0 5)).size, (bytesRow s (grownCap w s.size 0 5)).size + 1))) w.heap.size
    (.slice (some ⟨w.heap.size, 0, none⟩) s.size (grownCap w s.size 0 5)) s.data.toList := by
  have hge := grownCap_ge w s.size 0 5
  have hsz : (bytesRow s (grownCap w s.size 0 5)).size = grownCap w s.size 0 5 := by
    have : s.data.size = s.size := rfl
    simp [bytesRow]; omega
  have hl : s.data.toList.length = s.size := by rw [Array.length_toList]; rfl
  refine ⟨grownCap w s.size 0 5, _, _, by rw [hl], heap_alloc_new w.drew _, Or.inr (by rw [hsz]; exact Nat.le_refl _), hsz, grownCap_le_maxLen w _ _ _ hs, by rw [hl]; exact hge, fun j hj => ?_⟩
  have hj' : j < s.data.size := by simpa using hj
  rw [bytesRow_at s _ j hj']
  simp

/-- The length of a slice. -/
def lenV : Value → Nat | .slice _ n _ => n | _ => 0
theorem pad_four (n : Nat) : (n + pad n) % 4 = 0 := by unfold pad; omega
theorem pad_least {n k : Nat} (hk : k < pad n) : ¬ (n + k) % 4 = 0 := by unfold pad at hk; omega

set_option maxHeartbeats 1000000 in
theorem refFixed_any (s : ByteArray) (w : World) (hs : s.size ≤ 1099511627776) :
    Calls Tryz.prog 44 #[.string s] w fun e w' => e = .returned (.string ⟨(fixedOf s).toArray⟩) ∧ Below w.heap.size w w' := by
  obtain ⟨i0, hi, hz0, hz1, hz2⟩ := info_parts Tryz.info5
  have hp := pad_lt s.size
  have hcv := run_bytes_of_string (P := Tryz.prog) w 9 54 5 s Tryz.underlying9 Tryz.underlying54 Tryz.underlying5
  have H0 := Lib.hid (Own2.made w s (by unfold maxLen; omega))
  have HB0 := Lib.hid (((Below.refl w.heap.size w).drew).alloc (Nat.le_refl _) (.cells (bytesRow s (grownCap w s.size 0 5)) 5 ((bytesRow s (grownCap w s.size 0 5)).size, (bytesRow s (grownCap w s.size 0 5)).size + 1)))
  go_enter Tryz.func44, Tryz.ntmps44
  go_wp2
  clear hcv
  go_loopw [3] (fun v wr => ∃ (k g : Nat), k ≤ pad s.size ∧ Own2 wr g v (s.data.toList ++ List.replicate k 0) ∧ w.heap.size ≤ g ∧ Below w.heap.size w wr) (fun v _ => 4 - (lenV v - s.size))
  case atStart => exact ⟨0, w.heap.size, Nat.zero_le _, by rw [List.replicate_zero, List.append_nil]; exact H0.out, Nat.le_refl _, HB0.out⟩
  case round =>
    obtain ⟨k, g, hk, hO, hg, hB⟩ := hrel
    clear H0 HB0
    have HB := Lib.hid hB
    clear hB
    obtain ⟨L, hL⟩ : ∃ L, L = s.data.toList ++ List.replicate k 0 := ⟨_, rfl⟩
    rw [← hL] at hO
    have hll : L.length = s.size + k := by
      have : s.data.size = s.size := rfl
      rw [hL]; simp [this]
    have HL := Lib.hid hL
    clear hL
    have hsh : ∃ cap, u3 = .slice (some ⟨g, 0, none⟩) L.length cap := by
      obtain ⟨cap, cur, fr, e, _⟩ := hO
      exact ⟨cap, e⟩
    obtain ⟨cap, rfl⟩ := hsh
    by_cases hlt : k < pad s.size
    · have h4 : ((L.length : Int) % 4 != 0) = true := by
        have := pad_least hlt
        rw [bne_iff_ne]; omega
      have hsz := HB.out.size
      have hOa : Own2 (wr.alloc (.cells #[.int .u8 0] 5)) g (.slice (some ⟨g, 0, none⟩) L.length cap) L := hO.kept ((World.grownBy_alloc wr _ none).block g (by
        obtain ⟨_, cur, fr, _, e, _⟩ := hO
        exact (Array.getElem?_eq_some_iff.1 e).1) (by simp))
      have HLL := Lib.hid hll
      have hlb : L.length + 1 ≤ 140737488355328 := by omega
      clear hll hO
      go_wp2_with (at_builtin; refine wpList_append2 _ rfl (.tmp 10) (.tmp 11) 54 rfl i0 Tryz.underlying54 hi hz0 hz1 hz2 g _ L rfl hOa 0 wr.heap.size (heap_alloc_new wr _) rfl hlb ?_; intro v2 w2 g2 hO2 hgrow hat)
      go_roundw
      case rel =>
        refine ⟨k + 1, g2, by omega, ?_, ?_, ?_⟩
        · rw [List.replicate_succ', ← List.append_assoc, ← HL.out]; exact hO2
        · rcases hat with e | e
          · omega
          · simp at e; omega
        · exact (HB.out.alloc hsz _).grown hgrow (by simp; omega) (fun j hj => by simp at hj; omega)
      case measure =>
        obtain ⟨_, _, _, e, _⟩ := hO2
        have hl3 := HLL.out
        rw [e]
        simp [lenV]
        omega
    · have hk' : k = pad s.size := by omega
      subst hk'
      have h4 : ((L.length : Int) % 4 != 0) = false := by
        have := pad_four s.size
        rw [bne_eq_false_iff_eq]; omega
      have hcv2 := hO.string (P := Tryz.prog) 54 9 Tryz.underlying54 Tryz.underlying5 Tryz.underlying9
      clear hll hO
      go_wp2
      go_ret
      exact ⟨ret_str (by rw [HL.out]; rfl), HB.out⟩

set_option maxHeartbeats 400000 in
theorem refOpaque_any (s : ByteArray) (w : World) (hs : s.size ≤ 1099511627776) :
    Calls Tryz.prog 43 #[.string s] w fun e w' => e = .returned (.string ⟨(opaqueOf s).toArray⟩) ∧ Below w.heap.size w w' := by
  have hp := pad_lt s.size
  have hfl := fixedOf_length s
  go_enter Tryz.func43, Tryz.ntmps43
  go_wp2_with fail
  refine (refUint_any _ _).mono ?_
  rintro e w1 ⟨rfl, hB1⟩
  have HB1 := Lib.hid hB1
  clear hB1
  go_wp2_with fail
  refine (refFixed_any s _ hs).mono ?_
  rintro e w2 ⟨rfl, hB2⟩
  have HB2 := Lib.hid (HB1.out.trans (hB2.mono HB1.out.size))
  have HF := Lib.hid (show opaqueOf s = numBytes s.size 4 ++ fixedOf s from rfl)
  have hA : (numBytes (s.size : Int) 4).length ≤ 4 := by rw [numBytes_length]; omega
  have hF : (fixedOf s).length ≤ 2000000000000 := by omega
  clear hB2 HB1 hfl
  generalize numBytes (s.size : Int) 4 = A at *
  generalize fixedOf s = F at *
  go_wp2
  go_ret
  exact ⟨ret_str (by rw [cat_arr, HF.out]), HB2.out⟩
end Go.Proofs.YtjogcdkebplcpaaGreatDoor.X
