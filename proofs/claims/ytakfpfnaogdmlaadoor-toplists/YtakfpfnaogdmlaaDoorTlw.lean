/-
  TopLists' walk: it answers true, and makes new blocks alone. Its condition: both lists lie in memory.
-/
import Derived.Test.YtakfpfnaogdmlaaDoorEn
import Derived.Test.YtakfpfnaogdmlaaDoorCk
import Derived.Test.YtakfpfnaogdmlaaDoorVb
import Derived.Test.YtakfpfnaogdmlaaDoorTl
import Derived.Test.YtakfpfnaogdmlaaDoorRk
import Derived.Deep.DeepCutAuto
import Derived.Deep.RegionHeld3
import Derived.Test.YtakfpfnaogdmlaaDoorSt
namespace Go.Proofs.YtakfpfnaogdmlaaDoor
open Go.RowKit Sch
theorem tl_isForm : (form num5 tlT).isSome = true := by rw [form_tl]; rfl
def headN (flag : Bool) : List Int := if flag then [1, 7] else [0]
def headB (flag : Bool) : List UInt8 := Y.numBytes (b2i flag) 4 ++ if flag then Y.numBytes 7 4 else []
def cut300 (s : ByteArray) : ByteArray := s.extract 0 (min s.size 300)
theorem headB_length (flag : Bool) : (headB flag).length ≤ 8 := by
  unfold headB
  rw [List.length_append]
  have h4 : ∀ x, (Y.numBytes x 4).length = 4 := fun x => by simp [Y.numBytes, Y.numTo_length]
  cases flag <;> simp [h4]
theorem cut300_size (s : ByteArray) : (cut300 s).size ≤ 300 := by
  unfold cut300
  rw [ByteArray.size_extract]
  omega
set_option maxRecDepth 100000 in
set_option maxHeartbeats 40000000 in
theorem lists_walk (numbers : List Int) (texts : List ByteArray) (flag : Bool) (aN aT : Option Addr) (cN cT : Nat) (w : World) (hN : ItsAt w.heap.size w aN numbers) (hT : StsAt w.heap.size w aT texts) (hcn : numbers.length ≤ cN ∧ cN ≤ 9223372036854775807) (hct : texts.length ≤ cT ∧ cT ≤ 9223372036854775807) (hii : ∀ x ∈ numbers, -9223372036854775808 ≤ x ∧ x ≤ 9223372036854775807) :
    Calls Tryd.prog 5 #[.slice aN numbers.length cN, .slice aT texts.length cT, .bool flag] w fun e w' => e = .returned (.bool true) ∧ Below w.heap.size w w' := by
  have HIN := Lib.hid hN
  have HIT := Lib.hid hT
  have HCN := Lib.hid hcn
  have HII := Lib.hid hii
  have HCT := Lib.hid hct
  clear hN hT hcn hct hii
  go_enter Tryd.func5, Tryd.ntmps5
  go_wp2_with fail
  refine (check_any tlT _).mono ?_
  rintro e w1 ⟨rfl, hb⟩
  have HB1 := Lib.hid hb
  clear hb
  rw [tl_isForm]
  go_upto_region 3 with (fail)
  obtain ⟨n, hn⟩ : ∃ n : Nat, n = min (min numbers.length texts.length) 100 := ⟨_, rfl⟩
  have HNN := Lib.hid hn
  clear hn
  go_cut [7] (fun v wc => v = .int .i64 n ∧ w1 = wc)
  case first =>
    go_wp2
    all_goals go_meet
    all_goals
      refine ⟨?_, rfl⟩
      have hn := HNN.out
      congr 1
      omega
  case rest =>
    obtain ⟨rfl, rfl⟩ := hcut
    have HN1 := Lib.hid (show n ≤ numbers.length ∧ n ≤ texts.length ∧ n ≤ 100 by have := HNN.out; omega)
    go_upto_region 6 with (fail)
    obtain ⟨V, hV⟩ : ∃ V, V = w1.heap.size + 1 := ⟨_, rfl⟩
    obtain ⟨W, hW⟩ : ∃ W, W = w1.heap.size + 1 + 1 := ⟨_, rfl⟩
    have hts : TS w V W [0] [] [] (((w1.alloc (.cells #[.int .i64 0] 3)).alloc (.cells #[.slice (some ⟨w1.heap.size, 0, none⟩) 1 1, .slice none 0 0] 31)).alloc (.cells #[.slice none 0 0] 57)) := by
      have hs := HB1.out.size
      have h0 : (((w1.alloc (.cells #[.int .i64 0] 3)).alloc (.cells #[.slice (some ⟨w1.heap.size, 0, none⟩) 1 1, .slice none 0 0] 31)).alloc (.cells #[.slice none 0 0] 57)).ownsRow w.heap.size 3 1 (.slice (some ⟨w1.heap.size, 0, none⟩) 1 1) 1 (ints [0]) :=
        ownsB_kept (own_new [0] rfl (by simp) hs) fun k hk => by
          obtain rfl : w1.heap.size = k := by simpa [Value.ownBlock] using hk
          exact (Below.heap_alloc _ _ _ (by simp; omega)).trans (Below.heap_alloc _ _ _ (by simp))
      have h1 : (((w1.alloc (.cells #[.int .i64 0] 3)).alloc (.cells #[.slice (some ⟨w1.heap.size, 0, none⟩) 1 1, .slice none 0 0] 31)).alloc (.cells #[.slice none 0 0] 57)).heap[w1.heap.size + 1]? = some (.cells #[.slice (some ⟨w1.heap.size, 0, none⟩) 1 1, .slice none 0 0] 31) := by
        refine (Below.heap_alloc _ _ _ (by simp)).trans ?_
        have := heap_alloc_new (w1.alloc (.cells #[.int .i64 0] 3)) (.cells #[.slice (some ⟨w1.heap.size, 0, none⟩) 1 1, .slice none 0 0] 31)
        simpa using this
      have h2 : (((w1.alloc (.cells #[.int .i64 0] 3)).alloc (.cells #[.slice (some ⟨w1.heap.size, 0, none⟩) 1 1, .slice none 0 0] 31)).alloc (.cells #[.slice none 0 0] 57)).heap[w1.heap.size + 1 + 1]? = some (.cells #[.slice none 0 0] 57) := by
        have := heap_alloc_new ((w1.alloc (.cells #[.int .i64 0] 3)).alloc (.cells #[.slice (some ⟨w1.heap.size, 0, none⟩) 1 1, .slice none 0 0] 31)) (.cells #[.slice none 0 0] 57)
        simpa using this
      subst hV hW
      refine ⟨⟨_, _, h1, h0, ⟨by simp [strs], .inl ⟨rfl, rfl⟩⟩, by omega⟩, ⟨_, ⟨⟨by decide, h2⟩, by simp [Y.cellsOf], .inl ⟨rfl, rfl⟩⟩, fun k hk => by simp [Value.ownBlock] at hk⟩, ((HB1.out.alloc hs _).alloc (by simp; omega) _).alloc (by simp; omega) _, by omega⟩
    rw [← hW, ← hV]
    have HV := Lib.hid hV
    have HW := Lib.hid hW
    clear hV hW
    generalize ((w1.alloc (.cells #[.int .i64 0] 3)).alloc (.cells #[.slice (some ⟨w1.heap.size, 0, none⟩) 1 1, .slice none 0 0] 31)).alloc (.cells #[.slice none 0 0] 57) = w2 at *
    obtain ⟨vW, hw, hput⟩ := hts.put
    have HTS := Lib.hid hts
    have HPUT := Lib.hid hput
    clear hput hts
    go_wp2_with fail
    refine (Y.bool_any (T := 57) (R := []) W vW [] flag _ hw (by simp)).mono ?_
    rintro e w3 ⟨rfl, hw3⟩
    have HTS3 := Lib.hid (HPUT.out _ _ hw3)
    clear hw3 HPUT HTS hw
    go_upto_if 27 with (fail)
    go_cut [] (fun wc => TS w V W (headN flag) [] (headB flag) wc)
    case first =>
      cases flag with
      | false =>
        go_wp2
        go_meet
        simpa [headN, headB, b2i] using HTS3.out
      | true =>
        obtain ⟨vN, vT, hv⟩ := HTS3.out.val
        obtain ⟨c0, c1, f0, f1⟩ := hv.cells
        have hVl := hv.lt
        have HMB := Lib.hid hv.mb
        clear hv
        go_wp2_with fail
        have hm := (HMB.out.newN (C := #[.int .i64 1, .int .i64 7]) [1, 7] rfl (by simp)).put0
        have hts := HTS3.out.val' hm
        rw [World.setCell_alloc_past _ _ _ _ hVl] at hts
        clear hm HMB HTS3 c0 c1 f0 f1 hVl
        generalize hwl : List.length [(1 : Int), 7] = two at hts
        obtain rfl : 2 = two := hwl
        generalize (w3.setCell ⟨V, 0, none⟩ (.slice (some ⟨w3.heap.size, 0, none⟩) 2 2)).alloc (.cells #[.int .i64 1, .int .i64 7] 3) = w4 at *
        obtain ⟨vW4, hw4, hput4⟩ := hts.put
        have HPUT4 := Lib.hid hput4
        clear hput4 hts
        refine (Y.uint_any (T := 57) (R := []) W vW4 _ 7 _ hw4 (by simp [Y.numBytes_length])).mono ?_
        rintro e w5 ⟨rfl, hw5⟩
        have HTS5 := Lib.hid (HPUT4.out _ _ hw5)
        clear hw5 HPUT4 hw4
        go_wp2
        go_meet
        simpa [headN, headB, b2i] using HTS5.out
    case rest =>
    clear HTS3 vW w2 w3
    have HT0 := Lib.hid hcut
    obtain ⟨vN, vT, hv⟩ := hcut.val
    obtain ⟨c0, c1, f0, f1⟩ := hv.cells
    have hVl := hv.lt
    have hnn : some V ≠ vN.ownBlock := fun e => by
      obtain ⟨_, cur, hc⟩ := ownsB_type hv.n e.symm
      exact absurd (blk_type hv.box hc) (by decide)
    have HV0 := Lib.hid hv
    have h25 : w.heap.size ≤ wc.heap.size := hcut.low.size
    clear hv hcut
    obtain ⟨i3, hi3, hz30, hz31, hz32⟩ := info_parts info3
    have hlh : (headN flag).length ≤ 2 := by cases flag <;> simp [headN]
    go_wp2_with (at_builtin; refine wpList_append_lies _ rfl (.tmp 32) (.tmp 34) 23 rfl w.heap.size 3 i3 _ 1 8 Tryd.underlying23 hi3 hz30 hz31 hz32 rfl (by omega) vN _ _ rfl (HV0.out.n.alloc _) ⟨wc.heap.size, 0, none⟩ 1 1 [.int .i64 n] (by rfl) (by rfl) (World.news_of_block (cs := #[.int .i64 n]) (t := 3) (fr := (0, 0)) (heap_alloc_new wc _)) (by simp [Value.oneCell']) (by omega) (by unfold maxLen; omega) (by omega) (by simp; omega) (wc.heap.size + 1) (by simp) ?_; intro g cap w6 hown1 hgrow hat hglt; have hfw : w6.frozen? ⟨V, 0, none⟩ = false := (hgrow.frozen_far _ (by simp; omega) hnn).trans ((World.frozen?_alloc_past _ _ _ hVl).trans f0); have hcw : w6.cell? ⟨V, 0, none⟩ = some vN := (hgrow.cell_far _ (by simp; omega) hnn).trans ((World.cell?_alloc_past _ _ _ hVl).trans c0))
    have hm := ((HV0.out.mb.alloc (.cells #[.int .i64 n] 3)).appN hgrow hown1).put0
    have hts := HT0.out.val' hm
    clear hm HV0 hown1 hgrow hat hglt hfw hcw hnn c0 c1 f0 f1 hVl HT0
    generalize w6.setCell ⟨V, 0, none⟩ (.slice (some ⟨g, 0, none⟩) ((headN flag).length + 1) cap) = w7 at *
    have HTS := Lib.hid hts
    clear hts h25
    obtain ⟨L, hL⟩ : ∃ L : List (Int × ByteArray), L = (numbers.zip (texts.map cut300)).take n := ⟨_, rfl⟩
    have hLl : L.length = n := by rw [hL, List.length_take, List.length_zip, List.length_map]; have := HN1.out; omega
    have hLi : ∀ i (h : i < L.length) (h1 : i < numbers.length) (h2 : i < texts.length), L[i] = (numbers[i], cut300 texts[i]) := fun i h h1 h2 => by subst hL; simp
    have hLo : ∀ x ∈ L, TlOk x := fun x hx => by
      rw [hL] at hx
      have hz := List.mem_of_mem_take hx
      obtain ⟨h1, h2⟩ := List.of_mem_zip (a := x.1) (b := x.2) hz
      obtain ⟨s, -, hs⟩ := List.mem_map.1 h2
      exact ⟨HII.out x.1 h1, by rw [← hs]; exact cut300_size s⟩
    have hLb : ∀ j, (headB flag ++ itsB (L.take j)).length ≤ 8 + 320 * 100 := fun j => by
      have h1 := itsB_length (L.take j) fun x hx => hLo x (List.mem_of_mem_take hx)
      have h2 : (L.take j).length ≤ 100 := by rw [List.length_take]; have := HN1.out; omega
      rw [List.length_append]
      have := headB_length flag
      omega
    have HLB := Lib.hid hLb
    clear hLb
    have HLL := Lib.hid hLl
    have HLI := Lib.hid hLi
    have HLO := Lib.hid hLo
    clear hL hLl hLi hLo
    go_loopw [10, 11] (fun i _ wr => ∃ k : Nat, k ≤ n ∧ i = .int .i64 k ∧ TS w V W (headN flag ++ [(n : Int)] ++ (L.take k).map (·.1)) ((L.take k).map (·.2)) (headB flag ++ itsB (L.take k)) wr) (fun i _ _ => n - (intOf i).toNat)
    case atStart => exact ⟨0, by omega, rfl, by simpa [itsB] using HTS.out⟩
    case round =>
      obtain ⟨k, hk, rfl, hts⟩ := hrel
      have HTK := Lib.hid hts
      clear hts HTS
      by_cases hkn : k < n
      · have hd : decide ((k : Int) < (n : Int)) = true := decide_eq_true (by omega)
        have hn1 := HN1.out
        have hT0 := HTK.out.low
        obtain ⟨gT, oT, eT, hgT, hcT⟩ := HIT.out k (by omega)
        obtain ⟨gN, oN, eN, hgN, hcN⟩ := HIN.out k (by omega)
        have hcT2 : wr.cell? ⟨gT, oT + k, none⟩ = some (.string texts[k]) := (World.cell?_of_block (a := ⟨gT, oT + k, none⟩) (hT0.block gT hgT)).trans hcT
        have hcN2 : wr.cell? ⟨gN, oN + k, none⟩ = some (.int .i64 numbers[k]) := (World.cell?_of_block (a := ⟨gN, oN + k, none⟩) (hT0.block gN hgN)).trans hcN
        have HLK := Lib.hid (HLI.out k (by have := HLL.out; omega) (by omega) (by omega))
        generalize texts[k]'(by omega) = s0 at *
        generalize numbers[k]'(by omega) = x0 at *
        have hkN : k < numbers.length := by omega
        have hkT : k < texts.length := by omega
        have HCT0 := Lib.hid hcT
        have HCN0 := Lib.hid hcN
        clear hcT hcN hT0
        subst eT eN
        go_upto_region 14 with (fail)
        go_cut [11] from 37 to 75 (fun v wx => v = .string (cut300 s0) ∧ TS w V W (headN flag ++ [(n : Int)] ++ (L.take k).map (·.1)) ((L.take k).map (·.2)) (headB flag ++ itsB (L.take k)) wx)
        case first =>
          by_cases hs : (s0.size : Int) ≤ 300
          · go_region
            go_wp2
            go_meet
            refine ⟨congrArg Value.string ?_, HTK.out.drew⟩
            unfold cut300
            rw [Nat.min_eq_left (by omega)]
            simp
          · go_region
            go_wp2
            go_meet
            refine ⟨congrArg Value.string ?_, HTK.out.drew⟩
            unfold cut300
            rw [Nat.min_eq_right (by omega)]
        case rest =>
        obtain ⟨rfl, hts⟩ := hcut
        go_upto_region 15 with (fail)
        go_cut [] from 37 to 75 (fun wy => TS w V W (headN flag ++ [(n : Int)] ++ (L.take (k + 1)).map (·.1)) ((L.take (k + 1)).map (·.2)) (headB flag ++ itsB (L.take k)) wy)
        case first =>
          have HTX := Lib.hid hts
          obtain ⟨vN, vT, hv⟩ := hts.val
          obtain ⟨c0, c1, f0, f1⟩ := hv.cells
          have hVl := hv.lt
          have HM := hv.mb
          have hlow := hts.low
          have hcw : wc.cell? ⟨gN, oN + k, none⟩ = some (.int .i64 x0) := (World.cell?_of_block (a := ⟨gN, oN + k, none⟩) (hlow.block gN hgN)).trans HCN0.out
          have HCW := Lib.hid hcw
          have HS0 := Lib.hid (And.intro c0 (And.intro c1 hcw))
          have hgx : gN < wc.heap.size := by have := hlow.size; omega
          obtain ⟨i9, hi9, hz90, hz91, hz92⟩ := info_parts info9
          have hlN : (headN flag ++ [(n : Int)] ++ (L.take k).map (·.1)).length ≤ 200 := by simp only [List.length_append, List.length_map, List.length_take, List.length_singleton]; omega
          have hlT : ((L.take k).map (·.2)).length ≤ 100 := by simp only [List.length_map, List.length_take]; omega
          have e1 : headN flag ++ [(n : Int)] ++ (L.take (k + 1)).map (·.1) = (headN flag ++ [(n : Int)] ++ (L.take k).map (·.1)) ++ [x0] := by rw [List.take_succ_eq_append_getElem (by have := HLL.out; omega), List.map_append, ← List.append_assoc]; simp [HLK.out]
          have e2 : (L.take (k + 1)).map (·.2) = (L.take k).map (·.2) ++ [cut300 s0] := by rw [List.take_succ_eq_append_getElem (by have := HLL.out; omega), List.map_append]; simp [HLK.out]
          have HE1 := Lib.hid e1
          have HE2 := Lib.hid e2
          clear e1 e2
          generalize headN flag ++ [(n : Int)] ++ (L.take k).map (·.1) = NN at *
          generalize (L.take k).map (·.2) = TT at *
          refine wp_region_noPanic ?_
          refine wp_region_till (C := fun w' => w'.cell? ⟨V, 0, none⟩ = some vN ∧ w'.cell? ⟨V, 1, none⟩ = some vT ∧ w'.cell? ⟨gN, oN + k, none⟩ = some (.int .i64 x0)) (st := 14) (by kernel_rfl) ?_
          have HM0 := HM.drew
          generalize wc.drew = wd at *
          refine wpAnyT_free (i := 0) (oi := { dst := some 53, op := Op.fieldAddr 31 (Operand.tmp 8) 0, type := 0, pos := "top01.go:25", after := #[], guard := none }) (v := .pointer (some ⟨V, 0, none⟩)) rfl (by kernel_rfl) (by kernel_rfl) (by kernel_rfl) (fun _ _ _ h => h) rfl (Or.inl ⟨by rfl, ?_⟩) (fun _ => ⟨HM0.cells.1, HM0.cells.2.1, HM0.far hgN HCW.out⟩) ?_
          · intro wz _; first | (go_simp; done) | (go_simp; with_reducible rfl) | (go_simp; simp [*]; done)
          try simp only [Act.put, List.setIfInBounds_toArray, List.set_cons_zero, List.set_cons_succ]
          refine wpAnyT_take (i := 1) (oi := { dst := some 54, op := Op.load 23 (Operand.tmp 53), type := 23, pos := "top01.go:25", after := #[{ on := 0, ground := Ground.data }], guard := none }) (v := vN) rfl (by kernel_rfl) (by kernel_rfl) (by kernel_rfl) (fun _ _ _ h => h) rfl (by kernel_rfl) (by kernel_rfl) (Or.inl ⟨by rfl, ?_⟩) ⟨HM0.cells.1, HM0.cells.2.1, HM0.far hgN HCW.out⟩ ?_
          · intro wz hSw; (try dsimp only at hSw); obtain ⟨hz0, hz1, hz2⟩ := hSw; first | (go_simp; done) | (go_simp; with_reducible rfl) | (go_simp; simp [*]; done)
          try simp only [Act.put, List.setIfInBounds_toArray, List.set_cons_zero, List.set_cons_succ]
          refine wpAnyT_free (i := 2) (oi := { dst := some 55, op := Op.move (Operand.tmp 0), type := 23, pos := "top01.go:25", after := #[], guard := none }) (v := .slice (some ⟨gN, oN, none⟩) numbers.length cN) rfl (by kernel_rfl) (by kernel_rfl) (by kernel_rfl) (fun _ _ _ h => h) rfl (Or.inl ⟨by rfl, ?_⟩) (fun _ => ⟨HM0.cells.1, HM0.cells.2.1, HM0.far hgN HCW.out⟩) ?_
          · intro wz _; first | (go_simp; done) | (go_simp; with_reducible rfl) | (go_simp; simp [*]; done)
          try simp only [Act.put, List.setIfInBounds_toArray, List.set_cons_zero, List.set_cons_succ]
          refine wpAnyT_free (i := 3) (oi := { dst := some 56, op := Op.move (Operand.tmp 10), type := 3, pos := "top01.go:25", after := #[], guard := none }) (v := .int .i64 k) rfl (by kernel_rfl) (by kernel_rfl) (by kernel_rfl) (fun _ _ _ h => h) rfl (Or.inl ⟨by rfl, ?_⟩) (fun _ => ⟨HM0.cells.1, HM0.cells.2.1, HM0.far hgN HCW.out⟩) ?_
          · intro wz _; first | (go_simp; done) | (go_simp; with_reducible rfl) | (go_simp; simp [*]; done)
          try simp only [Act.put, List.setIfInBounds_toArray, List.set_cons_zero, List.set_cons_succ]
          refine wpAnyT_take (i := 4) (oi := { dst := some 57, op := Op.indexAddr 23 (Operand.tmp 55) (Operand.tmp 56), type := 0, pos := "top01.go:25", after := #[{ on := 2, ground := Ground.data }, { on := 3, ground := Ground.data }], guard := none }) (v := .pointer (some ⟨gN, oN + k, none⟩)) rfl (by kernel_rfl) (by kernel_rfl) (by kernel_rfl) (fun _ _ _ h => h) rfl (by kernel_rfl) (by kernel_rfl) (Or.inl ⟨by rfl, ?_⟩) ⟨HM0.cells.1, HM0.cells.2.1, HM0.far hgN HCW.out⟩ ?_
          · intro wz hSw; (try dsimp only at hSw); obtain ⟨hz0, hz1, hz2⟩ := hSw; first | (go_simp; done) | (go_simp; with_reducible rfl) | (go_simp; simp [*]; done)
          try simp only [Act.put, List.setIfInBounds_toArray, List.set_cons_zero, List.set_cons_succ]
          refine wpAnyT_take (i := 5) (oi := { dst := some 58, op := Op.load 3 (Operand.tmp 57), type := 3, pos := "top01.go:25", after := #[{ on := 4, ground := Ground.data }], guard := none }) (v := .int .i64 x0) rfl (by kernel_rfl) (by kernel_rfl) (by kernel_rfl) (fun _ _ _ h => h) rfl (by kernel_rfl) (by kernel_rfl) (Or.inl ⟨by rfl, ?_⟩) ⟨HM0.cells.1, HM0.cells.2.1, HM0.far hgN HCW.out⟩ ?_
          · intro wz hSw; (try dsimp only at hSw); obtain ⟨hz0, hz1, hz2⟩ := hSw; first | (go_simp; done) | (go_simp; with_reducible rfl) | (go_simp; simp [*]; done)
          try simp only [Act.put, List.setIfInBounds_toArray, List.set_cons_zero, List.set_cons_succ]
          refine wpAnyT_free (i := 8) (oi := { dst := some 61, op := Op.fieldAddr 31 (Operand.tmp 8) 1, type := 0, pos := "top01.go:25", after := #[], guard := none }) (v := .pointer (some ⟨V, 1, none⟩)) rfl (by kernel_rfl) (by kernel_rfl) (by kernel_rfl) (fun _ _ _ h => h) rfl (Or.inl ⟨by rfl, ?_⟩) (fun _ => ⟨HM0.cells.1, HM0.cells.2.1, HM0.far hgN HCW.out⟩) ?_
          · intro wz _; first | (go_simp; done) | (go_simp; with_reducible rfl) | (go_simp; simp [*]; done)
          try simp only [Act.put, List.setIfInBounds_toArray, List.set_cons_zero, List.set_cons_succ]
          refine wpAnyT_take (i := 9) (oi := { dst := some 62, op := Op.load 24 (Operand.tmp 61), type := 24, pos := "top01.go:25", after := #[{ on := 8, ground := Ground.data }], guard := none }) (v := vT) rfl (by kernel_rfl) (by kernel_rfl) (by kernel_rfl) (fun _ _ _ h => h) rfl (by kernel_rfl) (by kernel_rfl) (Or.inl ⟨by rfl, ?_⟩) ⟨HM0.cells.1, HM0.cells.2.1, HM0.far hgN HCW.out⟩ ?_
          · intro wz hSw; (try dsimp only at hSw); obtain ⟨hz0, hz1, hz2⟩ := hSw; first | (go_simp; done) | (go_simp; with_reducible rfl) | (go_simp; simp [*]; done)
          try simp only [Act.put, List.setIfInBounds_toArray, List.set_cons_zero, List.set_cons_succ]
          refine wpAnyT_free (i := 10) (oi := { dst := some 63, op := Op.move (Operand.tmp 11), type := 9, pos := "top01.go:25", after := #[], guard := none }) (v := .string (cut300 s0)) rfl (by kernel_rfl) (by kernel_rfl) (by kernel_rfl) (fun _ _ _ h => h) rfl (Or.inl ⟨by rfl, ?_⟩) (fun _ => ⟨HM0.cells.1, HM0.cells.2.1, HM0.far hgN HCW.out⟩) ?_
          · intro wz _; first | (go_simp; done) | (go_simp; with_reducible rfl) | (go_simp; simp [*]; done)
          try simp only [Act.put, List.setIfInBounds_toArray, List.set_cons_zero, List.set_cons_succ]
          refine wpAnyT_ready (rs := [6, 11]) (by kernel_rfl) (by simp) ?_
          refine AllReadyT.cons (o := { dst := some 59, op := Op.buildSlice 23 1 #[(0, Operand.tmp 58)], type := 23, pos := "top01.go:25", after := #[{ on := 5, ground := Ground.data }], guard := none }) rfl (fun K hK => ?_) ?_
          · go_simp
            have HM1 := HM0.alloc (.cells #[.int .i64 x0] 3)
            have hb2 := heap_alloc_new wd (.cells #[.int .i64 x0] 3)
            refine hK.out _ _ (fun _ => ⟨HM1.cells.1, HM1.cells.2.1, HM1.far hgN HCW.out⟩) ?_
            clear hK K
            generalize wd.alloc (.cells #[.int .i64 x0] 3) = wa3 at *
            generalize wd.heap.size = ad4 at *
            try simp only [Act.put, List.setIfInBounds_toArray, List.set_cons_zero, List.set_cons_succ]
            refine wpAnyT_ready (rs := [7, 11]) (by kernel_rfl) (by simp) ?_
            refine AllReadyT.cons (o := { dst := some 60, op := Op.call { callee := Callee.builtin Builtin.append, args := #[Operand.tmp 54, Operand.tmp 59], argTypes := #[23, 23] }, type := 23, pos := "top01.go:25", after := #[{ on := 1, ground := Ground.data }, { on := 6, ground := Ground.data }], guard := none }) rfl (fun K hK => ?_) ?_
            · refine step_append_lies _ (by rfl) (.tmp 54) (.tmp 59) 23 (by rfl) w.heap.size 3 i3 _ 1 8 Tryd.underlying23 hi3 hz30 hz31 hz32 rfl (by omega) vN _ _ (by rfl) HM1.n ⟨ad4, 0, none⟩ 1 1 [.int .i64 x0] (by rfl) (by rfl) (World.news_of_block (cs := #[.int .i64 x0]) (t := 3) (fr := (0, 0)) hb2) (by simp [Value.oneCell']) (by omega) (by unfold maxLen; omega) (by omega) HM1.base _ rfl ?_
              intro gv5 cp6 wa7 ho8 hg9 _ _
              have HM10 := HM1.appN hg9 ho8
              refine hK.out _ _ (fun _ => ⟨HM10.cells.1, HM10.cells.2.1, HM10.far hgN HCW.out⟩) ?_
              clear hK K ho8 hg9
              try simp only [Act.put, List.setIfInBounds_toArray, List.set_cons_zero, List.set_cons_succ]
              refine wpAnyT_free (i := 13) (oi := { dst := some 66, op := Op.fieldAddr 31 (Operand.tmp 8) 0, type := 0, pos := "top01.go:25", after := #[{ on := 0, ground := Ground.phase }, { on := 1, ground := Ground.phase }, { on := 2, ground := Ground.phase }, { on := 3, ground := Ground.phase }, { on := 4, ground := Ground.phase }, { on := 5, ground := Ground.phase }, { on := 6, ground := Ground.phase }, { on := 7, ground := Ground.phase }, { on := 8, ground := Ground.phase }, { on := 9, ground := Ground.phase }, { on := 10, ground := Ground.textOnly Departure.lateStores }, { on := 11, ground := Ground.textOnly Departure.lateStores }, { on := 12, ground := Ground.textOnly Departure.lateStoresUnsure }], guard := none }) (v := .pointer (some ⟨V, 0, none⟩)) rfl (by kernel_rfl) (by kernel_rfl) (by kernel_rfl) (fun _ _ _ h => h) rfl (Or.inl ⟨by rfl, ?_⟩) (fun _ => ⟨HM10.cells.1, HM10.cells.2.1, HM10.far hgN HCW.out⟩) ?_
              · intro wz _; first | (go_simp; done) | (go_simp; with_reducible rfl) | (go_simp; simp [*]; done)
              try simp only [Act.put, List.setIfInBounds_toArray, List.set_cons_zero, List.set_cons_succ]
              refine wpAnyT_ready (rs := [11]) (by kernel_rfl) (by simp) ?_
              refine AllReadyT.cons (o := { dst := some 64, op := Op.buildSlice 24 1 #[(0, Operand.tmp 63)], type := 24, pos := "top01.go:25", after := #[{ on := 10, ground := Ground.data }], guard := none }) rfl (fun K hK => ?_) AllReadyT.nil
              go_simp
              have HM11 := HM10.alloc (.cells #[.string (cut300 s0)] 9)
              have hb12 := heap_alloc_new wa7 (.cells #[.string (cut300 s0)] 9)
              refine hK.out _ _ (fun _ => ⟨HM11.cells.1, HM11.cells.2.1, HM11.far hgN HCW.out⟩) ?_
              clear hK K
              generalize wa7.alloc (.cells #[.string (cut300 s0)] 9) = wa13 at *
              generalize wa7.heap.size = ad14 at *
              try simp only [Act.put, List.setIfInBounds_toArray, List.set_cons_zero, List.set_cons_succ]
              refine wpAnyT_ready (rs := [12]) (by kernel_rfl) (by simp) ?_
              refine AllReadyT.cons (o := { dst := some 65, op := Op.call { callee := Callee.builtin Builtin.append, args := #[Operand.tmp 62, Operand.tmp 64], argTypes := #[24, 24] }, type := 24, pos := "top01.go:25", after := #[{ on := 9, ground := Ground.data }, { on := 11, ground := Ground.data }, { on := 7, ground := Ground.chain }], guard := none }) rfl (fun K hK => ?_) AllReadyT.nil
              refine step_append_lies _ (by rfl) (.tmp 62) (.tmp 64) 24 (by rfl) w.heap.size 9 i9 _ 1 16 Tryd.underlying24 hi9 hz90 hz91 hz92 rfl (by omega) vT _ _ (by rfl) HM11.t ⟨ad14, 0, none⟩ 1 1 [.string (cut300 s0)] (by rfl) (by rfl) (World.news_of_block (cs := #[.string (cut300 s0)]) (t := 9) (fr := (0, 0)) hb12) (by simp [Value.oneCell']) (by omega) (by unfold maxLen; omega) (by omega) HM11.base _ rfl ?_
              intro gv15 cp16 wa17 ho18 hg19 _ _
              have HM20 := HM11.appT hg19 ho18
              refine hK.out _ _ (fun _ => ⟨HM20.cells.1, HM20.cells.2.1, HM20.far hgN HCW.out⟩) ?_
              clear hK K ho18 hg19
              try simp only [Act.put, List.setIfInBounds_toArray, List.set_cons_zero, List.set_cons_succ]
              obtain ⟨e0, e1, y0, y1⟩ := HM20.cells
              refine wpAnyT_ready (rs := [14]) (by kernel_rfl) (by simp) ?_
              refine AllReadyT.cons (o := { dst := none, op := Op.store 23 (Operand.tmp 66) (Operand.tmp 60), type := 0, pos := "top01.go:25", after := #[{ on := 13, ground := Ground.data }, { on := 7, ground := Ground.data }, { on := 12, ground := Ground.chain }, { on := 0, ground := Ground.phase }, { on := 1, ground := Ground.phase }, { on := 2, ground := Ground.phase }, { on := 3, ground := Ground.phase }, { on := 4, ground := Ground.phase }, { on := 5, ground := Ground.phase }, { on := 6, ground := Ground.phase }, { on := 7, ground := Ground.phase }, { on := 8, ground := Ground.phase }, { on := 9, ground := Ground.phase }, { on := 10, ground := Ground.textOnly Departure.lateStores }, { on := 11, ground := Ground.textOnly Departure.lateStores }, { on := 12, ground := Ground.textOnly Departure.lateStoresUnsure }], guard := none }) rfl (fun K hK => ?_) AllReadyT.nil
              go_simp
              try simp only [e0, e1, y0, y1]
              refine hK.out _ _ (fun h => absurd h (by decide)) ?_
              clear hK K e0 e1 y0 y1
              try simp only [Act.put, List.setIfInBounds_toArray, List.set_cons_zero, List.set_cons_succ]
              have HM21 := HM20.put0
              obtain ⟨e0, e1, y0, y1⟩ := HM21.cells
              have HM21' := HM21.put1
              refine wpAnyT_ready (rs := [15]) (by kernel_rfl) (by simp) ?_
              refine AllReadyT.cons (o := { dst := some 67, op := Op.fieldAddr 31 (Operand.tmp 8) 1, type := 0, pos := "top01.go:25", after := #[{ on := 0, ground := Ground.phase }, { on := 1, ground := Ground.phase }, { on := 2, ground := Ground.phase }, { on := 3, ground := Ground.phase }, { on := 4, ground := Ground.phase }, { on := 5, ground := Ground.phase }, { on := 6, ground := Ground.phase }, { on := 7, ground := Ground.phase }, { on := 8, ground := Ground.phase }, { on := 9, ground := Ground.phase }, { on := 10, ground := Ground.phase }, { on := 11, ground := Ground.phase }, { on := 12, ground := Ground.phase }, { on := 13, ground := Ground.phase }, { on := 14, ground := Ground.phase }], guard := none }) rfl (fun K hK => ?_) AllReadyT.nil
              go_simp
              refine hK.out _ _ (fun h => absurd h (by decide)) ?_
              clear hK K
              try simp only [Act.put, List.setIfInBounds_toArray, List.set_cons_zero, List.set_cons_succ]
              refine wpAnyT_ready (rs := [16]) (by kernel_rfl) (by simp) ?_
              refine AllReadyT.cons (o := { dst := none, op := Op.store 24 (Operand.tmp 67) (Operand.tmp 65), type := 0, pos := "top01.go:25", after := #[{ on := 15, ground := Ground.data }, { on := 12, ground := Ground.data }, { on := 14, ground := Ground.chain }, { on := 0, ground := Ground.phase }, { on := 1, ground := Ground.phase }, { on := 2, ground := Ground.phase }, { on := 3, ground := Ground.phase }, { on := 4, ground := Ground.phase }, { on := 5, ground := Ground.phase }, { on := 6, ground := Ground.phase }, { on := 7, ground := Ground.phase }, { on := 8, ground := Ground.phase }, { on := 9, ground := Ground.phase }, { on := 10, ground := Ground.phase }, { on := 11, ground := Ground.phase }, { on := 12, ground := Ground.phase }, { on := 13, ground := Ground.phase }, { on := 14, ground := Ground.phase }], guard := none }) rfl (fun K hK => ?_) AllReadyT.nil
              go_simp
              try simp only [e0, e1, y0, y1]
              refine hK.out _ _ (fun h => absurd h (by decide)) ?_
              clear hK K e0 e1 y0 y1
              try simp only [Act.put, List.setIfInBounds_toArray, List.set_cons_zero, List.set_cons_succ]
              refine wpAnyT_done (by kernel_rfl) ?_ _
              refine NoPanic.normal ?_
              go_wp2
              go_meet
              rw [HE1.out, HE2.out]
              exact HTX.out.val' HM21'
            refine AllReadyT.cons (o := { dst := some 64, op := Op.buildSlice 24 1 #[(0, Operand.tmp 63)], type := 24, pos := "top01.go:25", after := #[{ on := 10, ground := Ground.data }], guard := none }) rfl (fun K hK => ?_) AllReadyT.nil
            go_simp
            have HM23 := HM1.alloc (.cells #[.string (cut300 s0)] 9)
            have hb24 := heap_alloc_new wa3 (.cells #[.string (cut300 s0)] 9)
            have hk27 := (Below.heap_alloc wa3 (.cells #[.string (cut300 s0)] 9) _ (Array.getElem?_eq_some_iff.1 hb2).1).trans hb2
            refine hK.out _ _ (fun _ => ⟨HM23.cells.1, HM23.cells.2.1, HM23.far hgN HCW.out⟩) ?_
            clear hK K
            generalize wa3.alloc (.cells #[.string (cut300 s0)] 9) = wa25 at *
            generalize wa3.heap.size = ad26 at *
            try simp only [Act.put, List.setIfInBounds_toArray, List.set_cons_zero, List.set_cons_succ]
            refine wpAnyT_ready (rs := [7]) (by kernel_rfl) (by simp) ?_
            refine AllReadyT.cons (o := { dst := some 60, op := Op.call { callee := Callee.builtin Builtin.append, args := #[Operand.tmp 54, Operand.tmp 59], argTypes := #[23, 23] }, type := 23, pos := "top01.go:25", after := #[{ on := 1, ground := Ground.data }, { on := 6, ground := Ground.data }], guard := none }) rfl (fun K hK => ?_) AllReadyT.nil
            refine step_append_lies _ (by rfl) (.tmp 54) (.tmp 59) 23 (by rfl) w.heap.size 3 i3 _ 1 8 Tryd.underlying23 hi3 hz30 hz31 hz32 rfl (by omega) vN _ _ (by rfl) HM23.n ⟨ad4, 0, none⟩ 1 1 [.int .i64 x0] (by rfl) (by rfl) (World.news_of_block (cs := #[.int .i64 x0]) (t := 3) (fr := (0, 0)) hk27) (by simp [Value.oneCell']) (by omega) (by unfold maxLen; omega) (by omega) HM23.base _ rfl ?_
            intro gv28 cp29 wa30 ho31 hg32 _ _
            have HM33 := HM23.appN hg32 ho31
            have hk34 := grow_keeps hg32 HM23.n _ _ 9 _ (by decide) hb24
            refine hK.out _ _ (fun _ => ⟨HM33.cells.1, HM33.cells.2.1, HM33.far hgN HCW.out⟩) ?_
            clear hK K ho31 hg32
            try simp only [Act.put, List.setIfInBounds_toArray, List.set_cons_zero, List.set_cons_succ]
            refine wpAnyT_free (i := 13) (oi := { dst := some 66, op := Op.fieldAddr 31 (Operand.tmp 8) 0, type := 0, pos := "top01.go:25", after := #[{ on := 0, ground := Ground.phase }, { on := 1, ground := Ground.phase }, { on := 2, ground := Ground.phase }, { on := 3, ground := Ground.phase }, { on := 4, ground := Ground.phase }, { on := 5, ground := Ground.phase }, { on := 6, ground := Ground.phase }, { on := 7, ground := Ground.phase }, { on := 8, ground := Ground.phase }, { on := 9, ground := Ground.phase }, { on := 10, ground := Ground.textOnly Departure.lateStores }, { on := 11, ground := Ground.textOnly Departure.lateStores }, { on := 12, ground := Ground.textOnly Departure.lateStoresUnsure }], guard := none }) (v := .pointer (some ⟨V, 0, none⟩)) rfl (by kernel_rfl) (by kernel_rfl) (by kernel_rfl) (fun _ _ _ h => h) rfl (Or.inl ⟨by rfl, ?_⟩) (fun _ => ⟨HM33.cells.1, HM33.cells.2.1, HM33.far hgN HCW.out⟩) ?_
            · intro wz _; first | (go_simp; done) | (go_simp; with_reducible rfl) | (go_simp; simp [*]; done)
            try simp only [Act.put, List.setIfInBounds_toArray, List.set_cons_zero, List.set_cons_succ]
            refine wpAnyT_ready (rs := [12]) (by kernel_rfl) (by simp) ?_
            refine AllReadyT.cons (o := { dst := some 65, op := Op.call { callee := Callee.builtin Builtin.append, args := #[Operand.tmp 62, Operand.tmp 64], argTypes := #[24, 24] }, type := 24, pos := "top01.go:25", after := #[{ on := 9, ground := Ground.data }, { on := 11, ground := Ground.data }, { on := 7, ground := Ground.chain }], guard := none }) rfl (fun K hK => ?_) AllReadyT.nil
            refine step_append_lies _ (by rfl) (.tmp 62) (.tmp 64) 24 (by rfl) w.heap.size 9 i9 _ 1 16 Tryd.underlying24 hi9 hz90 hz91 hz92 rfl (by omega) vT _ _ (by rfl) HM33.t ⟨ad26, 0, none⟩ 1 1 [.string (cut300 s0)] (by rfl) (by rfl) (World.news_of_block (cs := #[.string (cut300 s0)]) (t := 9) (fr := (0, 0)) hk34) (by simp [Value.oneCell']) (by omega) (by unfold maxLen; omega) (by omega) HM33.base _ rfl ?_
            intro gv35 cp36 wa37 ho38 hg39 _ _
            have HM40 := HM33.appT hg39 ho38
            refine hK.out _ _ (fun _ => ⟨HM40.cells.1, HM40.cells.2.1, HM40.far hgN HCW.out⟩) ?_
            clear hK K ho38 hg39
            try simp only [Act.put, List.setIfInBounds_toArray, List.set_cons_zero, List.set_cons_succ]
            obtain ⟨e0, e1, y0, y1⟩ := HM40.cells
            refine wpAnyT_ready (rs := [14]) (by kernel_rfl) (by simp) ?_
            refine AllReadyT.cons (o := { dst := none, op := Op.store 23 (Operand.tmp 66) (Operand.tmp 60), type := 0, pos := "top01.go:25", after := #[{ on := 13, ground := Ground.data }, { on := 7, ground := Ground.data }, { on := 12, ground := Ground.chain }, { on := 0, ground := Ground.phase }, { on := 1, ground := Ground.phase }, { on := 2, ground := Ground.phase }, { on := 3, ground := Ground.phase }, { on := 4, ground := Ground.phase }, { on := 5, ground := Ground.phase }, { on := 6, ground := Ground.phase }, { on := 7, ground := Ground.phase }, { on := 8, ground := Ground.phase }, { on := 9, ground := Ground.phase }, { on := 10, ground := Ground.textOnly Departure.lateStores }, { on := 11, ground := Ground.textOnly Departure.lateStores }, { on := 12, ground := Ground.textOnly Departure.lateStoresUnsure }], guard := none }) rfl (fun K hK => ?_) AllReadyT.nil
            go_simp
            try simp only [e0, e1, y0, y1]
            refine hK.out _ _ (fun h => absurd h (by decide)) ?_
            clear hK K e0 e1 y0 y1
            try simp only [Act.put, List.setIfInBounds_toArray, List.set_cons_zero, List.set_cons_succ]
            have HM41 := HM40.put0
            obtain ⟨e0, e1, y0, y1⟩ := HM41.cells
            have HM41' := HM41.put1
            refine wpAnyT_ready (rs := [15]) (by kernel_rfl) (by simp) ?_
            refine AllReadyT.cons (o := { dst := some 67, op := Op.fieldAddr 31 (Operand.tmp 8) 1, type := 0, pos := "top01.go:25", after := #[{ on := 0, ground := Ground.phase }, { on := 1, ground := Ground.phase }, { on := 2, ground := Ground.phase }, { on := 3, ground := Ground.phase }, { on := 4, ground := Ground.phase }, { on := 5, ground := Ground.phase }, { on := 6, ground := Ground.phase }, { on := 7, ground := Ground.phase }, { on := 8, ground := Ground.phase }, { on := 9, ground := Ground.phase }, { on := 10, ground := Ground.phase }, { on := 11, ground := Ground.phase }, { on := 12, ground := Ground.phase }, { on := 13, ground := Ground.phase }, { on := 14, ground := Ground.phase }], guard := none }) rfl (fun K hK => ?_) AllReadyT.nil
            go_simp
            refine hK.out _ _ (fun h => absurd h (by decide)) ?_
            clear hK K
            try simp only [Act.put, List.setIfInBounds_toArray, List.set_cons_zero, List.set_cons_succ]
            refine wpAnyT_ready (rs := [16]) (by kernel_rfl) (by simp) ?_
            refine AllReadyT.cons (o := { dst := none, op := Op.store 24 (Operand.tmp 67) (Operand.tmp 65), type := 0, pos := "top01.go:25", after := #[{ on := 15, ground := Ground.data }, { on := 12, ground := Ground.data }, { on := 14, ground := Ground.chain }, { on := 0, ground := Ground.phase }, { on := 1, ground := Ground.phase }, { on := 2, ground := Ground.phase }, { on := 3, ground := Ground.phase }, { on := 4, ground := Ground.phase }, { on := 5, ground := Ground.phase }, { on := 6, ground := Ground.phase }, { on := 7, ground := Ground.phase }, { on := 8, ground := Ground.phase }, { on := 9, ground := Ground.phase }, { on := 10, ground := Ground.phase }, { on := 11, ground := Ground.phase }, { on := 12, ground := Ground.phase }, { on := 13, ground := Ground.phase }, { on := 14, ground := Ground.phase }], guard := none }) rfl (fun K hK => ?_) AllReadyT.nil
            go_simp
            try simp only [e0, e1, y0, y1]
            refine hK.out _ _ (fun h => absurd h (by decide)) ?_
            clear hK K e0 e1 y0 y1
            try simp only [Act.put, List.setIfInBounds_toArray, List.set_cons_zero, List.set_cons_succ]
            refine wpAnyT_done (by kernel_rfl) ?_ _
            refine NoPanic.normal ?_
            go_wp2
            go_meet
            rw [HE1.out, HE2.out]
            exact HTX.out.val' HM41'
          refine AllReadyT.cons (o := { dst := some 64, op := Op.buildSlice 24 1 #[(0, Operand.tmp 63)], type := 24, pos := "top01.go:25", after := #[{ on := 10, ground := Ground.data }], guard := none }) rfl (fun K hK => ?_) AllReadyT.nil
          go_simp
          have HM43 := HM0.alloc (.cells #[.string (cut300 s0)] 9)
          have hb44 := heap_alloc_new wd (.cells #[.string (cut300 s0)] 9)
          refine hK.out _ _ (fun _ => ⟨HM43.cells.1, HM43.cells.2.1, HM43.far hgN HCW.out⟩) ?_
          clear hK K
          generalize wd.alloc (.cells #[.string (cut300 s0)] 9) = wa45 at *
          generalize wd.heap.size = ad46 at *
          try simp only [Act.put, List.setIfInBounds_toArray, List.set_cons_zero, List.set_cons_succ]
          refine wpAnyT_ready (rs := [6]) (by kernel_rfl) (by simp) ?_
          refine AllReadyT.cons (o := { dst := some 59, op := Op.buildSlice 23 1 #[(0, Operand.tmp 58)], type := 23, pos := "top01.go:25", after := #[{ on := 5, ground := Ground.data }], guard := none }) rfl (fun K hK => ?_) AllReadyT.nil
          go_simp
          have HM47 := HM43.alloc (.cells #[.int .i64 x0] 3)
          have hb48 := heap_alloc_new wa45 (.cells #[.int .i64 x0] 3)
          have hk51 := (Below.heap_alloc wa45 (.cells #[.int .i64 x0] 3) _ (Array.getElem?_eq_some_iff.1 hb44).1).trans hb44
          refine hK.out _ _ (fun _ => ⟨HM47.cells.1, HM47.cells.2.1, HM47.far hgN HCW.out⟩) ?_
          clear hK K
          generalize wa45.alloc (.cells #[.int .i64 x0] 3) = wa49 at *
          generalize wa45.heap.size = ad50 at *
          try simp only [Act.put, List.setIfInBounds_toArray, List.set_cons_zero, List.set_cons_succ]
          refine wpAnyT_ready (rs := [7]) (by kernel_rfl) (by simp) ?_
          refine AllReadyT.cons (o := { dst := some 60, op := Op.call { callee := Callee.builtin Builtin.append, args := #[Operand.tmp 54, Operand.tmp 59], argTypes := #[23, 23] }, type := 23, pos := "top01.go:25", after := #[{ on := 1, ground := Ground.data }, { on := 6, ground := Ground.data }], guard := none }) rfl (fun K hK => ?_) AllReadyT.nil
          refine step_append_lies _ (by rfl) (.tmp 54) (.tmp 59) 23 (by rfl) w.heap.size 3 i3 _ 1 8 Tryd.underlying23 hi3 hz30 hz31 hz32 rfl (by omega) vN _ _ (by rfl) HM47.n ⟨ad50, 0, none⟩ 1 1 [.int .i64 x0] (by rfl) (by rfl) (World.news_of_block (cs := #[.int .i64 x0]) (t := 3) (fr := (0, 0)) hb48) (by simp [Value.oneCell']) (by omega) (by unfold maxLen; omega) (by omega) HM47.base _ rfl ?_
          intro gv52 cp53 wa54 ho55 hg56 _ _
          have HM57 := HM47.appN hg56 ho55
          have hk58 := grow_keeps hg56 HM47.n _ _ 9 _ (by decide) hk51
          refine hK.out _ _ (fun _ => ⟨HM57.cells.1, HM57.cells.2.1, HM57.far hgN HCW.out⟩) ?_
          clear hK K ho55 hg56
          try simp only [Act.put, List.setIfInBounds_toArray, List.set_cons_zero, List.set_cons_succ]
          refine wpAnyT_free (i := 13) (oi := { dst := some 66, op := Op.fieldAddr 31 (Operand.tmp 8) 0, type := 0, pos := "top01.go:25", after := #[{ on := 0, ground := Ground.phase }, { on := 1, ground := Ground.phase }, { on := 2, ground := Ground.phase }, { on := 3, ground := Ground.phase }, { on := 4, ground := Ground.phase }, { on := 5, ground := Ground.phase }, { on := 6, ground := Ground.phase }, { on := 7, ground := Ground.phase }, { on := 8, ground := Ground.phase }, { on := 9, ground := Ground.phase }, { on := 10, ground := Ground.textOnly Departure.lateStores }, { on := 11, ground := Ground.textOnly Departure.lateStores }, { on := 12, ground := Ground.textOnly Departure.lateStoresUnsure }], guard := none }) (v := .pointer (some ⟨V, 0, none⟩)) rfl (by kernel_rfl) (by kernel_rfl) (by kernel_rfl) (fun _ _ _ h => h) rfl (Or.inl ⟨by rfl, ?_⟩) (fun _ => ⟨HM57.cells.1, HM57.cells.2.1, HM57.far hgN HCW.out⟩) ?_
          · intro wz _; first | (go_simp; done) | (go_simp; with_reducible rfl) | (go_simp; simp [*]; done)
          try simp only [Act.put, List.setIfInBounds_toArray, List.set_cons_zero, List.set_cons_succ]
          refine wpAnyT_ready (rs := [12]) (by kernel_rfl) (by simp) ?_
          refine AllReadyT.cons (o := { dst := some 65, op := Op.call { callee := Callee.builtin Builtin.append, args := #[Operand.tmp 62, Operand.tmp 64], argTypes := #[24, 24] }, type := 24, pos := "top01.go:25", after := #[{ on := 9, ground := Ground.data }, { on := 11, ground := Ground.data }, { on := 7, ground := Ground.chain }], guard := none }) rfl (fun K hK => ?_) AllReadyT.nil
          refine step_append_lies _ (by rfl) (.tmp 62) (.tmp 64) 24 (by rfl) w.heap.size 9 i9 _ 1 16 Tryd.underlying24 hi9 hz90 hz91 hz92 rfl (by omega) vT _ _ (by rfl) HM57.t ⟨ad46, 0, none⟩ 1 1 [.string (cut300 s0)] (by rfl) (by rfl) (World.news_of_block (cs := #[.string (cut300 s0)]) (t := 9) (fr := (0, 0)) hk58) (by simp [Value.oneCell']) (by omega) (by unfold maxLen; omega) (by omega) HM57.base _ rfl ?_
          intro gv59 cp60 wa61 ho62 hg63 _ _
          have HM64 := HM57.appT hg63 ho62
          refine hK.out _ _ (fun _ => ⟨HM64.cells.1, HM64.cells.2.1, HM64.far hgN HCW.out⟩) ?_
          clear hK K ho62 hg63
          try simp only [Act.put, List.setIfInBounds_toArray, List.set_cons_zero, List.set_cons_succ]
          obtain ⟨e0, e1, y0, y1⟩ := HM64.cells
          refine wpAnyT_ready (rs := [14]) (by kernel_rfl) (by simp) ?_
          refine AllReadyT.cons (o := { dst := none, op := Op.store 23 (Operand.tmp 66) (Operand.tmp 60), type := 0, pos := "top01.go:25", after := #[{ on := 13, ground := Ground.data }, { on := 7, ground := Ground.data }, { on := 12, ground := Ground.chain }, { on := 0, ground := Ground.phase }, { on := 1, ground := Ground.phase }, { on := 2, ground := Ground.phase }, { on := 3, ground := Ground.phase }, { on := 4, ground := Ground.phase }, { on := 5, ground := Ground.phase }, { on := 6, ground := Ground.phase }, { on := 7, ground := Ground.phase }, { on := 8, ground := Ground.phase }, { on := 9, ground := Ground.phase }, { on := 10, ground := Ground.textOnly Departure.lateStores }, { on := 11, ground := Ground.textOnly Departure.lateStores }, { on := 12, ground := Ground.textOnly Departure.lateStoresUnsure }], guard := none }) rfl (fun K hK => ?_) AllReadyT.nil
          go_simp
          try simp only [e0, e1, y0, y1]
          refine hK.out _ _ (fun h => absurd h (by decide)) ?_
          clear hK K e0 e1 y0 y1
          try simp only [Act.put, List.setIfInBounds_toArray, List.set_cons_zero, List.set_cons_succ]
          have HM65 := HM64.put0
          obtain ⟨e0, e1, y0, y1⟩ := HM65.cells
          have HM65' := HM65.put1
          refine wpAnyT_ready (rs := [15]) (by kernel_rfl) (by simp) ?_
          refine AllReadyT.cons (o := { dst := some 67, op := Op.fieldAddr 31 (Operand.tmp 8) 1, type := 0, pos := "top01.go:25", after := #[{ on := 0, ground := Ground.phase }, { on := 1, ground := Ground.phase }, { on := 2, ground := Ground.phase }, { on := 3, ground := Ground.phase }, { on := 4, ground := Ground.phase }, { on := 5, ground := Ground.phase }, { on := 6, ground := Ground.phase }, { on := 7, ground := Ground.phase }, { on := 8, ground := Ground.phase }, { on := 9, ground := Ground.phase }, { on := 10, ground := Ground.phase }, { on := 11, ground := Ground.phase }, { on := 12, ground := Ground.phase }, { on := 13, ground := Ground.phase }, { on := 14, ground := Ground.phase }], guard := none }) rfl (fun K hK => ?_) AllReadyT.nil
          go_simp
          refine hK.out _ _ (fun h => absurd h (by decide)) ?_
          clear hK K
          try simp only [Act.put, List.setIfInBounds_toArray, List.set_cons_zero, List.set_cons_succ]
          refine wpAnyT_ready (rs := [16]) (by kernel_rfl) (by simp) ?_
          refine AllReadyT.cons (o := { dst := none, op := Op.store 24 (Operand.tmp 67) (Operand.tmp 65), type := 0, pos := "top01.go:25", after := #[{ on := 15, ground := Ground.data }, { on := 12, ground := Ground.data }, { on := 14, ground := Ground.chain }, { on := 0, ground := Ground.phase }, { on := 1, ground := Ground.phase }, { on := 2, ground := Ground.phase }, { on := 3, ground := Ground.phase }, { on := 4, ground := Ground.phase }, { on := 5, ground := Ground.phase }, { on := 6, ground := Ground.phase }, { on := 7, ground := Ground.phase }, { on := 8, ground := Ground.phase }, { on := 9, ground := Ground.phase }, { on := 10, ground := Ground.phase }, { on := 11, ground := Ground.phase }, { on := 12, ground := Ground.phase }, { on := 13, ground := Ground.phase }, { on := 14, ground := Ground.phase }], guard := none }) rfl (fun K hK => ?_) AllReadyT.nil
          go_simp
          try simp only [e0, e1, y0, y1]
          refine hK.out _ _ (fun h => absurd h (by decide)) ?_
          clear hK K e0 e1 y0 y1
          try simp only [Act.put, List.setIfInBounds_toArray, List.set_cons_zero, List.set_cons_succ]
          refine wpAnyT_done (by kernel_rfl) ?_ _
          refine NoPanic.normal ?_
          go_wp2
          go_meet
          rw [HE1.out, HE2.out]
          exact HTX.out.val' HM65'
        case rest =>
        clear hts hcT2 hcN2
        have hlow := hcut.low
        obtain ⟨vW, hw, hput⟩ := hcut.put
        have HPUT := Lib.hid hput
        have HLK9 := HLB.out k
        clear hput hcut HTK
        go_wp2_with fail
        refine (Y.bool_any (T := 57) (R := []) W vW _ true _ hw (by omega)).mono ?_
        rintro e w9 ⟨rfl, hw9⟩
        have ht9 := HPUT.out _ _ hw9
        clear HPUT hw hw9
        obtain ⟨vW9, hw9, hput⟩ := ht9.put
        have HPUT9 := Lib.hid hput
        have hcN9 : w9.cell? ⟨gN, oN + k, none⟩ = some (.int .i64 x0) := (World.cell?_of_block (a := ⟨gN, oN + k, none⟩) (ht9.low.block gN hgN)).trans HCN0.out
        clear hput ht9
        go_wp2_with fail
        refine (Y.hyper_any (T := 57) (R := []) W vW9 _ x0 _ hw9 (by rw [List.length_append, Y.numBytes_length]; omega)).mono ?_
        rintro e w10 ⟨rfl, hw10⟩
        have ht10 := HPUT9.out _ _ hw10
        clear HPUT9 hw9 hw10 hcN9
        obtain ⟨vW10, hw10, hput⟩ := ht10.put
        have HPUT10 := Lib.hid hput
        clear hput ht10
        go_wp2_with fail
        refine (Y.opaque_any (T := 57) (R := []) W vW10 _ (cut300 s0) _ hw10 (by simp only [List.length_append, Y.numBytes_length] at HLK9 ⊢; have := cut300_size s0; omega)).mono ?_
        rintro e w11 ⟨rfl, hw11⟩
        have ht11 := HPUT10.out _ _ hw11
        clear HPUT10 hw10 hw11
        have HT11 := Lib.hid ht11
        clear ht11
        go_wp2
        refine ⟨⟨k + 1, by omega, by go_num, ?_⟩, by simp [intOf]; omega⟩
        have e3 : headB flag ++ itsB (L.take (k + 1)) = headB flag ++ itsB (L.take k) ++ Y.numBytes (if true = true then 1 else 0) 4 ++ Y.numBytes x0 8 ++ Y.opaqueOf (cut300 s0) := by
          rw [List.take_succ_eq_append_getElem (by have := HLL.out; omega), itsB_snoc, HLK.out]
          simp only [itB, if_true, List.append_assoc]
        rw [e3]
        exact HT11.out
      · obtain rfl : k = n := by omega
        have hd : decide ((k : Int) < (k : Int)) = false := decide_eq_false (by omega)
        obtain ⟨vW, hw, hput⟩ := HTK.out.put
        have HPUT := Lib.hid hput
        have HLK9 := HLB.out k
        clear hput
        go_wp2_with fail
        refine (Y.bool_any (T := 57) (R := []) W vW _ false _ hw (by omega)).mono ?_
        rintro e w9 ⟨rfl, hw9⟩
        have ht9 := HPUT.out _ _ hw9
        clear HPUT hw hw9 HTK
        have hLt : L.take k = L := List.take_of_length_le (by have := HLL.out; omega)
        have eN : headN flag ++ [(k : Int)] ++ (L.take k).map (·.1) = tlN flag L := by
          rw [hLt, List.append_assoc]; unfold headN tlN; rw [HLL.out]; rfl
        have eB : headB flag ++ itsB (L.take k) ++ Y.numBytes (if false = true then 1 else 0) 4 = tlB flag L := by
          rw [hLt, List.append_assoc]; rfl
        rw [eN, eB, hLt] at ht9
        have henc := enc_tl flag L HLO.out (by have := HLL.out; have := HN1.out; omega)
        have hbl : (tlB flag L).length ≤ 65536 := by
          have := HLB.out k
          rw [← eB, List.length_append, Y.numBytes_length]
          omega
        have HBL := Lib.hid hbl
        have HENC := Lib.hid henc
        have hlenN : (tlN flag L).length ≤ 103 := by
          have := HLL.out; have := HN1.out
          unfold tlN
          cases flag <;> simp only [List.length_append, List.length_cons, List.length_map, List.length_nil, Bool.false_eq_true, if_false, if_true] <;> omega
        have hlenT : (L.map (·.2)).length ≤ 100 := by have := HLL.out; have := HN1.out; rw [List.length_map]; omega
        generalize tlN flag L = NN at *
        generalize L.map (·.2) = TT at *
        generalize hbt : tlB flag L = bt at *
        have HBT := Lib.hid hbt
        clear hbt
        have HT9 := Lib.hid ht9
        obtain ⟨vN9, vT9, hv⟩ := ht9.val
        obtain ⟨c0, c1, f0, f1⟩ := hv.cells
        obtain ⟨aN9, cN9, rfl, iN9, n1, n2⟩ := its_of hv.n
        obtain ⟨aT9, cT9, rfl, iT9, t1, t2⟩ := sts_of hv.t
        have HW := Lib.hid (show worth NN TT + 200000 ≤ 140737488355328 by unfold worth; omega)
        have HIN9 := Lib.hid iN9
        have HIT9 := Lib.hid iT9
        clear hv ht9 eN eB hLt hbl henc iN9 iT9
        go_wp2_with fail
        refine (encode_any tlT NN TT aN9 cN9 aT9 cT9 w9 HIN9.out HIT9.out ⟨n1, n2⟩ ⟨t1, t2⟩ HW.out _ HENC.out).mono ?_
        rintro e w12 ⟨hB12, rfl⟩
        obtain ⟨vW, hw, ho⟩ := HT9.out.wr
        have hw12 : Y.Wr 57 [] w12 W vW bt := wr_oth hw fun k _ _ _ _ _ _ hk => hB12.block k (Array.getElem?_eq_some_iff.1 hk).1
        have HW12 := Lib.hid hw12
        have HB12 := Lib.hid (HT9.out.low.trans (hB12.mono HT9.out.low.size))
        clear hw ho hw12 hB12 HT9 c0 c1 f0 f1 n1 n2 t1 t2 HIN9 HIT9 HW HENC
        go_wp2_with fail
        refine (Y.bytes_any (T := 57) (R := []) W vW bt w12 HW12.out).mono ?_
        rintro e w13 ⟨rfl, rfl⟩
        clear HW12
        go_wp2_with fail
        refine (X.open_any ⟨bt.toArray⟩ w12 (by unfold maxLen; have := HBL.out; show bt.toArray.size ≤ _; simp; omega)).mono ?_
        rintro e w13 ⟨rfl, hr, hb, -⟩
        obtain ⟨p, hp⟩ : ∃ p, p = w12.heap.size + 1 := ⟨_, rfl⟩
        rw [← hp] at hr ⊢
        have HP := Lib.hid (show w.heap.size ≤ p by have := HB12.out.size; omega)
        have HB13 := Lib.hid (HB12.out.trans (hb.mono HB12.out.size))
        have hrd : X.Rd w13 p bt 0 := by simpa using hr
        clear hr hb hp HB12
        obtain ⟨tail, htl⟩ : ∃ tail, tail = itsB L ++ Y.numBytes 0 4 := ⟨_, rfl⟩
        have htll : tail.length ≤ 65536 := by
          have h1 := HBL.out
          have h2 := HBT.out
          rw [← h2] at h1
          unfold tlB at h1
          rw [List.length_append, ← htl] at h1
          omega
        have HTLL := Lib.hid htll
        have HTL := Lib.hid htl
        clear htl htll
        go_upto_region 24 with (fail)
        go_cut [102] (fun c wx => c = .bool false ∧ X.Rd wx p tail 0 ∧ Below w.heap.size w wx)
        case first =>
          cases flag with
          | false =>
            have hbt : bt = Y.numBytes (b2i false) 4 ++ tail := by rw [← HBT.out, HTL.out]; unfold tlB; simp
            have hbl := HBL.out
            clear HBT
            subst hbt
            go_wp2_with fail
            refine (X.rbool_any p _ 0 w13 hrd (by omega)).mono ?_
            rw [putB]
            rintro e w14 ⟨rfl, hr, ho⟩
            have HR := Lib.hid hr
            have HO := Lib.hid (ho.below HP.out)
            clear hr ho
            go_wp2
            go_meet
            exact ⟨rfl, HR.out, HB13.out.trans HO.out⟩
          | true =>
            have hbt : bt = Y.numBytes (b2i true) 4 ++ (Y.numBytes 7 4 ++ tail) := by rw [← HBT.out, HTL.out]; unfold tlB; simp
            have hbl := HBL.out
            clear HBT
            subst hbt
            go_wp2_with fail
            refine (X.rbool_any p _ 0 w13 hrd (by omega)).mono ?_
            rw [putB]
            rintro e w14 ⟨rfl, hr, ho⟩
            have hr14 := hr
            have HO := Lib.hid (ho.below HP.out)
            clear hr ho
            go_wp2_with fail
            refine (X.ruint_any p _ 0 w14 hr14 (by have := HTLL.out; rw [List.length_append, Y.numBytes_length]; omega)).mono ?_
            rw [put4 (by omega)]
            rintro e w15 ⟨rfl, hr, ho⟩
            have HR := Lib.hid hr
            have HO2 := Lib.hid (ho.below HP.out)
            clear hr ho
            go_wp2
            go_meet
            exact ⟨rfl, HR.out, HB13.out.trans (HO.out.trans HO2.out)⟩
        case rest =>
        obtain ⟨rfl, hr, hb⟩ := hcut
        clear hrd HB13
        have HR := Lib.hid hr
        have HB := Lib.hid hb
        clear hr hb
        go_wp2_with fail
        have hk0 : Rk w p tail wc := ⟨HR.out, HB.out⟩
        rw [HTL.out] at hk0
        clear HR HB
        have HK0 := Lib.hid hk0
        clear hk0
        go_loopw [15] (fun i wr => ∃ j : Nat, j ≤ k ∧ i = .int .i64 j ∧ Rk w p (itsB (L.drop j) ++ Y.numBytes 0 4) wr) (fun i _ => k - (intOf i).toNat)
        case atStart => exact ⟨0, by omega, rfl, HK0.out⟩
        case round =>
          obtain ⟨j, hj, rfl, hr⟩ := hrel
          clear HK0
          have HKR := Lib.hid hr
          clear hr
          by_cases hjk : j < k
          · have hd2 : decide ((j : Int) < (k : Int)) = true := decide_eq_true (by omega)
            have hn1 := HN1.out
            obtain ⟨gT, oT, eT, hgT, hcT⟩ := HIT.out j (by omega)
            obtain ⟨gN, oN, eN, hgN, hcN⟩ := HIN.out j (by omega)
            have hLj := HLI.out j (by have := HLL.out; omega) (by omega) (by omega)
            have hdr : L.drop j = L[j]'(by have := HLL.out; omega) :: L.drop (j + 1) := List.drop_eq_getElem_cons (by have := HLL.out; omega)
            have hok := HLO.out (L[j]'(by have := HLL.out; omega)) (List.getElem_mem _)
            rw [hLj] at hdr hok
            have hlr := HLB.out k
            generalize texts[j]'(by omega) = s0 at *
            generalize numbers[j]'(by omega) = x0 at *
            have hkN : j < numbers.length := by omega
            have hkT : j < texts.length := by omega
            have hrest : (itsB (L.drop (j + 1)) ++ Y.numBytes 0 4).length ≤ 40000 := by
              have h1 := itsB_length (L.drop (j + 1)) fun x hx => HLO.out x (List.mem_of_mem_drop hx)
              rw [List.length_append, Y.numBytes_length]
              rw [List.length_drop] at h1
              have := HLL.out
              omega
            have hl8 : ∀ x : Int, (Y.numBytes x 8).length = 8 := fun x => Y.numBytes_length x 8
            have hkr := HKR.out
            rw [hdr] at hkr
            simp only [itsB, itB, List.append_assoc] at hkr
            obtain ⟨rest, hre⟩ : ∃ rest, rest = itsB (L.drop (j + 1)) ++ Y.numBytes 0 4 := ⟨_, rfl⟩
            rw [← hre] at hkr hrest
            have HRE := Lib.hid hre
            clear hre
            have hlo : (Y.opaqueOf (cut300 s0) ++ rest).length ≤ 50000 := by
              rw [List.length_append, Y.opaqueOf_length]
              have := Y.pad_lt (cut300 s0).size
              have := cut300_size s0
              omega
            have hlp : (Y.numBytes x0 8 ++ (Y.opaqueOf (cut300 s0) ++ rest)).length ≤ 50008 := by
              rw [List.length_append, hl8]
              omega
            have HX0 := Lib.hid hok.1
            have HCT0 := Lib.hid hcT
            have HCN0 := Lib.hid hcN
            clear hcT hcN hok hdr hLj
            subst eT eN
            go_upto_region 29 with (fail)
            go_cut [135] from 103 to 135 (fun c wx => c = .bool false ∧ Rk w p rest wx)
            case first =>
              have hkd := hkr.drew
              by_cases hs : (s0.size : Int) ≤ 300
              · have hcut : cut300 s0 = s0.extract 0 s0.size := by
                  unfold cut300
                  rw [Nat.min_eq_left (by omega)]
                rw [hcut] at hkr hkd hlo hlp
                have HS0 := Lib.hid (show (s0.extract 0 s0.size).size ≤ 300 by rw [ByteArray.size_extract]; omega)
                clear hcut
                have b0 : (0 : Int) ≤ (s0.size : Int) := by omega
                have hsl : ∀ w, (Instr.slice 9 (.string s0) none (some (.int .i64 (s0.size : Int))) none).run Tryd.prog w = .ok (.string (s0.extract 0 s0.size)) w := fun w => by
                  rw [run_slice_string_to_if w 9 s0 .i64 _ Tryd.underlying9, if_pos ⟨by omega, by omega⟩]
                  rfl
                have hlt : ((300 : Int) < (s0.size : Int)) = False := eq_false (by omega)
                have hmn : min (s0.size : Int) 300 = (s0.size : Int) := by omega
                generalize hS : s0.extract 0 s0.size = S at *
                clear hS
                go_region_held3 (fun w' => w'.cell? ⟨gN, oN + j, none⟩ = some (.int .i64 x0) ∧ w'.cell? ⟨gT, oT + j, none⟩ = some (.string s0)) (exact ⟨Rk.cell (by assumption) hgN HCN0.out, Rk.cell (by assumption) hgT HCT0.out⟩) (first | (go_at_call 21; refine (rk_one (l := Y.numBytes x0 8 ++ (Y.opaqueOf S ++ rest)) HP.out (by omega) (by assumption)).mono ?_; rintro e w' ⟨rfl, hkA⟩; have hdA := hkA.drew) | (go_at_call 23; refine (rk_hyper (l := Y.opaqueOf S ++ rest) x0 HX0.out HP.out (by omega) (by assumption)).mono ?_; rintro e w' ⟨rfl, hkB⟩; have hdB := hkB.drew) | (go_at_call 24; refine (rk_opaque (l := rest) S HS0.out HP.out (by omega) (by assumption)).mono ?_; rintro e w' ⟨rfl, hkC⟩; have hdC := hkC.drew))
                all_goals
                  go_wp2
                  go_meet
                  exact ⟨rfl, hkC⟩
              · have hcut : cut300 s0 = s0.extract 0 300 := by
                  unfold cut300
                  rw [Nat.min_eq_right (by omega)]
                rw [hcut] at hkr hkd hlo hlp
                have HS0 := Lib.hid (show (s0.extract 0 300).size ≤ 300 by rw [ByteArray.size_extract]; omega)
                clear hcut
                have b0 : (300 : Int) ≤ (s0.size : Int) := by omega
                have hsl : ∀ w, (Instr.slice 9 (.string s0) none (some (.int .i64 300)) none).run Tryd.prog w = .ok (.string (s0.extract 0 300)) w := fun w => by
                  rw [run_slice_string_to_if w 9 s0 .i64 _ Tryd.underlying9, if_pos ⟨by omega, by omega⟩]
                  rfl
                generalize hS : s0.extract 0 300 = S at *
                clear hS
                go_region_held3 (fun w' => w'.cell? ⟨gN, oN + j, none⟩ = some (.int .i64 x0) ∧ w'.cell? ⟨gT, oT + j, none⟩ = some (.string s0)) (exact ⟨Rk.cell (by assumption) hgN HCN0.out, Rk.cell (by assumption) hgT HCT0.out⟩) (first | (go_at_call 21; refine (rk_one (l := Y.numBytes x0 8 ++ (Y.opaqueOf S ++ rest)) HP.out (by omega) (by assumption)).mono ?_; rintro e w' ⟨rfl, hkA⟩; have hdA := hkA.drew) | (go_at_call 23; refine (rk_hyper (l := Y.opaqueOf S ++ rest) x0 HX0.out HP.out (by omega) (by assumption)).mono ?_; rintro e w' ⟨rfl, hkB⟩; have hdB := hkB.drew) | (go_at_call 24; refine (rk_opaque (l := rest) S HS0.out HP.out (by omega) (by assumption)).mono ?_; rintro e w' ⟨rfl, hkC⟩; have hdC := hkC.drew))
                all_goals
                  go_wp2
                  go_meet
                  exact ⟨rfl, hkC⟩
            case rest =>
            obtain ⟨rfl, hk2⟩ := hcut
            have HK2 := Lib.hid hk2
            clear hk2 hkr
            rw [HRE.out] at HK2
            go_wp2
            exact ⟨⟨j + 1, by omega, by go_num, HK2.out⟩, by simp [intOf]; omega⟩
          · obtain rfl : j = k := by omega
            have hd2 : decide ((j : Int) < (j : Int)) = false := decide_eq_false (by omega)
            have hkr := HKR.out
            rw [List.drop_of_length_le (by have := HLL.out; omega)] at hkr
            have hkr2 : Rk w p (Y.numBytes 0 4 ++ []) wr := by simpa [itsB] using hkr
            clear hkr
            go_wp2_with fail
            refine (rk_nought (l := []) HP.out (by simp) hkr2).mono ?_
            rintro e w14 ⟨rfl, hk⟩
            have HKE := Lib.hid hk
            clear hk hkr2
            go_wp2_with fail
            refine (X.end_any p [] 0 w14 HKE.out.rd).mono ?_
            rintro e w15 ⟨rfl, rfl⟩
            have he : X.endR [] 0 = 0 := rfl
            rw [he]
            clear he
            go_wp2
            go_ret
            exact ⟨rfl, HKE.out.low⟩
end Go.Proofs.YtakfpfnaogdmlaaDoor
