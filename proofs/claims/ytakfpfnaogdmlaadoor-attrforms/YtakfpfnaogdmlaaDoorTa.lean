/-
  An Attr out of numbers, by the taker. Its condition: the numbers lie in memory.
-/
import Derived.Test.YtakfpfnaogdmlaaDoorTk
namespace Go.Proofs.YtakfpfnaogdmlaaDoor.A
open Go.RowKit
/-- The taker, and the Attr's box beside it. -/
structure TA (N p B : Nat) (L : List Int) (w0 w1 w : World) : Prop where
  tf : TF N p L w0 w
  f : Fq p w1 w
  c : AAt w B 0 0 0 0 0 0 0 0 0 0 0 0 0 0 0 0 0
  hb : B ≠ p
theorem TA.start {N p : Nat} {L : List Int} {w0 w : World} (h : TF N p L w0 w) : TA N p w.heap.size L w0 (w.alloc (.cells #[.int .i64 0, .int .i64 0, .int .i64 0, .int .i64 0, .int .i64 0, .int .i64 0, .int .i64 0, .int .i64 0, .int .i64 0, .int .i64 0, .int .i64 0, .int .i64 0, .int .i64 0, .int .i64 0, .int .i64 0, .int .i64 0, .int .i64 0] 41)) (w.alloc (.cells #[.int .i64 0, .int .i64 0, .int .i64 0, .int .i64 0, .int .i64 0, .int .i64 0, .int .i64 0, .int .i64 0, .int .i64 0, .int .i64 0, .int .i64 0, .int .i64 0, .int .i64 0, .int .i64 0, .int .i64 0, .int .i64 0, .int .i64 0] 41)) :=
  ⟨h.alloc _, Fq.refl _ _, AAt.new w 0 0 0 0 0 0 0 0 0 0 0 0 0 0 0 0 0, by have := h.lt; omega⟩
/-- The same at a list of operations. -/
theorem store28_l {ops : Array Oper} {rest : List Oper} {o : Oper} {a : Act} {w : World} {Q : Exit → Act → World → Prop} (hgd : o.guard = none) (B : Nat) (n0 n1 n2 n3 n4 n5 n6 n7 n8 n9 n10 n11 n12 n13 n14 n15 n16 m0 m1 m2 m3 m4 m5 m6 m7 m8 m9 m10 m11 m12 m13 m14 m15 m16 : Int) (hg : AAt w B m0 m1 m2 m3 m4 m5 m6 m7 m8 m9 m10 m11 m12 m13 m14 m15 m16) (x y : Operand) (ho : o.op = .store 41 x y)
    (hx : a.eval x = .pointer (some ⟨B, 0, none⟩)) (hy : a.eval y = .agg #[.int .i64 n0, .int .i64 n1, .int .i64 n2, .int .i64 n3, .int .i64 n4, .int .i64 n5, .int .i64 n6, .int .i64 n7, .int .i64 n8, .int .i64 n9, .int .i64 n10, .int .i64 n11, .int .i64 n12, .int .i64 n13, .int .i64 n14, .int .i64 n15, .int .i64 n16]) (h : wpList Tryd.prog ops Q rest (a.put o.dst undef) (w.setRow B #[.int .i64 n0, .int .i64 n1, .int .i64 n2, .int .i64 n3, .int .i64 n4, .int .i64 n5, .int .i64 n6, .int .i64 n7, .int .i64 n8, .int .i64 n9, .int .i64 n10, .int .i64 n11, .int .i64 n12, .int .i64 n13, .int .i64 n14, .int .i64 n15, .int .i64 n16])) : wpList Tryd.prog ops Q (o :: rest) a w :=
  wpList_plain hgd fun _ hK => store28_at B n0 n1 n2 n3 n4 n5 n6 n7 n8 n9 n10 n11 n12 n13 n14 n15 n16 m0 m1 m2 m3 m4 m5 m6 m7 m8 m9 m10 m11 m12 m13 m14 m15 m16 hg x y ho hx hy (hK _ _ h)
theorem load28_l {ops : Array Oper} {rest : List Oper} {o : Oper} {a : Act} {w : World} {Q : Exit → Act → World → Prop} (hgd : o.guard = none) {B : Nat} {n0 n1 n2 n3 n4 n5 n6 n7 n8 n9 n10 n11 n12 n13 n14 n15 n16 : Int} (hg : AAt w B n0 n1 n2 n3 n4 n5 n6 n7 n8 n9 n10 n11 n12 n13 n14 n15 n16) (x : Operand) (ho : o.op = .load 41 x)
    (hx : a.eval x = .pointer (some ⟨B, 0, none⟩)) (h : wpList Tryd.prog ops Q rest (a.put o.dst (.agg #[.int .i64 n0, .int .i64 n1, .int .i64 n2, .int .i64 n3, .int .i64 n4, .int .i64 n5, .int .i64 n6, .int .i64 n7, .int .i64 n8, .int .i64 n9, .int .i64 n10, .int .i64 n11, .int .i64 n12, .int .i64 n13, .int .i64 n14, .int .i64 n15, .int .i64 n16])) w) : wpList Tryd.prog ops Q (o :: rest) a w :=
  wpList_plain hgd fun _ hK => load28 hg x ho hx (hK _ _ h)
theorem store28_n {ops : Array Oper} {rest : List Oper} {o : Oper} {a : Act} {w : World} {Q : Exit → Act → World → Prop} (hgd : o.guard = none) (n0 n1 n2 n3 n4 n5 n6 n7 n8 n9 n10 n11 n12 n13 n14 n15 n16 : Int) (x y : Operand) (ho : o.op = .store 41 x y)
    (hx : a.eval x = .pointer (some ⟨w.heap.size, 0, none⟩)) (hy : a.eval y = .agg #[.int .i64 n0, .int .i64 n1, .int .i64 n2, .int .i64 n3, .int .i64 n4, .int .i64 n5, .int .i64 n6, .int .i64 n7, .int .i64 n8, .int .i64 n9, .int .i64 n10, .int .i64 n11, .int .i64 n12, .int .i64 n13, .int .i64 n14, .int .i64 n15, .int .i64 n16]) (h : wpList Tryd.prog ops Q rest (a.put o.dst undef) (w.alloc (.cells #[.int .i64 n0, .int .i64 n1, .int .i64 n2, .int .i64 n3, .int .i64 n4, .int .i64 n5, .int .i64 n6, .int .i64 n7, .int .i64 n8, .int .i64 n9, .int .i64 n10, .int .i64 n11, .int .i64 n12, .int .i64 n13, .int .i64 n14, .int .i64 n15, .int .i64 n16] 41))) : wpList Tryd.prog ops Q (o :: rest) a (w.alloc (.cells #[.int .i64 0, .int .i64 0, .int .i64 0, .int .i64 0, .int .i64 0, .int .i64 0, .int .i64 0, .int .i64 0, .int .i64 0, .int .i64 0, .int .i64 0, .int .i64 0, .int .i64 0, .int .i64 0, .int .i64 0, .int .i64 0, .int .i64 0] 41)) :=
  wpList_plain hgd fun _ hK => store28 n0 n1 n2 n3 n4 n5 n6 n7 n8 n9 n10 n11 n12 n13 n14 n15 n16 x y ho hx hy (hK _ _ h)
theorem set_row_fq {w : World} {B : Nat} {n0 n1 n2 n3 n4 n5 n6 n7 n8 n9 n10 n11 n12 n13 n14 n15 n16 : Int} (_ : AAt w B n0 n1 n2 n3 n4 n5 n6 n7 n8 n9 n10 n11 n12 n13 n14 n15 n16) (cs : Array Value) : Fq B w (w.setRow B cs) :=
  ⟨rfl, rfl, rfl, by simp [World.setRow], fun k _ hk => setRow_other w B k cs (fun e => hk e)⟩
theorem number_a {N p B : Nat} {x : Int} {L : List Int} {w0 w1 w : World} (h : TA N p B (x :: L) w0 w1 w) : Calls Tryd.prog 50 #[.pointer (some ⟨p, 0, none⟩)] w fun r w' => r = .returned (.int .i64 x) ∧ TA N p B L w0 w1 w' :=
  (number_ok h.tf).mono fun _ _ ⟨a, k, f⟩ => ⟨a, k, h.f.trans f, (f.block B h.c.lt h.hb).trans h.c, h.hb⟩
theorem time_a {N p B : Nat} {x y : Int} {L : List Int} {w0 w1 w : World} (h : TA N p B (x :: y :: L) w0 w1 w) : Calls Tryd.prog 51 #[.pointer (some ⟨p, 0, none⟩)] w fun r w' => r = .returned (.agg #[.int .i64 x, .int .i64 y]) ∧ TA N p B L w0 w1 w' :=
  (time_ok h.tf).mono fun _ _ ⟨a, k, f⟩ => ⟨a, k, h.f.trans f, (f.block B h.c.lt h.hb).trans h.c, h.hb⟩
set_option maxRecDepth 100000 in
set_option maxHeartbeats 4000000 in
theorem attr_no {N p : Nat} {n0 n1 n2 n3 n4 n5 n6 n7 n8 n9 n10 n11 n12 n13 n14 n15 : Int} {w0 w : World} (h : TF N p [n0, n1, n2, n3, n4, n5, n6, n7, n8, n9, n10, n11, n12, n13, n14, n15] w0 w) : Calls Tryd.prog 35 #[.pointer (some ⟨p, 0, none⟩)] w fun r w' => r = Refused ∧ Fq p w w' := by
  have HT := Lib.hid (TA.start h)
  clear h
  go_enter Tryd.func35, Tryd.ntmps35
  go_wp2_with fail
  have HW : Hid (Fq p w (w.alloc (.cells #[.int .i64 0, .int .i64 0, .int .i64 0, .int .i64 0, .int .i64 0, .int .i64 0, .int .i64 0, .int .i64 0, .int .i64 0, .int .i64 0, .int .i64 0, .int .i64 0, .int .i64 0, .int .i64 0, .int .i64 0, .int .i64 0, .int .i64 0] 41))) := Lib.hid (Fq.ofBelow ((Below.refl _ _).alloc (Nat.le_refl _) _))
  have hT := HT.out
  clear HT
  generalize w.alloc (.cells #[.int .i64 0, .int .i64 0, .int .i64 0, .int .i64 0, .int .i64 0, .int .i64 0, .int .i64 0, .int .i64 0, .int .i64 0, .int .i64 0, .int .i64 0, .int .i64 0, .int .i64 0, .int .i64 0, .int .i64 0, .int .i64 0, .int .i64 0] 41) = W at *
  go_wp2_with (first | (go_at_call 50; refine (number_a (by assumption)).mono ?_; rintro r w' ⟨rfl, hT'⟩; clear hT; have hT := hT'; clear hT') | (go_at_call 51; refine (time_a (by assumption)).mono ?_; rintro r w' ⟨rfl, hT'⟩; clear hT; have hT := hT'; clear hT') | (go_at_call 51; refine (time_no1 (TA.tf (by assumption))).mono ?_; rintro r w' ⟨rfl, hF⟩))
  exact ⟨rfl, rfl, HW.out.trans (hT.f.trans hF)⟩
set_option maxRecDepth 100000 in
set_option maxHeartbeats 4000000 in
theorem attr_ok {N p : Nat} {n0 n1 n2 n3 n4 n5 n6 n7 n8 n9 n10 n11 n12 n13 n14 n15 n16 : Int} {L : List Int} {w0 w : World} (h : TF N p (n0 :: n1 :: n2 :: n3 :: n4 :: n5 :: n6 :: n7 :: n8 :: n9 :: n10 :: n11 :: n12 :: n13 :: n14 :: n15 :: n16 :: L) w0 w) : Calls Tryd.prog 35 #[.pointer (some ⟨p, 0, none⟩)] w fun r w' => r = .returned (.agg #[.int .i64 n0, .int .i64 n1, .int .i64 n2, .int .i64 n3, .int .i64 n4, .int .i64 n5, .int .i64 n6, .int .i64 n7, .int .i64 n8, .int .i64 n9, .int .i64 n10, .int .i64 n11, .int .i64 n12, .int .i64 n13, .int .i64 n14, .int .i64 n15, .int .i64 n16]) ∧ TF N p L w0 w' ∧ Fq p w w' := by
  have HT := Lib.hid (TA.start h)
  have hN := h.hN
  clear h
  go_enter Tryd.func35, Tryd.ntmps35
  go_wp2_with fail
  have HW : Hid (Fq p w (w.alloc (.cells #[.int .i64 0, .int .i64 0, .int .i64 0, .int .i64 0, .int .i64 0, .int .i64 0, .int .i64 0, .int .i64 0, .int .i64 0, .int .i64 0, .int .i64 0, .int .i64 0, .int .i64 0, .int .i64 0, .int .i64 0, .int .i64 0, .int .i64 0] 41))) := Lib.hid (Fq.ofBelow ((Below.refl _ _).alloc (Nat.le_refl _) _))
  have hT := HT.out
  clear HT
  generalize w.alloc (.cells #[.int .i64 0, .int .i64 0, .int .i64 0, .int .i64 0, .int .i64 0, .int .i64 0, .int .i64 0, .int .i64 0, .int .i64 0, .int .i64 0, .int .i64 0, .int .i64 0, .int .i64 0, .int .i64 0, .int .i64 0, .int .i64 0, .int .i64 0] 41) = W at *
  go_wp2_with (first | (go_at_call 50; refine (number_a (by assumption)).mono ?_; rintro r w' ⟨rfl, hT'⟩; clear hT; have hT := hT'; clear hT') | (go_at_call 51; refine (time_a (by assumption)).mono ?_; rintro r w' ⟨rfl, hT'⟩; clear hT; have hT := hT'; clear hT') | (refine store28_l rfl w.heap.size n0 n1 n2 n3 n4 n5 n6 n7 n8 n9 n10 n11 n12 n13 n14 n15 n16 0 0 0 0 0 0 0 0 0 0 0 0 0 0 0 0 0 hT.c _ _ rfl rfl rfl ?_))
  have hS := hT.c.set n0 n1 n2 n3 n4 n5 n6 n7 n8 n9 n10 n11 n12 n13 n14 n15 n16
  have hF : Fq w.heap.size _ _ := set_row_fq hT.c #[.int .i64 n0, .int .i64 n1, .int .i64 n2, .int .i64 n3, .int .i64 n4, .int .i64 n5, .int .i64 n6, .int .i64 n7, .int .i64 n8, .int .i64 n9, .int .i64 n10, .int .i64 n11, .int .i64 n12, .int .i64 n13, .int .i64 n14, .int .i64 n15, .int .i64 n16]
  have HD := Lib.hid (hT.tf.keep hF hN hT.hb)
  have HF := Lib.hid hF
  have HT := Lib.hid hT
  have HS := Lib.hid hS
  clear hS hF hT
  go_wp2
  refine bodyPost_ret (results_cell_row (by rfl) _ _ w.heap.size 41 _ (0, 0) _ (by rfl) HS.out Tryd.underlying41 (by rfl) (by kernel_rfl)) rfl ⟨rfl, HD.out, ?_⟩
  refine ⟨HF.out.os.trans (HT.out.f.os.trans HW.out.os), HF.out.tape.trans (HT.out.f.tape.trans HW.out.tape), HF.out.output.trans (HT.out.f.output.trans HW.out.output), Nat.le_trans HW.out.size (Nat.le_trans HT.out.f.size HF.out.size), fun k hk hp => ?_⟩
  exact (HF.out.block k (Nat.lt_of_lt_of_le hk (Nat.le_trans HW.out.size HT.out.f.size)) (by omega)).trans ((HT.out.f.block k (Nat.lt_of_lt_of_le hk HW.out.size) hp).trans (HW.out.block k hk hp))
end Go.Proofs.YtakfpfnaogdmlaaDoor.A
