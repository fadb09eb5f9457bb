import Derived.Test.YtfiebibpgbadlaaGreatShelfH
import Derived.Test.YtfiebibpgbadlaaGreatProgB
import Derived.Test.YtfiebibpgbadlaaGreatKb
import Derived.Test.YtfiebibpgbadlaaGreatMe
import Derived.Test.YtfiebibpgbadlaaGreatRefE
namespace Go.Proofs.YtfiebibpgbadlaaGreat
open Go.RowKit
set_option linter.unusedVariables false
set_option linter.unusedSimpArgs false

theorem count1_any (s f t : Hw.Wd) (wb : Nat) (w : World) (hs : s.length ≤ 16) (hc : w.cell? ⟨wb, 0, none⟩ = some (.string ⟨s.toArray⟩)) :
    Calls Tryz.prog 67 #[.agg #[.string ⟨f.toArray⟩, .string ⟨t.toArray⟩], .pointer (some ⟨wb, 0, none⟩)] w fun e w' => e = .returned (.bool (Lib.hasSuffix s f)) ∧ Below w.heap.size w w' := by
  have hlt := World.block_lt_of_cell? w ⟨wb, 0, none⟩ hc
  have hca : ∀ o, (w.alloc o).cell? ⟨wb, 0, none⟩ = some (.string ⟨s.toArray⟩) := fun o => ((Kept.refl [] w).alloc o).cell hc (by simp)
  go_enter Tryz.func67, Tryz.ntmps67
  go_wp2_with (go_at_call 68; refine (Tryz.strings_HasSuffix _ _ _ (by simp [ByteArray.size]; omega)).mono ?_; rintro e w' ⟨rfl, rfl⟩)
  go_ret
  exact ⟨rfl, (Below.refl _ _).alloc (Nat.le_refl _) _⟩

def encL (r : Hw.Rl) : List Value := [.string ⟨r.1.toArray⟩, .string ⟨r.2.toArray⟩]

theorem index_none (fv : Value) (w : World) :
    Calls Tryz.prog 95 #[.slice none 0 0, fv] w fun e w' => e = .returned (.int .i64 (-1)) ∧ w' = w := by
  go_enter Tryz.func95, Tryz.ntmps95
  go_wp2
  refine wp_loop_rounds 1 ?_
  rw [rounds_succ]
  go_wp2
  go_ret
  exact ⟨rfl, rfl⟩

theorem has_none (fv : Value) (w : World) :
    Calls Tryz.prog 66 #[.slice none 0 0, fv] w fun e w' => e = .returned (.bool false) ∧ w' = w := by
  go_enter Tryz.func66, Tryz.ntmps66
  go_wp2_with (go_at_call 95; refine (index_none _ _).mono ?_; rintro e w' ⟨rfl, rfl⟩)
  go_ret
  exact ⟨by simp, rfl⟩

theorem has_any (s : Hw.Wd) (wb B : Nat) (w : World) (rv : Value) (R : List Hw.Rl) (hs : s.length ≤ 16) (hc : w.cell? ⟨wb, 0, none⟩ = some (.string ⟨s.toArray⟩)) (hRl : R.length ≤ 65536) (hR : RulesAt w B rv R) :
    Calls Tryz.prog 66 #[rv, .func (.func 67) #[] #[.pointer (some ⟨wb, 0, none⟩)]] w fun e w' => e = .returned (.bool (R.any fun r => Lib.hasSuffix s r.1)) ∧ Below w.heap.size w w' := by
  rcases hR.2 with ⟨rfl, h2⟩ | ⟨g, cap, cur, rfl, hb, hg, hn, hm, hsz, ht⟩
  · have e : R = [] := List.length_eq_zero_iff.1 h2
    subst e
    refine (has_none _ _).mono ?_
    rintro e w' ⟨rfl, rfl⟩
    exact ⟨rfl, Below.refl _ _⟩
  · have eg : ∀ args w, (callFunc 67 args).run Tryz.prog w = .ok (.enter 67 args) w := enters_of Tryz.func67 (by kernel_rfl) rfl
    have hp : PredBelow Tryz.prog 67 #[.pointer (some ⟨wb, 0, none⟩)] (fun x : Hw.Rl => .agg (encL x).toArray) (fun r => Lib.hasSuffix s r.1) w := by
      intro W x hbW
      refine (count1_any s x.1 x.2 wb W hs ((hbW.cell (p := ⟨wb, 0, none⟩) (World.block_lt_of_cell? w ⟨wb, 0, none⟩ hc)).trans hc)).mono ?_
      rintro e w' ⟨rfl, hb'⟩
      exact ⟨rfl, hbW.trans (hb'.mono hbW.size)⟩
    have hcells : ∀ j, j < R.length → ∀ i v, (encL R[j]!)[i]? = some v → w.cell? ⟨g, 0 + j * 2 + i, none⟩ = some v := by
      intro j hj i v hv
      obtain ⟨g', cap', cur', h1, _, _, d0, d1⟩ := hR.read hj
      simp only [Value.slice.injEq, Option.some.injEq, Addr.mk.injEq] at h1
      obtain ⟨⟨rfl, -, -⟩, -, rfl⟩ := h1
      rw [getElem!_pos R j hj] at hv
      rw [Nat.zero_add]
      match i, hv with
      | 0, hv => simp [encL] at hv; rw [← hv]; exact d0
      | 1, hv => simp [encL] at hv; rw [← hv]; exact d1
    have hcon := AnyQ.slices_ContainsFunc Tryz.laysHas 2 Tryz.isAgg77 Tryz.sizeOf77 encL (fun _ => rfl) (fun r => Lib.hasSuffix s r.1) 67 #[.pointer (some ⟨wb, 0, none⟩)] eg g 0 R.length cap R w hp (Nat.le_refl _) (by omega) (lt_of_block hg) hcells
    rw [List.take_length] at hcon
    exact hcon

theorem suffix_iff (R : List Hw.Rl) (v : Hw.Wd) (d : UInt8) (hv : Hw.Irr R v) : (R.any fun r => Lib.hasSuffix (v ++ [d]) r.1) = false ↔ Hw.Irr R (v ++ [d]) := by
  rw [Hw.irr_snoc hv, List.any_eq_false]
  constructor
  · intro h r hr hs
    exact h r hr (by unfold Lib.hasSuffix; exact List.isSuffixOf_iff_suffix.2 hs)
  · intro h r hr hs
    exact h r hr (List.isSuffixOf_iff_suffix.1 hs)

/-- The words that Count has found. -/
structure CtI (w wr : World) (fv : Value) (F : List Hw.Wd) : Prop where
  own : wr.ownsRow w.heap.size 9 1 fv F.length (F.map str')
  below : Below w.heap.size w wr

theorem CtI.read {w wr : World} {fv : Value} {F : List Hw.Wd} (h : CtI w wr fv F) {i : Nat} {s : Hw.Wd} (hi : F[i]? = some s) :
    ∃ g cap, fv = .slice (some ⟨g, 0, none⟩) F.length cap ∧ wr.cell? ⟨g, i, none⟩ = some (.string ⟨s.toArray⟩) := by
  have hlt : i < F.length := (List.getElem?_eq_some_iff.1 hi).1
  rcases h.own.2 with ⟨h1, h2⟩ | ⟨g, cap, cur, h1, _, hg, hn, _, hsz, ht⟩
  · omega
  · refine ⟨g, cap, h1, ?_⟩
    rw [cell_of_row wr g i cur _ _ hg]
    have e : (cur.toList.take (F.length * 1))[i]? = some (str' s) := by
      rw [ht, List.getElem?_map, hi]; rfl
    rw [List.getElem?_take, if_pos (by omega)] at e
    simpa [str'] using e

theorem CtI.shape {w wr : World} {fv : Value} {F : List Hw.Wd} (h : CtI w wr fv F) : ∃ sa cap, fv = .slice sa F.length cap := by
  rcases h.own.2 with ⟨h1, h2⟩ | ⟨g, cap, cur, h1, _⟩
  · exact ⟨none, 0, by rw [h1, h2]⟩
  · exact ⟨_, _, h1⟩

theorem cti_start (w : World) : CtI w (w.alloc (.cells #[.string ⟨#[]⟩] 9)) (.slice (some ⟨w.heap.size, 0, none⟩) 1 1) [[]] :=
  ⟨⟨rfl, .inr ⟨w.heap.size, 1, #[.string ⟨#[]⟩], rfl, Nat.le_refl _, heap_alloc_new w _, Nat.le_refl _, by unfold maxLen; omega, rfl, rfl⟩⟩, (Below.refl _ w).alloc (Nat.le_refl _) _⟩

theorem CtI.same {w wr w1 : World} {fv : Value} {F : List Hw.Wd} (h : CtI w wr fv F) (hb : Below wr.heap.size wr w1) : CtI w w1 fv F := by
  refine ⟨⟨h.own.1, ?_⟩, h.below.trans (hb.mono h.below.size)⟩
  rcases h.own.2 with h1 | ⟨g, cap, cur, h1, h2, hg, r⟩
  · exact .inl h1
  · exact .inr ⟨g, cap, cur, h1, h2, (hb.block _ (lt_of_block hg)).trans hg, r⟩

theorem CtI.more {w wr w0 w1 : World} {fv v' : Value} {F : List Hw.Wd} (h : CtI w wr fv F) {nw : Hw.Wd} (h0 : Below wr.heap.size wr w0) (hown : w1.ownsRow w.heap.size 9 1 v' (F.length + 1) (F.map str' ++ [str' nw])) (hgrow : w0.grownBy w1 fv.ownBlock) : CtI w w1 v' (F ++ [nw]) := by
  refine ⟨by simpa using hown, ?_⟩
  have hK : Kept fv.ownBlock.toList wr w1 := (Kept.of_below_size h0).trans (Kept.of_grown hgrow (fun k hk => by simp [hk]))
  exact h.below.trans (hK.below h.below.size (fun k hk => by
    simp at hk
    rcases h.own.2 with ⟨h1, _⟩ | ⟨g, cap, cur, h1, hb, hg, _⟩
    · rw [h1] at hk; simp [Value.ownBlock] at hk
    · rw [h1] at hk; simp [Value.ownBlock] at hk; omega))
end Go.Proofs.YtfiebibpgbadlaaGreat
namespace Go.Proofs.YtfiebibpgbadlaaGreat
open Go.RowKit
set_option linter.unusedVariables false
set_option linter.unusedSimpArgs false

theorem conv_chr (c : Nat) (h : c < 3) (W : World) : (convert 21 9 (Value.int IntKind.i32 (97 + (c : Int)))).run Tryz.prog W = .ok (.string ⟨#[Hw.chr c]⟩) W := by
  rcases (show c = 0 ∨ c = 1 ∨ c = 2 by omega) with rfl | rfl | rfl <;> kernel_rfl

theorem box_word {wr : World} {v : Hw.Wd} {ch : UInt8} (h : (⟨v.toArray⟩ : ByteArray) ++ (⟨#[ch]⟩ : ByteArray) = ⟨(v ++ [ch]).toArray⟩) : (wr.alloc (.cells #[.string ((⟨v.toArray⟩ : ByteArray) ++ (⟨#[ch]⟩ : ByteArray))] 9)).cell? ⟨wr.heap.size, 0, none⟩ = some (.string ⟨(v ++ [ch]).toArray⟩) := by
  rw [← h]; exact cellAt (heap_alloc_new wr _) rfl

theorem own_len {w : World} {B n : Nat} {g cap : Nat} {F : List Hw.Wd} (hl : F.length = n) (h : w.ownsRow B 9 1 (.slice (some ⟨g, 0, none⟩) F.length cap) F.length (F.map str')) : w.ownsRow B 9 1 (.slice (some ⟨g, 0, none⟩) n cap) n (F.map str') := by
  subst hl; exact h

theorem newCell0 (w : World) (u : Value) (t : TypeId) : ∀ j x, [u][j]? = some x → (w.alloc (.cells #[u] t)).cell? ((⟨w.heap.size, 0, none⟩ : Addr).add j) = some x := by
  intro j x hj
  match j, hj with
  | 0, hj =>
    simp at hj; subst hj
    exact cell_of_row _ _ 0 _ _ _ (heap_alloc_new w (.cells #[u] t))

theorem cti_more {w w1 w3 : World} {v' : Value} {P Q1 : List Hw.Wd} {v : Hw.Wd} {ch : UInt8} {g cap n : Nat} {o : Obj} (hl : (P ++ v :: Q1).length = n) (hvc : (⟨v.toArray⟩ : ByteArray) ++ (⟨#[ch]⟩ : ByteArray) = ⟨(v ++ [ch]).toArray⟩)
    (h : CtI w w1 (.slice (some ⟨g, 0, none⟩) (P ++ v :: Q1).length cap) (P ++ v :: Q1)) (hown : w3.ownsRow w.heap.size 9 1 v' (n + 1) ((P ++ v :: Q1).map str' ++ [.string ((⟨v.toArray⟩ : ByteArray) ++ (⟨#[ch]⟩ : ByteArray))]))
    (hgrow : (w1.alloc o).grownBy w3 (Value.slice (some ⟨g, 0, none⟩) n cap).ownBlock) : CtI w w3 v' (P ++ v :: (Q1 ++ [v ++ [ch]])) := by
  subst hl
  rw [hvc] at hown
  have e := h.more (nw := v ++ [ch]) ((Below.refl _ _).alloc (Nat.le_refl _) _) hown hgrow
  simpa using e

set_option maxHeartbeats 1600000 in
theorem count_any (w : World) (B L M : Nat) (rv : Value) (R : List Hw.Rl) (hL1 : 1 ≤ L) (hL3 : L ≤ 3) (hM6 : M ≤ 6) (hok : Hw.RulesOk L M R) (hRl : R.length + Hw.cntIrr L M R ≤ 1093) (hR : RulesAt w B rv R) :
    Calls Tryz.prog 42 #[rv, .int .i64 (L : Int), .int .i64 (M : Int)] w fun e w' => e = .returned (.int .i64 ((Hw.cntIrr L M R : Nat) : Int)) ∧ Below w.heap.size w w' := by
  obtain ⟨sa, cap, rfl⟩ := hR.shape
  have HR := hide hR
  have H0 := hide (Hw.CInv.start hok)
  clear hR hok
  go_enter Tryz.func42, Tryz.ntmps42
  go_wp2_with fail
  go_loopw [7, 8] (fun fv iv wr => ∃ P Q, iv = .int .i64 ((P.length : Nat) : Int) ∧ CtI w wr fv (P ++ Q) ∧ Hid (Hw.CInv L M R P Q)) (fun _ iv _ => 1100 - (intOf iv).toNat)
  case atStart => exact ⟨[], [[]], rfl, cti_start w, H0⟩
  case round =>
    clear H0
    obtain ⟨P, Q, rfl, hI, hC⟩ := hrel
    have HI := hide hI
    obtain ⟨fa, fcap, rfl⟩ := hI.shape
    cases Q with
    | nil =>
      have hcnt := hC.out.count hL3 (by simp)
      have hcnt : P.length = Hw.cntIrr L M R := by simpa using hcnt
      have hlen0 : (P ++ [] : List Hw.Wd).length = P.length := by simp
      rw [hlen0]
      clear hlen0
      have HCNT := hide hcnt
      clear hI hcnt
      go_wp2
      go_ret
      exact ⟨ret_int (by have := HCNT.out; omega), HI.out.below⟩
    | cons v Q =>
      obtain ⟨g, cap2, h1, cg⟩ := hI.read (i := P.length) (s := v) (by simp)
      simp only [Value.slice.injEq] at h1
      obtain ⟨rfl, -, rfl⟩ := h1
      have hlen : (P ++ v :: Q).length = P.length + Q.length + 1 := by simp; omega
      have hle := hC.out.enter.le hL3
      have hP : P.length ≤ 1093 := by simp at hle; omega
      rw [hlen] at hle ⊢
      have HLEN := hide hlen
      clear hI hlen
      by_cases hv : v.length < M
      · go_wp2_with fail
        go_loopw [7, 28] (fun fv cv wi => ∃ (c : Nat) (Q1 : List Hw.Wd), c ≤ L ∧ cv = .int .i64 (c : Int) ∧ CtI w wi fv (P ++ v :: Q1) ∧ Hid (Hw.CIn L M R P v Q1 c)) (fun _ cv _ => L - (intOf cv).toNat)
        case atStart => exact ⟨0, Q, Nat.zero_le _, rfl, by have h := HI.out; rw [HLEN.out] at h; exact h, hC.out.enter⟩
        case round =>
          clear hC HI HLEN cg hle
          obtain ⟨c, Q1, hc, rfl, hI, hC⟩ := hrel
          have HI := hide hI
          by_cases hcL : c < L
          · obtain ⟨g, fcap, rfl, cg⟩ := hI.read (i := P.length) (s := v) (by simp)
            have hlen : (P ++ v :: Q1).length = P.length + Q1.length + 1 := by simp; omega
            have hle := hC.out.le hL3
            rw [hlen] at hle ⊢
            have HLEN := hide hlen
            clear hI hlen
            have hcv := conv_chr c (by omega)
            have hadd : ¬ (9223372036854775807 < v.length + 1) := by omega
            have hvc : (⟨v.toArray⟩ : ByteArray) ++ (⟨#[Hw.chr c]⟩ : ByteArray) = ⟨(v ++ [Hw.chr c]).toArray⟩ := ByteArray.mk_append_mk v [Hw.chr c]
            have HVC := hide hvc
            clear hvc
            generalize hch : Hw.chr c = ch at *
            have HCH := hide hch
            clear hch
            go_wp2_with fail
            refine (has_any (v ++ [ch]) wr.heap.size B _ _ R (by simp; omega) (by exact box_word HVC.out) (by omega) (by exact (HR.out.kept (S := []) (Kept.of_below_size HI.out.below) (by simp)).kept (S := []) ((Kept.refl [] wr).alloc _) (by simp))).mono ?_
            rintro e w1 ⟨rfl, hb1⟩
            have hbx : w1.cell? ⟨wr.heap.size, 0, none⟩ = some (.string ((⟨v.toArray⟩ : ByteArray) ++ (⟨#[ch]⟩ : ByteArray))) := (hb1.cell (p := ⟨wr.heap.size, 0, none⟩) (by simp)).trans (cellAt (heap_alloc_new wr _) rfl)
            have HB1 := hide (((Below.refl _ wr).alloc (Nat.le_refl _) _).trans (hb1.mono (by simp)))
            clear hb1
            have hgood := hC.out.good v (by simp)
            cases hq : (R.any fun r => Lib.hasSuffix (v ++ [ch]) r.1) with
            | true =>
              have HC1 : Hid (Hw.CIn L M R P v Q1 (c + 1)) := hC.out.skip (by rw [HCH.out]; intro h; rw [← suffix_iff R v ch hgood.2] at h; rw [hq] at h; cases h)
              clear hq hgood hbx
              go_wp2
              go_roundw
              case rel => exact ⟨c + 1, Q1, by omega, by go_num, by rw [← HLEN.out]; exact HI.out.same HB1.out, HC1⟩
              case measure => simp [intOf]; omega
            | false =>
              have HC1 : Hid (Hw.CIn L M R P v (Q1 ++ [v ++ [ch]]) (c + 1)) := by
                have h := hC.out.more hL3 hcL hv (by rw [HCH.out]; exact (suffix_iff R v ch hgood.2).1 hq)
                rw [HCH.out] at h
                exact h
              obtain ⟨i0, hi0, hz0, hz1, hz2⟩ := info_parts Tryz.infoStr
              have HI0 := hide hi0
              have HZ0 := hide hz0
              have HZ1 := hide hz1
              have HZ2 := hide hz2
              have HI1 := hide (HI.out.same HB1.out)
              clear hi0 hz0 hz1 hz2 hq hgood
              go_wp2_with (at_builtin; refine wpList_append_exact _ rfl (.tmp 44) (.tmp 46) 60 rfl w.heap.size 9 i0 (.string ⟨#[]⟩) 1 16 Tryz.underlying60 HI0.out HZ0.out HZ1.out HZ2.out rfl (by decide) (.slice (some ⟨g, 0, none⟩) (P.length + Q1.length + 1) fcap) (P.length + Q1.length + 1) ((P ++ v :: Q1).map str') rfl ?c1 ⟨w1.heap.size, 0, none⟩ 1 1 [.string ((⟨v.toArray⟩ : ByteArray) ++ (⟨#[ch]⟩ : ByteArray))] rfl rfl ?c2 (one_str _) ?c3 ?c4 ?c5 ?_)
              case c1 => exact own_len HLEN.out (HI1.out.same ((Below.refl _ _).alloc (Nat.le_refl _) _)).own
              case c2 => exact newCell0 w1 _ _
              case c3 => unfold maxLen; omega
              case c4 => omega
              case c5 => have := HI1.out.below.size; simp; omega
              intro v3 w3 hown hgrow hex
              obtain ⟨g3, cap3, rfl⟩ := own_shape hown
              have R3 := hide (cti_more HLEN.out HVC.out HI1.out (by simpa only [List.map_append, List.map_cons, List.append_assoc, List.cons_append] using hown) hgrow)
              clear hown hgrow hex
              go_wp2
              go_roundw
              case rel => exact ⟨c + 1, Q1 ++ [v ++ [ch]], by omega, by go_num, R3.out, HC1⟩
              case measure => simp [intOf]; omega
          · have hcL' : c = L := by omega
            subst hcL'
            have HC1 := hide (hC.out.leave hL3)
            obtain ⟨fa2, fcap2, rfl⟩ := hI.shape
            clear hI hC
            go_wp2
            go_roundw
            case rel => exact ⟨P ++ [v], Q1, by rw [show (P ++ [v]).length = P.length + 1 by simp]; go_num, by simpa using HI.out, HC1⟩
            case measure => simp [intOf] <;> omega
      · have hcnt := hC.out.count hL3 (by intro w' Q' e; simp at e; rw [← e.1]; omega)
        rw [HLEN.out] at hcnt
        have HCNT := hide hcnt
        clear hcnt
        go_wp2
        go_ret
        exact ⟨ret_int (by have := HCNT.out; omega), HI.out.below⟩
end Go.Proofs.YtfiebibpgbadlaaGreat
