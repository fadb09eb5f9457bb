import Derived.Test.YtfiebibpgbadlaaGreatDp
import Derived.Deep.QuietTactic
import Derived.BigQuiet
namespace Go.Proofs.YtfiebibpgbadlaaGreat
open Go.RowKit
set_option linter.unusedVariables false
set_option linter.unusedSimpArgs false
namespace Dr
theorem and_and {a b c : Prop} (h : a ∧ b) (k : c) : a ∧ b ∧ c := ⟨h.1, h.2, k⟩
theorem le_sum {l : List Nat} {a : Nat} (h : a ∈ l) : a ≤ l.sum := by
  induction l with
  | nil => cases h
  | cons b l ih =>
    rcases List.mem_cons.1 h with rfl | h
    · simp
    · have := ih h; simp; omega
theorem ws_nodup {L M T : Nat} {said : List Hw.Rl} {ls : List Hw.Ln} {P : Hw.Pl} {K : List Hw.KE} {Q ex : List Hw.Wd} (h : Hw.DI L M said ls P K Q ex T) {A : Hw.KE} (hA : A ∈ K) : A.ws.Nodup := by
  have hn := h.nd
  clear h
  induction K with
  | nil => cases hA
  | cons B K ih =>
    simp only [List.flatMap_cons] at hn
    rcases List.mem_cons.1 hA with rfl | hA
    · exact (List.nodup_append.1 hn).1
    · exact ih hA (List.nodup_append.1 hn).2.1
theorem len_le {L M T : Nat} {said : List Hw.Rl} {ls : List Hw.Ln} {P : Hw.Pl} {K : List Hw.KE} {Q ex : List Hw.Wd} (h : Hw.DI L M said ls P K Q ex T) (hL : L ≤ 3) (hM : M ≤ 6) {A : Hw.KE} (hA : A ∈ K) : A.ws.length ≤ 1093 := by
  have hn := h.n_le hL hM
  refine Nat.le_trans ?_ hn
  unfold Hw.nw
  exact le_sum (List.mem_map_of_mem hA)

set_option maxRecDepth 20000 in
set_option maxHeartbeats 6400000 in
theorem join_any (w : World) (base d bm L M pm qb : Nat) (lv iv0 : Value) (said : List Hw.Rl) (ls ls0 : List Hw.Ln) (P : Hw.Pl) (K : List KM) (Q ex : List Hw.Wd) (T : Nat) (c k1 l1 k2 l2 : Nat) (x y : Hw.Wd) (hL1 : 1 ≤ L) (hL3 : L ≤ 3) (hM6 : M ≤ 6) (hD : DM w base d bm L M pm qb lv iv0 said ls P K Q) (hI : Hw.DI L M said ls0 P (kes K) Q ex T) (he : Hw.Ext ls0 ls 1) (hJ : JIn L ls P K c k1 l1 k2 l2 x y) :
    Calls Tryz.prog 57 #[.pointer (some ⟨d, 0, none⟩), .int .i64 (c : Int)] w fun e w' => e = .returned (.tuple #[]) ∧ ∃ lv' iv' ls' P' K' Q', DS w w' base d bm L M pm qb lv' iv' said P ls' P' K' Q' ex T ∧ Hw.Tog P' x y ∧ ∃ N, Hw.Ext ls ls' N := by
  have hlen := (hI.bound hL3 hM6).2.1
  have hlen2 := he.len
  obtain ⟨g, cap, rfl, hgl, hline⟩ := hD.sh.line hJ.line
  have hcl := hJ.line.lt
  obtain ⟨n1, hn1, hx1, hy1⟩ := hJ.line
  obtain ⟨_, a1, a2, _⟩ := hline c n1 hn1
  rw [hx1] at a1
  rw [hy1] at a2
  have c0 := cellAt hD.sh.blk (j := 0) (v := .slice (some ⟨g, 0, none⟩) ls.length cap) rfl
  have hdl : d < w.heap.size := lt_of_block hD.sh.blk
  have hcI : (c : Int) < (ls.length : Int) := by omega
  -- the two kinds
  obtain ⟨A, hA, eA, hxA⟩ := hI.only x k1 l1 hJ.px
  obtain ⟨B, hB, eB, hyB⟩ := hI.only y k2 l2 hJ.py
  obtain ⟨A, hA0, rfl⟩ := List.mem_map.1 hA
  obtain ⟨B, hB0, rfl⟩ := List.mem_map.1 hB
  clear hA hB
  have hA := hA0
  have hB := hB0
  clear hA0 hB0
  obtain rfl : A.k = k1 := eA
  obtain rfl : B.k = k2 := eB
  have HD := hide hD
  have HI := hide hI
  have HJ := hide hJ
  clear hD hI hline hn1 hx1 hy1 hJ
  have hfld := field0
  go_enter Tryz.func57, Tryz.ntmps57
  have c0d : w.drew.cell? ⟨d, 0, none⟩ = some (.slice (some ⟨g, 0, none⟩) ls.length cap) := c0
  have a1d : w.drew.cell? ⟨g, c * 8 + 1, none⟩ = some (.string ⟨x.toArray⟩) := a1
  have a2d : w.drew.cell? ⟨g, c * 8 + 2, none⟩ = some (.string ⟨y.toArray⟩) := a2
  have b0d : Below w.heap.size w w.drew := below_same (drew_same w)
  have X0 := hide (atc0 HD.out HJ.out.x6 HJ.out.px w.drew (below_same (drew_same w)))
  have X1 := hide (atc1d HD.out HJ.out.x6 HJ.out.px)
  have X2 := hide (atc2d HD.out HJ.out.x6 HJ.out.px)
  have Y0 := hide (atc0 HD.out HJ.out.y6 HJ.out.py)
  have Y1 := hide (atc1 HD.out HJ.out.y6 HJ.out.py)
  have Y2 := hide (atc2 HD.out HJ.out.y6 HJ.out.py)
  go_wp2_with fail
  go_cut [4, 5] from 10 (fun t4 t5 wx => ∃ B1 B2 : Nat, t4 = .pointer (some ⟨B1, 0, none⟩) ∧ t5 = .pointer (some ⟨B2, 0, none⟩) ∧ Hid (JA w wx base d bm L M pm qb (.slice (some ⟨g, 0, none⟩) ls.length cap) iv0 said ls P K Q (Hw.nw (kes K) + Hw.sF (kes K)) B1 B2 A.k l1 B.k l2))
  case first =>
    go_region_held3 (fun w' => w'.cell? ⟨d, 0, none⟩ = some (.slice (some ⟨g, 0, none⟩) ls.length cap) ∧ w'.cell? ⟨g, c * 8 + 1, none⟩ = some (.string ⟨x.toArray⟩) ∧ w'.cell? ⟨g, c * 8 + 2, none⟩ = some (.string ⟨y.toArray⟩) ∧ Below w.heap.size w w')
      (first
        | (with_reducible exact ⟨c0d, a1d, a2d, b0d⟩)
        | (with_reducible exact ⟨v0, v1, v2, vb⟩)
        | (with_reducible exact ⟨u0, u1, u2, ub⟩)
        | (refine ⟨?_, ?_, ?_, ?_⟩ <;> (repeat (first | (with_reducible exact u0) | (with_reducible exact u1) | (with_reducible exact u2) | (with_reducible exact ub) | (with_reducible exact v0) | (with_reducible exact v1) | (with_reducible exact v2) | (with_reducible exact vb) | (with_reducible exact c0d) | (with_reducible exact a1d) | (with_reducible exact a2d) | (with_reducible exact b0d) | (with_reducible exact c0) | (with_reducible exact a1) | (with_reducible exact a2) | (with_reducible exact (Below.refl _ _)) | (with_reducible apply drew_far) | (with_reducible refine Below.drew ?_) | (with_reducible apply alloc_far) | ((with_reducible refine set_far ?_ ?_); (first | omega | (simp; omega) | simp)) | ((with_reducible refine Below.alloc ?_ ?_ _); rotate_left; (first | omega | (simp; omega) | simp)) | ((with_reducible refine Below.setCell ?_ ?_ _); rotate_left; (first | omega | (simp; omega) | simp))))))
      (first
        | (have hh2 := vb; clear hh2; go_at_call 85; (first
            | (have hc := Y2.out w1 vb; (with_reducible refine Calls.mono hc ?_); clear hc; rintro e w2 ⟨⟨rfl, ub, uc, us⟩, R0, R1⟩; have u0 := (ub.cell (p := ⟨d, 0, none⟩) hdl).trans c0; have u1 := (ub.cell (p := ⟨g, c * 8 + 1, none⟩) hgl).trans a1; have u2 := (ub.cell (p := ⟨g, c * 8 + 2, none⟩) hgl).trans a2; have uz := ub.size; have uz1 := us; have R0c := R0.c0; have R0d := R0.c1; have R0f := R0.f0; have R0g := R0.f1; have R0z := R0.lt; have R0n : w1.heap.size ≠ w2.heap.size := Nat.ne_of_lt R0.lt; have R0m : w2.heap.size ≠ w1.heap.size := Nat.ne_of_gt R0.lt; have R1c := R1.c0; have R1d := R1.c1; have R1f := R1.f0; have R1g := R1.f1; have R1z := R1.lt; have R1n : (w1.heap.size + 1) ≠ w2.heap.size := Nat.ne_of_lt R1.lt; have R1m : w2.heap.size ≠ (w1.heap.size + 1) := Nat.ne_of_gt R1.lt)
            | (have hc := Y1.out w1 vb; (with_reducible refine Calls.mono hc ?_); clear hc; rintro e w2 ⟨⟨rfl, ub, uc, us⟩, R0⟩; have u0 := (ub.cell (p := ⟨d, 0, none⟩) hdl).trans c0; have u1 := (ub.cell (p := ⟨g, c * 8 + 1, none⟩) hgl).trans a1; have u2 := (ub.cell (p := ⟨g, c * 8 + 2, none⟩) hgl).trans a2; have uz := ub.size; have uz1 := us; have R0c := R0.c0; have R0d := R0.c1; have R0f := R0.f0; have R0g := R0.f1; have R0z := R0.lt; have R0n : w1.heap.size ≠ w2.heap.size := Nat.ne_of_lt R0.lt; have R0m : w2.heap.size ≠ w1.heap.size := Nat.ne_of_gt R0.lt; (try (have U0 := uc _ T0; have U0c := U0.c0; have U0d := U0.c1; have U0f := U0.f0; have U0g := U0.f1; have U0z := U0.lt; have U0n : w.heap.size ≠ w2.heap.size := Nat.ne_of_lt U0.lt; have U0m : w2.heap.size ≠ w.heap.size := Nat.ne_of_gt U0.lt)); (try (have U1 := uc _ T1; have U1c := U1.c0; have U1d := U1.c1; have U1f := U1.f0; have U1g := U1.f1; have U1z := U1.lt; have U1n : (w.heap.size + 1) ≠ w2.heap.size := Nat.ne_of_lt U1.lt; have U1m : w2.heap.size ≠ (w.heap.size + 1) := Nat.ne_of_gt U1.lt)); (try (have tn0 : w.heap.size ≠ w1.heap.size := Nat.ne_of_lt T0.lt; have tm0 : w1.heap.size ≠ w.heap.size := Nat.ne_of_gt T0.lt)))
            | (have hc := Y0.out w1 vb; (with_reducible refine Calls.mono hc ?_); clear hc; rintro e w2 ⟨rfl, ub, uc, us⟩; have u0 := (ub.cell (p := ⟨d, 0, none⟩) hdl).trans c0; have u1 := (ub.cell (p := ⟨g, c * 8 + 1, none⟩) hgl).trans a1; have u2 := (ub.cell (p := ⟨g, c * 8 + 2, none⟩) hgl).trans a2; have uz := ub.size; have uz1 := us; (try (have U0 := uc _ T0; have U0c := U0.c0; have U0d := U0.c1; have U0f := U0.f0; have U0g := U0.f1; have U0z := U0.lt; have U0n : w.heap.size ≠ w2.heap.size := Nat.ne_of_lt U0.lt; have U0m : w2.heap.size ≠ w.heap.size := Nat.ne_of_gt U0.lt)); (try (have U1 := uc _ T1; have U1c := U1.c0; have U1d := U1.c1; have U1f := U1.f0; have U1g := U1.f1; have U1z := U1.lt; have U1n : (w.heap.size + 1) ≠ w2.heap.size := Nat.ne_of_lt U1.lt; have U1m : w2.heap.size ≠ (w.heap.size + 1) := Nat.ne_of_gt U1.lt)); (try (have tn0 : w.heap.size ≠ w1.heap.size := Nat.ne_of_lt T0.lt; have tm0 : w1.heap.size ≠ w.heap.size := Nat.ne_of_gt T0.lt)))))
        | (go_at_call 85; (first
            | (have hc := X2.out; (with_reducible refine Calls.mono hc ?_); clear hc; rintro e w1 ⟨⟨rfl, vb, vc, vs⟩, T0, T1⟩; have v0 := (vb.cell (p := ⟨d, 0, none⟩) hdl).trans c0; have v1 := (vb.cell (p := ⟨g, c * 8 + 1, none⟩) hgl).trans a1; have v2 := (vb.cell (p := ⟨g, c * 8 + 2, none⟩) hgl).trans a2; have vz := vb.size)
            | (have hc := X1.out; (with_reducible refine Calls.mono hc ?_); clear hc; rintro e w1 ⟨⟨rfl, vb, vc, vs⟩, T0⟩; have v0 := (vb.cell (p := ⟨d, 0, none⟩) hdl).trans c0; have v1 := (vb.cell (p := ⟨g, c * 8 + 1, none⟩) hgl).trans a1; have v2 := (vb.cell (p := ⟨g, c * 8 + 2, none⟩) hgl).trans a2; have vz := vb.size)
            | (have hc := X0.out; (with_reducible refine Calls.mono hc ?_); clear hc; rintro e w1 ⟨rfl, vb, vc, vs⟩; have v0 := (vb.cell (p := ⟨d, 0, none⟩) hdl).trans c0; have v1 := (vb.cell (p := ⟨g, c * 8 + 1, none⟩) hgl).trans a1; have v2 := (vb.cell (p := ⟨g, c * 8 + 2, none⟩) hgl).trans a2; have vz := vb.size))))
    all_goals
      go_wp2_with fail
      go_meet
      refine ⟨_, _, rfl, rfl, ?_⟩
      first
        | (with_reducible exact (jf4a HD.out ub))
        | (with_reducible exact (jf4b HD.out ub))
        | (with_reducible exact (jf2 HD.out ub U0 (Nat.le_refl _)))
        | (with_reducible exact (jf3 HD.out ub U0 (Nat.le_refl _)))
        | (with_reducible exact (jf2 HD.out ub U1 (le_up (Nat.le_refl _))))
        | (with_reducible exact (jf3 HD.out ub U1 (le_up (Nat.le_refl _))))
        | (with_reducible exact (jf2 HD.out ub R0 vz))
        | (with_reducible exact (jf3 HD.out ub R0 vz))
        | (with_reducible exact (jf2 HD.out ub R1 (le_up vz)))
        | (with_reducible exact (jf3 HD.out ub R1 (le_up vz)))
        | (with_reducible exact (jf1 HD.out ub R0 R1 vz (le_up vz) (ne_up _)))
        | (with_reducible exact (jf1 HD.out ub R1 R0 (le_up vz) vz (up_ne _)))
        | (with_reducible exact (jf1 HD.out ub U0 U1 (Nat.le_refl _) (le_up (Nat.le_refl _)) (ne_up _)))
        | (with_reducible exact (jf1 HD.out ub U1 U0 (le_up (Nat.le_refl _)) (Nat.le_refl _) (up_ne _)))
        | (with_reducible exact (jf1 HD.out ub U0 R0 (Nat.le_refl _) vz tn0))
        | (with_reducible exact (jf1 HD.out ub R0 U0 vz (Nat.le_refl _) tm0))
  case rest =>
    obtain ⟨B1, B2, rfl, rfl, HJA⟩ := hcut
    clear X0 X1 X2 Y0 Y1 Y2 c0d a1d a2d b0d a1 a2 c0
    obtain ⟨sA, cA, eA, kA0, kA1⟩ := (HJA.out.1.kd A hA).lens
    obtain ⟨sB, cB, eB, kB0, kB1⟩ := (HJA.out.1.kd B hB).lens
    have x0 := HJA.out.2.2.1.c0
    have y0 := HJA.out.2.2.2.c0
    have hlA : A.ws.length ≤ 1093 := len_le HI.out hL3 hM6 (mem_kes hA)
    have hlB : B.ws.length ≤ 1093 := len_le HI.out hL3 hM6 (mem_kes hB)
    go_wp2_with fail
    go_quiet (fail)
    have HJ2 := hide (HJA.out.same (wy := wc.drewN nq) ⟨rfl, rfl, rfl, rfl⟩)
    clear HJA kA0 kA1 kB0 kB1 x0 y0
    generalize wc.drewN nq = wd at HJ2 ⊢
    go_upto_if 44 with fail
    go_cut [1] from 32 (fun t1 wx => ∃ (c1 lA lB : Nat) (lv1 : Value) (ls1 : List Hw.Ln) (A' B' : KM) (a b : Hw.Wd), t1 = .int .i64 (c1 : Int) ∧ Hid (JB w wx base d bm L M pm qb lv1 iv0 said ls1 ls P K Q (Hw.nw (kes K) + Hw.sF (kes K)) B1 B2 c1 lA lB A' B' a b x y))
    case first =>
      by_cases hle : A.ws.length ≤ B.ws.length
      · go_wp2_with fail
        go_meet
        exact ⟨c, l1, l2, _, ls, A, B, x, y, rfl, HJ2.out.1, HJ2.out.2.1, HJ2.out.2.2.1, HJ2.out.2.2.2, Hw.Ext.refl _ _, HJ.out.line, hA, hB, HJ.out.px, HJ.out.py, HJ.out.ne, hle, .inl ⟨rfl, rfl⟩⟩
      · have hlt : B.ws.length < A.ws.length := by omega
        have x0 := HJ2.out.2.2.1.c0
        have x1 := HJ2.out.2.2.1.c1
        have y0 := HJ2.out.2.2.2.c0
        have y1 := HJ2.out.2.2.2.c1
        have hBB : B2 ≠ B1 := by
          rintro rfl
          have := x0.symm.trans y0
          simp [HJ.out.ne] at this
        have HJ3 := hide (HJ2.out.same (drew_same wd))
        go_wp2_with fail
        go_region_with
          (first
            | (go_at_call 86; refine (back_any _ base d bm L M pm qb _ said ls c x y HJ.out.line HJ3.out.1.sh (by omega) HJ3.out.1.size).mono ?_; rintro e w3 ⟨c3, lv3, ls3, rfl, hs3, hy3⟩; have HW3 := hide (HJ3.out.sheet hs3); have p0 := HW3.out.2.2.1.c0; have p1 := HW3.out.2.2.1.c1; have p2 := HW3.out.2.2.2.c0; have p3 := HW3.out.2.2.2.c1; have pf := HW3.out.2.2.1.ty.frozen; have pg := HW3.out.2.2.2.ty.frozen; have HSW := hide (jb_swap HJ2.out hA hB HJ.out.px HJ.out.py HJ.out.ne hlt (drew_same wd) hs3 hy3 ⟨rfl, rfl, rfl, rfl⟩); clear hs3 hy3))
        all_goals
          go_wp2_with fail
          go_meet
          exact ⟨c3, l2, l1, lv3, ls3, B, A, y, x, rfl, HSW.out⟩
    case rest =>
      obtain ⟨c1, lA, lB, lv1, ls1, A', B', a, b, rfl, HJB⟩ := hcut
      clear HJ2 hfld
      have hel := HJB.out.ext.len
      -- the roots
      obtain ⟨rA, hrA⟩ := HI.out.root A'.ke (mem_kes HJB.out.mA)
      obtain ⟨rB, hrB⟩ := HI.out.root B'.ke (mem_kes HJB.out.mB)
      obtain ⟨A2, hA2, eA2, haA⟩ := HI.out.only a _ _ HJB.out.pa
      obtain ⟨B2', hB2, eB2, hbB⟩ := HI.out.only b _ _ HJB.out.pb
      have eA3 : A2 = A'.ke := Hw.k_inj HI.out.ids hA2 (mem_kes HJB.out.mA) eA2
      have eB3 : B2' = B'.ke := Hw.k_inj HI.out.ids hB2 (mem_kes HJB.out.mB) eB2
      subst eA3 eB3
      have hbs : Hw.Says ls0 lB b rB := by
        obtain ⟨l, h1, h2⟩ := hrB b hbB
        rw [HJB.out.pb] at h1; cases h1; exact h2
      have has : Hw.Says ls0 lA a rA := by
        obtain ⟨l, h1, h2⟩ := hrA a haA
        rw [HJB.out.pa] at h1; cases h1; exact h2
      have HBS := hide hbs
      have HAS := hide has
      have HRA := hide hrA
      have HRB := hide hrB
      clear hbs has hrA hrB hA2 hB2 eA2 eB2
      have y1 := HJB.out.b2.c1
      go_wp2_with fail
      go_region_with
        (first
          | (go_at_call 87; refine (then_any _ base d bm L M pm qb _ said ls1 c1 lB a b rB HJB.out.line (HJB.out.ext.says (he.says HBS.out)) (by exact (HJB.out.dm.same (drew_same wc)).sh) (by omega) (by exact (HJB.out.dm.same (drew_same wc)).size)).mono ?_; rintro e w3 ⟨c3, lv3, ls3, rfl, hs3, hy3⟩; have HT := hide (And.intro hs3 hy3); clear hs3 hy3))
      have HB0 : Hid (JL w w3 base d bm L M pm qb iv0 said ls3 P K Q (Hw.nw (kes K) + Hw.sF (kes K)) B1 B2 lA lB A' B' rB 0 lv3 ls3 P) := jl_start HJB.out HT.out.1
      have hx3 := HT.out.1.ext.len
      obtain ⟨sA', cA', eA', kA0', kA1'⟩ := (HB0.out.dm.kd A' HJB.out.mA).lens
      have x0 := HB0.out.b1.c0
      have hlA' : A'.ws.length ≤ 1093 := len_le HI.out hL3 hM6 (mem_kes HJB.out.mA)
      clear y1
      go_wp2_with fail
      clear x0 kA0' kA1'
      have hnd : A'.ws.Nodup := ws_nodup HI.out (mem_kes HJB.out.mA)
      have HYE := hide HT.out.2
      have hle := HJB.out.le
      go_loopw [65] (fun iv wr => ∃ (j : Nat) (lv' : Value) (ls' : List Hw.Ln) (P' : Hw.Pl), j ≤ A'.ws.length ∧ iv = .int .i64 (j : Int) ∧ Hid (JL w wr base d bm L M pm qb iv0 said ls3 P K Q (Hw.nw (kes K) + Hw.sF (kes K)) B1 B2 lA lB A' B' rB j lv' ls' P')) (fun iv _ => A'.ws.length - (intOf iv).toNat)
      case atStart => exact ⟨0, lv3, ls3, P, Nat.zero_le _, rfl, HB0.out⟩
      case round =>
        obtain ⟨j, lv', ls', P', hj, rfl, HL⟩ := hrel
        by_cases hlt : j < A'.ws.length
        · have hnb := HI.out.bound hL3 hM6
          have hsf := Hw.sF_le hnb.1
          have hel' := HL.out.ext.len
          obtain ⟨gA, capA, curA, eAv, hbA, hgA, _, _, _, htA⟩ := (HL.out.dm.kd A' HJB.out.mA).own.read (by omega)
          rw [eA'] at eAv
          simp only [Value.slice.injEq] at eAv
          obtain ⟨rfl, -, rfl⟩ := eAv
          have cw := cell_word hgA htA hlt
          have hwd : Hw.isWord L M A'.ws[j] = true := HI.out.placed (mem_kes HJB.out.mA) (List.getElem_mem hlt)
          have hw6 : (A'.ws[j]).length ≤ 6 := by have := Hw.isWord_len hwd; omega
          obtain ⟨l, hPl, hsl⟩ := HRA.out A'.ws[j] (List.getElem_mem hlt)
          have hnot : A'.ws[j] ∉ A'.ws.take j := by
            intro hm
            have hnd2 := hnd
            rw [← List.take_append_drop (j + 1) A'.ws, List.take_succ_eq_append_getElem hlt] at hnd2
            exact (List.nodup_append.1 (List.nodup_append.1 hnd2).1).2.2 _ hm _ (by simp) rfl
          have hP' : P' A'.ws[j] = some (A'.k, l) := by rw [HL.out.old _ hnot]; exact hPl
          have HJN : Hid (∀ wr2 w3' w4 lv3' ls3' c3' F, Below wr.heap.size wr wr2 → ShS wr2 w3' base d bm L M pm qb lv' lv3' said ls' ls3' 3 → Hw.Says ls3' c3' A'.ws[j] rB → (∀ s : Hw.Wd, F (.string s) = (P' s).map pv) → MapIs w4 9 pm (Hw.nw (kes K) + Hw.sF (kes K) + j + 1) (setF F (.string A'.ws[j]) (.agg #[.pointer (some ⟨B'.k, 0, none⟩), .int .i64 (c3' : Int)])) → w3'.grownBy w4 (some pm) → JL w w4 base d bm L M pm qb iv0 said ls3 P K Q (Hw.nw (kes K) + Hw.sF (kes K)) B1 B2 lA lB A' B' rB (j + 1) lv3' ls3' (P'.set A'.ws[j] (B'.k, c3'))) :=
            fun wr2 w3' w4 lv3' ls3' c3' F h1 h2 h3 h4 h5 h6 => jl_next HL.out hlt hnd h1 h2 h3 h4 h5 h6
          have hroom : Hw.nw (kes K) + Hw.sF (kes K) + j < maxLen := by unfold maxLen; omega
          generalize A'.ws[j] = wd at *
          have hsa : Hw.Says ls' l wd rA := HL.out.ext.says (HT.out.1.ext.says (HJB.out.ext.says (he.says hsl)))
          have hsb : Hw.Says ls' lA a rA := HL.out.ext.says (HT.out.1.ext.says (HJB.out.ext.says (he.says HAS.out)))
          have hse : Hw.Says ls' c3 a rB := HL.out.ext.says HYE.out
          have HSA := hide hsa
          have HSB := hide hsb
          have HSE := hide hse
          have HP' := hide hP'
          have d4 : wr.cell? ⟨d, 4, none⟩ = some (.map (some pm)) := cellAt HL.out.dm.sh.blk rfl
          have e1 := HL.out.b1.c1
          have e2 := HL.out.b2.c0
          have hfld := field1
          clear hsa hsb hse hP' hPl hsl hnot hwd hgA htA
          have d4d : wr.drew.cell? ⟨d, 4, none⟩ = some (.map (some pm)) := d4
          have e1d : wr.drew.cell? ⟨B1, 1, none⟩ = some (.int .i64 (lA : Int)) := e1
          have e2d : wr.drew.cell? ⟨B2, 0, none⟩ = some (.pointer (some ⟨B'.k, 0, none⟩)) := e2
          have HDr := hide (HL.out.dm.same (drew_same wr))
          go_wp2_with fail
          go_region_held3 (fun w' => w'.cell? ⟨d, 4, none⟩ = some (.map (some pm)) ∧ w'.cell? ⟨B1, 1, none⟩ = some (.int .i64 (lA : Int)) ∧ w'.cell? ⟨B2, 0, none⟩ = some (.pointer (some ⟨B'.k, 0, none⟩)))
            (first
              | (with_reducible exact ⟨d4d, e1d, e2d⟩)
              | (with_reducible exact ⟨p4, p1, p2⟩)
              | (with_reducible exact ⟨q4, q1, q2⟩)
              | (with_reducible exact ⟨r4, r1, r2⟩)
              | (with_reducible exact ⟨s4, s1, s2⟩))
            (first
              | (go_at_call 85; refine (at_old _ base d bm L M pm qb lv' iv0 said ls' P' K Q wd A'.k l _ hw6 HDr.out HP'.out).mono ?_; rintro e w1 ⟨rfl, hb1⟩; have HB1 := hide (below_trans (below_same (drew_same wr)) hb1); have HD1 := hide (HL.out.dm.below HB1.out); have HX1 := hide (HL.out.b1.kept (S := []) (Kept.of_below_size HB1.out) (by simp)); have HX2 := hide (HL.out.b2.kept (S := []) (Kept.of_below_size HB1.out) (by simp)); have p4 : w1.cell? ⟨d, 4, none⟩ = some (.map (some pm)) := cellAt HD1.out.sh.blk rfl; have p1 := HX1.out.c1; have p2 := HX2.out.c0; clear hb1)
              | (go_at_call 88; refine (meet_any base d bm L M pm qb said l lA w1 lv' ls' wd rA a HSA.out HSB.out HD1.out.sh (by omega) HD1.out.size).mono ?_; rintro e w2 ⟨c2, lv2, ls2', rfl, hs2, hy2⟩; have HS2 := hide hs2; have HY2 := hide hy2; have HD2 := hide (HD1.out.sheet hs2).1; have HV1 := hide (HX1.out.kept hs2.kept (HD1.out.box_free HX1.out.ty)); have HV2 := hide (HX2.out.kept hs2.kept (HD1.out.box_free HX2.out.ty)); have q4 : w2.cell? ⟨d, 4, none⟩ = some (.map (some pm)) := cellAt HD2.out.sh.blk rfl; have q1 := HV1.out.c1; have q2 := HV2.out.c0; have hl2 := hs2.ext.len; clear hs2 hy2)
              | (go_at_call 87; refine (then_any w2 base d bm L M pm qb lv2 said ls2' c2 c3 wd a rB HY2.out (HS2.out.ext.says HSE.out) HS2.out.sh (by omega) HD2.out.size).mono ?_; rintro e w3' ⟨c4, lv4, ls4, rfl, hs4, hy4⟩; have HS3 := hide (HS2.out.trans hs4); have HD3 := hide (HD1.out.sheet HS3.out).1; have r4 : w3'.cell? ⟨d, 4, none⟩ = some (.map (some pm)) := cellAt HD3.out.sh.blk rfl; have r1 := (HV1.out.kept hs4.kept (HD2.out.box_free HV1.out.ty)).c1; have r2 := (HV2.out.kept hs4.kept (HD2.out.box_free HV2.out.ty)).c0; obtain ⟨F3, hF3, hF3p⟩ := HD3.out.pl; obtain ⟨w4, hrun, hm4, hg4⟩ := hF3.update (t := 115) (val := .agg #[.pointer (some ⟨B'.k, 0, none⟩), .int .i64 (c4 : Int)]) (Maps.string_keyed Tryz.underlying9) Tryz.underlying115 hroom (str_key wd hw6); have HN := hide (HJN.out w1 w3' w4 lv4 ls4 c4 F3 HB1.out HS3.out hy4 hF3p hm4 hg4); have s4 : w4.cell? ⟨d, 4, none⟩ = some (.map (some pm)) := cellAt HN.out.dm.sh.blk rfl; have s1 := HN.out.b1.c1; have s2 := HN.out.b2.c0; clear hs4 hy4 hm4 hg4 hF3 hF3p))
          all_goals
            clear d4 e1 e2 d4d e1d e2d p4 p1 p2 q4 q1 q2 r4 r1 r2 s4 s1 s2 hrun hfld cw
            go_wp2
            go_roundw
            case rel => exact ⟨j + 1, lv4, ls4, _, by omega, by go_num, HN.out⟩
            case measure => simp [intOf]; omega
        · have hjl : j = A'.ws.length := by omega
          have HL2 := hide (jl_end HL.out hjl)
          clear HL hjl
          have x0 := HL2.out.b1.c0
          have y0 := HL2.out.b2.c0
          obtain ⟨sA2, cA2, eA3, kA2, kA3⟩ := (HL2.out.dm.kd A' HJB.out.mA).lens
          obtain ⟨sB2, cB2, eB3, kB2, kB3⟩ := (HL2.out.dm.kd B' HJB.out.mB).lens
          have hlB' : B'.ws.length ≤ 1093 := len_le HI.out hL3 hM6 (mem_kes HJB.out.mB)
          obtain ⟨K0, hperm⟩ := perm2 HJB.out.mA HJB.out.mB HJB.out.ne
          have hids : (K.map KM.k).Nodup := by have := HI.out.ids; rwa [kes_k] at this
          have hApos : 0 < A'.ws.length := List.length_pos_of_mem (HI.out.least A'.ke (mem_kes HJB.out.mA)).1
          obtain ⟨gA, capA, curA, eAv, hbA, hgA, _, _, _, htA⟩ := (HL2.out.dm.kd A' HJB.out.mA).own.read hApos
          rw [eA3] at eAv
          simp only [Value.slice.injEq] at eAv
          obtain ⟨rfl, -, rfl⟩ := eAv
          have HNEW : Hid (∀ i u, (scells A'.ws)[i]? = some u → wr.drew.cell? ((⟨gA, 0, none⟩ : Addr).add i) = some u) := strs_cells hgA htA
          have HOWN : Hid (wr.drew.ownsRow base 9 1 (.slice sB2 B'.ws.length cB2) B'.ws.length (scells B'.ws)) := by
            have := (HL2.out.dm.kd B' HJB.out.mB).own; rw [eB3] at this; exact this
          have HAPP := hide (fun v' w1 => jf_append (v' := v') (w1 := w1) HL2.out hperm hids (drew_same wr))
          rw [eB3] at HAPP
          obtain ⟨i0, hi0, hz0, hz1, hz2⟩ := info_parts Tryz.infoStr
          have HI0 := hide hi0
          have HZ0 := hide hz0
          have HZ1 := hide hz1
          have HZ2 := hide hz2
          have hsz := HL2.out.dm.size
          clear hi0 hz0 hz1 hz2 hgA htA
          go_wp2_with fail
          go_cut [] from 93 (fun wx => ∃ rvN : Value, Hid (JF w wx base d bm L M pm qb iv0 said P K0 Q (Hw.nw (kes K) + Hw.sF (kes K) + A'.ws.length) B1 B2 lA lB A' B' rvN lv' ls' P'))
          case first =>
            go_region_law (refine step_append_exact rfl (.tmp 99) (.tmp 104) 60 rfl base 9 i0 (.string ⟨#[]⟩) 1 16 Tryz.underlying60 HI0.out HZ0.out HZ1.out HZ2.out rfl (by decide) (.slice sB2 B'.ws.length cB2) B'.ws.length (scells B'.ws) (by simp [Act.eval, Act.put]) (by exact HOWN.out) ⟨gA, 0, none⟩ A'.ws.length cA2 (scells A'.ws) (by simp [Act.eval, Act.put]) (by simp [scells]) (by exact HNEW.out) (scells_one A'.ws) (by unfold maxLen; omega) (by omega) (by exact hsz) ?_; intro v' w1 hown hgrow hex; have R := HAPP.out v' w1 hown hgrow hex; obtain ⟨g2, cap2, rfl⟩ := own_shape2 hown (by omega); have z0 := cellAt R.1 (j := 0) (v := .slice sB2 B'.ws.length cB2) rfl; have zf := frozen_of_row w1 B'.k 0 _ _ R.1; have z2 := (R.2.1 _ _ _ HL2.out.b2).c0; have HR := hide R.2.2; clear R hown hgrow hex)
            all_goals
              go_wp2_with fail
              go_meet
              exact ⟨_, HR.out⟩
          case rest =>
            obtain ⟨rvN, HJF⟩ := hcut
            have HJE := hide (And.intro HL2.out.ext (And.intro HL2.out.old HL2.out.new))
            clear HL2 HNEW HOWN HAPP kA2 kA3 kB2 kB3 x0 y0
            have x0 := HJF.out.b1.c0
            have y0 := HJF.out.b2.c0
            have ka := HJF.out.ka
            have hwA : Hw.isWord L M A'.m = true := HI.out.placed (mem_kes HJB.out.mA) (HI.out.least A'.ke (mem_kes HJB.out.mA)).1
            have hwB : Hw.isWord L M B'.m = true := HI.out.placed (mem_kes HJB.out.mB) (HI.out.least B'.ke (mem_kes HJB.out.mB)).1
            have hK0 : ∀ C, C ∈ K0 → C.k ≠ B'.k := k0_ne hperm hids
            have HKB := hide (HJF.out.dm.kd _ (List.mem_cons_self)).blk
            go_wp2_with fail
            go_region_with
              (first
                | (go_at_call 89; refine (lessen_any _ L M B'.k rvN A'.m B'.m hL1 hL3 hwA hwB (by exact HKB.out)).mono ?_; rintro e w2 ⟨rfl, hk2, hb2⟩; have HG := hide (jg_less HJF.out hk2 hb2 hK0); clear hk2 hb2))
            all_goals
              have m3 : w2.cell? ⟨d, 3, none⟩ = some (.int .i64 (M : Int)) := cellAt HG.out.dm.sh.blk rfl
              have m5 : w2.cell? ⟨d, 5, none⟩ = some (.pointer (some ⟨qb, 0, none⟩)) := cellAt HG.out.dm.sh.blk rfl
              have HE2 : Hid (Hw.Ext ls0 ls' (3 + 3 * A'.ws.length)) := ext4 he HJB.out.ext HT.out.1.ext HJE.out.1
              have HE3 : Hid (∃ N, Hw.Ext ls ls' N) := ⟨_, (HJB.out.ext.trans HT.out.1.ext).trans HJE.out.1⟩
              have hl6 : (Hw.lost L A'.m B'.m).length ≤ 6 := by
                have h1 := Hw.isWord_len hwA
                have h2 := Hw.isWord_len hwB
                unfold Hw.lost; split <;> omega
              clear x0 y0 ka
              by_cases hlo : (Hw.lost L A'.m B'.m).length < M
              · generalize hLo : Hw.lost L A'.m B'.m = lo at *
                have hQl := (HI.out.bound hL3 hM6).2.2
                go_wp2_with fail
                refine (Qs.put_any w2 base qb iv0 Q lo (by omega) HG.out.dm.q HG.out.dm.size).mono ?_
                rintro e w5 ⟨rfl, iv', Q', hput⟩
                have HZ := hide (HG.out.dm.queue hput.kept hput.fresh hput.q)
                have HP := hide hput
                clear hput
                go_wp2
                go_end0
                refine ⟨rfl, lv', iv', ls', P', _, Q', and_and (join_done hL3 HG.out HI.out hperm hle HE2.out HJE.out.2.1 HJE.out.2.2 HRB.out haA hbB HJB.out.xy HZ.out.1 (HG.out.low.trans HZ.out.2) (fun z hz => (HP.out.mem z).2 (.inl hz)) (fun z hz => ?_) (by rw [HP.out.len]; exact Nat.le_refl _) (fun _ => by rw [hLo]; exact (HP.out.mem lo).2 (.inr rfl))) HE3.out⟩
                rcases (HP.out.mem z).1 hz with h | h
                · exact .inl h
                · exact .inr ⟨by rw [hLo]; exact h, by rw [h]; exact hlo⟩
              · generalize hLo : Hw.lost L A'.m B'.m = lo at *
                go_wp2
                go_end0
                exact ⟨rfl, lv', iv0, ls', P', _, Q, and_and (join_done hL3 HG.out HI.out hperm hle HE2.out HJE.out.2.1 HJE.out.2.2 HRB.out haA hbB HJB.out.xy HG.out.dm HG.out.low (fun z hz => hz) (fun z hz => .inl hz) (Nat.le_succ _) (fun h => absurd (by rw [← hLo]; exact h) hlo)) HE3.out⟩
end Dr
end Go.Proofs.YtfiebibpgbadlaaGreat
