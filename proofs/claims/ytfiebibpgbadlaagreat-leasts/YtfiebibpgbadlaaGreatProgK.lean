import Derived.Test.YtfiebibpgbadlaaGreatProgJ
namespace Go.Proofs.YtfiebibpgbadlaaGreat
open Go.RowKit
set_option linter.unusedVariables false
set_option linter.unusedSimpArgs false

/-- What two rules make of one word. -/
def Lap (M : Nat) (a b : Hw.Rl) (k : Nat) (e : Hw.Rl) : Prop := ∃ p o q, a.1 = p ++ o ∧ b.1 = o ++ q ∧ p ≠ [] ∧ o ≠ [] ∧ q ≠ [] ∧ (p ++ o ++ q).length ≤ M ∧ o.length < k ∧ e = (a.2 ++ q, p ++ b.2)

structure CrossI (w wr : World) (B sb qb M : Nat) (rv : Value) (R E : List Hw.Rl) (a b : Hw.Rl) (k : Nat) (E' : List Hw.Rl) : Prop where
  below : Below B w wr
  sf : SF sb qb none w wr
  ss : SS wr B sb qb M rv R E'
  len : E'.length + 1 ≤ E.length + k
  more : ∀ e, e ∈ E → e ∈ E'
  only : ∀ e, e ∈ E' → e ∈ E ∨ Lap M a b k e
  all : ∀ e, Lap M a b k e → e ∈ E'
  bx1 : wr.heap[w.heap.size]? = some (.cells #[.string ⟨a.1.toArray⟩, .string ⟨a.2.toArray⟩] 77 (0, 0))
  bx2 : wr.heap[w.heap.size + 1]? = some (.cells #[.string ⟨b.1.toArray⟩, .string ⟨b.2.toArray⟩] 77 (0, 0))

theorem ext_take (S : Hw.Wd) (n : Nat) : (⟨S.toArray⟩ : ByteArray).extract 0 n = ⟨(S.take n).toArray⟩ := by
  apply ByteArray.ext; apply Array.ext'; rw [toList_extract]; simp
theorem ext_drop (S : Hw.Wd) (k : Nat) : (⟨S.toArray⟩ : ByteArray).extract k S.length = ⟨(S.drop k).toArray⟩ := by
  apply ByteArray.ext; apply Array.ext'; rw [toList_extract]; simp
theorem quiet_same2 {P : Program} {f : FuncId} {args : Array Value} {w : World} {n1 x : Nat} {v : Value}
    (h : Calls P f args (w.drewN (n1 + x)) fun e w' => e = .returned v ∧ w' = w.drewN (n1 + x)) : Calls P f args (w.drewN (n1 + x)) fun e w'' => e = .returned v ∧ ∃ m, w'' = w.drewN (n1 + m) :=
  h.mono fun _ _ ⟨he, hm⟩ => ⟨he, x, hm⟩

theorem CrossI.move {w wr w1 : World} {B sb qb M : Nat} {rv : Value} {R E E' : List Hw.Rl} {a b : Hw.Rl} {k k' : Nat} (h : CrossI w wr B sb qb M rv R E a b k E') (h1 : SameW wr w1) (hk : k ≤ k') (hl : ∀ e, Lap M a b k' e → Lap M a b k e) : CrossI w w1 B sb qb M rv R E a b k' E' :=
  ⟨h.below.trans ⟨h1.2.1, h1.2.2.1, h1.2.2.2, by rw [h1.1]; exact Nat.le_refl _, fun k _ => by rw [h1.1]⟩, h.sf.trans (SF.of_same h1), h.ss.same h1, by have := h.len; omega, h.more,
    fun e he => (h.only e he).imp id (fun ⟨p, o, q, h1, h2, h3, h4, h5, h6, h7, h8⟩ => ⟨p, o, q, h1, h2, h3, h4, h5, h6, by omega, h8⟩), fun e he => h.all e (hl e he), by rw [h1.1]; exact h.bx1, by rw [h1.1]; exact h.bx2⟩

theorem lap_at {M k : Nat} {a b : Hw.Rl} {p o q : Hw.Wd} (e1 : a.1 = p ++ o) (e2 : b.1 = o ++ q) (ho : o.length = k) (hl : (p ++ o ++ q).length ≤ M) : o = b.1.take k ∧ q = b.1.drop k ∧ p = a.1.take (a.1.length - k) ∧ a.1.length + q.length ≤ M ∧ Lib.hasSuffix a.1 (b.1.take k) = true := by
  subst ho
  have h1 : b.1.take o.length = o := by rw [e2, List.take_left]
  have h2 : b.1.drop o.length = q := by rw [e2, List.drop_left]
  refine ⟨h1.symm, h2.symm, ?_, ?_, ?_⟩
  · rw [e1]; simp
  · rw [e1]; simp at hl ⊢; omega
  · rw [h1, e1]
    unfold Lib.hasSuffix
    exact List.isSuffixOf_iff_suffix.2 (List.suffix_append p o)

theorem cross_no {w wr w1 : World} {B sb qb M : Nat} {rv : Value} {R E E' : List Hw.Rl} {a b : Hw.Rl} {k : Nat} {Q : Hw.Wd} (h : CrossI w wr B sb qb M rv R E a b k E') (h1 : SameW wr w1) (hQ : b.1.drop k = Q)
    (hno : M < a.1.length + Q.length ∨ Lib.hasSuffix a.1 (b.1.take k) = false) : CrossI w w1 B sb qb M rv R E a b (k + 1) E' := by
  refine h.move h1 (by omega) ?_
  rintro e ⟨p, o, q, e1, e2, h3, h4, h5, h6, h7, h8⟩
  by_cases hk : o.length = k
  · obtain ⟨g1, g2, _, g3, g4⟩ := lap_at e1 e2 hk h6
    rcases hno with hno | hno
    · rw [g2, hQ] at g3; omega
    · rw [hno] at g4; cases g4
  · exact ⟨p, o, q, e1, e2, h3, h4, h5, h6, by omega, h8⟩

theorem cross_yes {w wr w2 w3 : World} {B sb qb M D : Nat} {rv : Value} {R E E' E3 : List Hw.Rl} {a b : Hw.Rl} {k : Nat} {P Q : Hw.Wd} (h : CrossI w wr B sb qb M rv R E a b k E') (h2 : SameW wr w2) (hb : Below B w2 w3) (hsf : SF sb qb none w2 w3)
    (hl : E3.length = E'.length + 1) (hm : ∀ e, e ∈ E3 ↔ e ∈ E' ∨ e = (a.2 ++ Q, P ++ b.2)) (hS : SS w3 B sb qb M rv R E3) (hk1 : k < a.1.length) (hk2 : k < b.1.length) (hk0 : 1 ≤ k) (hD : a.1.length - k = D) (hP : a.1.take D = P) (hQ : b.1.drop k = Q)
    (hroom : a.1.length + Q.length ≤ M) (hsuf : Lib.hasSuffix a.1 (b.1.take k) = true) : CrossI w w3 B sb qb M rv R E a b (k + 1) E3 := by
  have hm2 := h.move h2 (Nat.le_refl k) (fun e h => h)
  obtain ⟨ag, iv, items, s1, s2, _⟩ := h.ss.st
  have nsb : ∀ n c, wr.heap[n]? = some (.cells c 77 (0, 0)) → n ≠ sb := by rintro n c e rfl; rw [s1] at e; simp [sblock] at e
  have nqb : ∀ n c, wr.heap[n]? = some (.cells c 77 (0, 0)) → n ≠ qb := by rintro n c e rfl; rw [s2.blk] at e; simp at e
  have hlap : Lap M a b (k + 1) (a.2 ++ Q, P ++ b.2) := by
    unfold Lib.hasSuffix at hsuf
    obtain ⟨t, ht⟩ := List.isSuffixOf_iff_suffix.1 hsuf
    have htk : (b.1.take k).length = k := by rw [List.length_take]; omega
    have hlen : t.length + k = a.1.length := by
      have := congrArg List.length ht
      rw [List.length_append, htk] at this
      exact this
    have hPl : P.length = D := by rw [← hP, List.length_take]; omega
    have hQl : Q.length = b.1.length - k := by rw [← hQ, List.length_drop]
    have htP : P = t := by
      rw [← hP, ← ht]
      have : D = t.length := by omega
      rw [this, List.take_left]
    refine ⟨P, b.1.take k, Q, by rw [htP]; exact ht.symm, by rw [← hQ, List.take_append_drop], ?_, ?_, ?_, ?_, by omega, rfl⟩
    · intro e; rw [e, List.length_nil] at hPl; omega
    · intro e; rw [e, List.length_nil] at htk; omega
    · intro e; rw [e, List.length_nil] at hQl; omega
    · simp only [List.length_append]; omega
  refine ⟨hm2.below.trans hb, hm2.sf.trans hsf, hS, by have := h.len; omega, fun e he => (hm e).2 (Or.inl (h.more e he)), ?_, ?_, ?_, ?_⟩
  · intro e he
    rcases (hm e).1 he with he | rfl
    · exact (h.only e he).imp id (fun ⟨p, o, q, h1, h2, h3, h4, h5, h6, h7, h8⟩ => ⟨p, o, q, h1, h2, h3, h4, h5, h6, by omega, h8⟩)
    · exact Or.inr hlap
  · rintro e ⟨p, o, q, e1, e2, h3, h4, h5, h6, h7, h8⟩
    by_cases hk : o.length = k
    · obtain ⟨g1, g2, g3, _⟩ := lap_at e1 e2 hk h6
      refine (hm e).2 (Or.inr ?_)
      rw [h8, g2, hQ, g3, hD, hP]
    · exact (hm e).2 (Or.inl (h.all e ⟨p, o, q, e1, e2, h3, h4, h5, h6, by omega, h8⟩))
  · exact hsf.blk _ _ (by rw [h2.1]; exact h.bx1) (nsb _ _ h.bx1) (nqb _ _ h.bx1) (by simp) (by intro c fr e; simp at e)
  · exact hsf.blk _ _ (by rw [h2.1]; exact h.bx2) (nsb _ _ h.bx2) (nqb _ _ h.bx2) (by simp) (by intro c fr e; simp at e)

theorem cross_end {w wr : World} {B sb qb M : Nat} {rv : Value} {R E E' : List Hw.Rl} {a b : Hw.Rl} {k : Nat} (h : CrossI w wr B sb qb M rv R E a b k E') (hk : k ≤ 6) (hge : ¬ (k < a.1.length ∧ k < b.1.length)) : CrossI w wr B sb qb M rv R E a b 7 E' := by
  refine h.move ⟨rfl, rfl, rfl, rfl⟩ (by omega) ?_
  rintro e ⟨p, o, q, e1, e2, h3, h4, h5, h6, h7, h8⟩
  refine ⟨p, o, q, e1, e2, h3, h4, h5, h6, ?_, h8⟩
  have l1 := congrArg List.length e1
  have l2 := congrArg List.length e2
  have p1 := List.length_pos_iff.2 h3
  have p2 := List.length_pos_iff.2 h5
  simp at l1 l2
  omega

theorem cross_start {w : World} {B sb qb M : Nat} {rv : Value} {R E : List Hw.Rl} {a b : Hw.Rl} (hS : SS w B sb qb M rv R E) :
    CrossI w ((w.alloc (.cells #[.string ⟨a.1.toArray⟩, .string ⟨a.2.toArray⟩] 77)).alloc (.cells #[.string ⟨b.1.toArray⟩, .string ⟨b.2.toArray⟩] 77)) B sb qb M rv R E a b 1 E := by
  have hbl : Below w.heap.size w ((w.alloc (.cells #[.string ⟨a.1.toArray⟩, .string ⟨a.2.toArray⟩] 77)).alloc (.cells #[.string ⟨b.1.toArray⟩, .string ⟨b.2.toArray⟩] 77)) :=
    ((Below.refl _ _).alloc (Nat.le_refl _) _).alloc (by simp) _
  refine ⟨hbl.mono hS.size, SF.of_below hbl hS.qlt, hS.below hbl, by omega, fun e h => h, fun e h => Or.inl h, ?_, heap_alloc2_old _ _ _, heap_alloc2_new _ _ _⟩
  rintro e ⟨p, o, q, _, _, _, ho, _, _, hl, _⟩
  exact absurd (List.length_eq_zero_iff.1 (by omega)) ho

set_option maxRecDepth 100000 in
set_option maxHeartbeats 3200000 in
theorem cross_any (w : World) (B sb qb M : Nat) (rv : Value) (R E : List Hw.Rl) (a b : Hw.Rl) (ha1 : a.1.length ≤ 6) (ha2 : a.2.length ≤ a.1.length) (hb1 : b.1.length ≤ 6) (hb2 : b.2.length ≤ b.1.length) (hM : M ≤ 6) (hn : E.length < 900000000) (hS : SS w B sb qb M rv R E) :
    Calls Tryz.prog 118 #[.pointer (some ⟨sb, 0, none⟩), .agg #[.string ⟨a.1.toArray⟩, .string ⟨a.2.toArray⟩], .agg #[.string ⟨b.1.toArray⟩, .string ⟨b.2.toArray⟩]] w fun e w' => e = .returned (.tuple #[]) ∧ ∃ E', CrossI w w' B sb qb M rv R E a b 7 E' := by
  have hbs := hS.size
  have HS := hide hS
  clear hS
  go_enter Tryz.func118, Tryz.ntmps118
  go_wp2
  go_loopw [6] (fun t wr => ∃ (k : Nat) (E' : List Hw.Rl), 1 ≤ k ∧ k ≤ 6 ∧ t = .int .i64 (k : Int) ∧ CrossI w wr B sb qb M rv R E a b k E') (fun t _ => 7 - (intOf t).toNat)
  case atStart => exact ⟨1, E, by omega, by omega, rfl, cross_start HS.out⟩
  case round =>
    obtain ⟨k, E', hk1, hk6, rfl, hI⟩ := hrel
    have a1c := cellAt hI.bx1 (j := 0) (v := .string ⟨a.1.toArray⟩) rfl
    have a2c := cellAt hI.bx1 (j := 1) (v := .string ⟨a.2.toArray⟩) rfl
    have b1c := cellAt hI.bx2 (j := 0) (v := .string ⟨b.1.toArray⟩) rfl
    have b2c := cellAt hI.bx2 (j := 1) (v := .string ⟨b.2.toArray⟩) rfl
    have mc : wr.cell? ⟨sb, 0, none⟩ = some (.int .i64 M) := by
      obtain ⟨ag, iv, items, h1, _⟩ := hI.ss.st
      exact cellAt h1 rfl
    have HI := hide hI
    clear hI
    by_cases hlt : k < a.1.length ∧ k < b.1.length
    · obtain ⟨hlt1, hlt2⟩ := hlt
      have hmin : min (a.1.length : Int) (b.1.length : Int) = ((min a.1.length b.1.length : Nat) : Int) := by omega
      have hdk : decide (k < min a.1.length b.1.length) = true := by simp; omega
      have hwr : IntKind.i64.wrap ((a.1.length : Int) - (k : Int)) = ((a.1.length - k : Nat) : Int) := by rw [IntKind.wrap_i64]; omega
      have hD : a.1.length - k ≤ a.1.length ∧ a.1.length - k ≤ 5 := by omega
      generalize hDD : a.1.length - k = D at *
      have HDD := hide hDD
      have i2 : (D : Int) ≤ (a.1.length : Int) := by omega
      have i3 : (k : Int) ≤ (b.1.length : Int) := by omega
      clear hDD
      have HMin := hide hmin
      go_wp2_with fail
      go_quiet (fail)
      clear hwr
      rw [ext_take, ext_drop]
      have hPl : (a.1.take D).length = D := by simp; omega
      have hQl : (b.1.drop k).length = b.1.length - k := by simp
      generalize hP : a.1.take D = P at *
      generalize hQ : b.1.drop k = Q at *
      have HP := hide hP
      have HQ := hide hQ
      have hwr2 : IntKind.i64.wrap ((a.1.length : Int) + (Q.length : Int)) = (a.1.length : Int) + (Q.length : Int) := by rw [IntKind.wrap_i64]; omega
      have hQ6 : Q.length ≤ 6 := by omega
      have hP6 : P.length ≤ 6 := by omega
      have HPL := hide hPl
      have HQL := hide hQl
      clear hP hQ hPl hQl
      by_cases hroom : a.1.length + Q.length ≤ M
      · have hguard : decide ((a.1.length : Int) + (Q.length : Int) ≤ (M : Int)) = true := by simp; omega
        cases hsuf : Lib.hasSuffix a.1 (b.1.take k) with
        | true =>
          have hadd1 : ¬ (9223372036854775807 < a.2.length + Q.length) := by omega
          have hadd2 : ¬ (9223372036854775807 < P.length + b.2.length) := by omega
          go_wp2_with fail
          go_quiet ((go_at_call 68; refine quiet_same2 (Tryz.strings_HasSuffix _ _ _ (by simp [ByteArray.size]; omega))))
          go_wp2_with fail
          rw [ByteArray.mk_append_mk, ByteArray.mk_append_mk]
          refine (wait_any _ B sb qb M rv R E' (a.2 ++ Q) (P ++ b.2) (by simp; omega) (by have := HPL.out; have := HDD.out; have := HQL.out; simp; omega) (by have := HI.out.len; omega) (by exact HI.out.ss.same ⟨rfl, rfl, rfl, rfl⟩)).mono ?_
          rintro e w3 ⟨rfl, ⟨hb3, hsf3⟩, E3, hl3, hm3, hS3⟩
          have R := cross_yes HI.out (by exact ⟨rfl, rfl, rfl, rfl⟩) hb3 hsf3 hl3 hm3 hS3 hlt1 hlt2 hk1 HDD.out HP.out HQ.out hroom hsuf
          have HR := hide R
          clear R hb3 hsf3 hl3 hm3 hS3
          go_wp2
          go_roundw
          case rel => exact ⟨k + 1, E3, by omega, by omega, by go_num, HR.out⟩
          case measure => simp [intOf]; omega
        | false =>
          go_wp2_with fail
          go_quiet ((go_at_call 68; refine quiet_same2 (Tryz.strings_HasSuffix _ _ _ (by simp [ByteArray.size]; omega))))
          go_wp2
          go_roundw
          case rel => exact ⟨k + 1, E', by omega, by omega, by go_num, cross_no HI.out (by exact ⟨rfl, rfl, rfl, rfl⟩) HQ.out (Or.inr hsuf)⟩
          case measure => simp [intOf]; omega
      · have hguard : decide ((a.1.length : Int) + (Q.length : Int) ≤ (M : Int)) = false := by simp; omega
        go_wp2_with fail
        go_quiet (fail)
        go_wp2
        go_roundw
        case rel => exact ⟨k + 1, E', by omega, by omega, by go_num, cross_no HI.out (by exact ⟨rfl, rfl, rfl, rfl⟩) HQ.out (Or.inl (by omega))⟩
        case measure => simp [intOf]; omega
    · have hdk : ¬ (k < min a.1.length b.1.length) := by omega
      have hmin : min (a.1.length : Int) (b.1.length : Int) = ((min a.1.length b.1.length : Nat) : Int) := by omega
      go_wp2
      go_end0
      exact ⟨rfl, E', cross_end HI.out hk6 (by omega)⟩
end Go.Proofs.YtfiebibpgbadlaaGreat
