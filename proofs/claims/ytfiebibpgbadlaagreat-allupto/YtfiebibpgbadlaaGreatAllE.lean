import Derived.Test.YtfiebibpgbadlaaGreatAllC
namespace Go.Proofs.YtfiebibpgbadlaaGreat
open Go.RowKit
set_option linter.unusedVariables false
set_option linter.unusedSimpArgs false

/-- append onto a row of one's own: it stays where it is, or nothing old is written. -/
theorem run_append_two {P : Program} (w : World) (base : Nat) (t ty e : TypeId) (i : TypeInfo) (z : Value) (size bytes : Nat) (ht : P.underlying t = some (.slice e)) (hi : P.info? e = some i) (hz : i.zero = some z)
    (hsize : i.size = size) (hby : i.bytes = bytes) (hzs : z.cells.size = size) (hsz : 0 < size) (v : Value) (n : Nat) (xs : List Value) (hown : w.ownsRow base e size v n xs)
    (a : Addr) (m c : Nat) (news : List Value) (hl : news.length = m * size) (hnews : ∀ j u, news[j]? = some u → w.cell? (a.add j) = some u) (h1 : ∀ u ∈ news, u.oneCell' = true)
    (h63 : n + m ≤ maxLen) (hbytes : (n + m) * bytes ≤ 140737488355328) (hbase : base ≤ w.heap.size) :
    ∃ v' w', (Builtin.append_ #[t, t] ty #[v, .slice (some a) m c]).run P w = .ok v' w' ∧ w'.ownsRow base e size v' (n + m) (xs ++ news) ∧ w.grownBy w' v.ownBlock ∧ (∀ k, v'.ownBlock = some k → v.ownBlock = some k ∨ w.heap.size ≤ k) ∧ (v'.ownBlock = v.ownBlock ∨ w.grownBy w' none) := by
  obtain ⟨v', w', hrun, r1, r2, r3⟩ := run_append_exact (P := P) w base t ty e i z size bytes ht hi hz hsize hby hzs hsz v n xs hown a m c news hl hnews h1 h63 hbytes hbase
  refine ⟨v', w', hrun, r1, r2, r3, ?_⟩
  rcases hown.2 with ⟨rfl, rfl⟩ | ⟨g, cap, cur, rfl, hb, hg, hn, hm, hcs, htk⟩
  · exact .inr r2
  · by_cases hroom : n + m ≤ cap
    · have := run_append_room (P := P) w t ty e i ht hi g n cap cur hg a m c news (by rw [hsize]; exact hl) hnews h1 hroom (by
        rw [hsize, hl, hcs, ← Nat.add_mul]; exact Nat.mul_le_mul_right _ hroom)
      rw [hrun] at this
      simp only [Result.ok.injEq] at this
      obtain ⟨rfl, _⟩ := this
      exact .inl rfl
    · obtain ⟨v2, w2, hrun2, q1, q2⟩ := run_append_arg_grows (P := P) w t ty e i z size bytes ht hi hz hsize hby hzs hsz ⟨g, 0, none⟩ n cap xs hown.1 (hown.cells rfl) a m c news hl hnews (by omega) h63 hbytes
      rw [hrun] at hrun2
      simp only [Result.ok.injEq] at hrun2
      obtain ⟨rfl, rfl⟩ := hrun2
      exact .inr q2

theorem wpList_append_two {P : Program} (w : World) {ops : Array Oper} {rest : List Oper} {o : Oper} {a : Act} {Q : Exit → Act → World → Prop}
    (hg : o.guard = none) (s x : Operand) (t : TypeId) (ho : o.op = Op.call { callee := Callee.builtin Builtin.append, args := #[s, x], argTypes := #[t, t] })
    (base : Nat) (e : TypeId) (i : TypeInfo) (z : Value) (size bytes : Nat) (ht : P.underlying t = some (.slice e)) (hi : P.info? e = some i) (hz : i.zero = some z)
    (hsize : i.size = size) (hby : i.bytes = bytes) (hzs : z.cells.size = size) (hsz : 0 < size)
    (v : Value) (n : Nat) (xs : List Value) (hs : a.eval s = v) (hown : w.ownsRow base e size v n xs)
    (ad : Addr) (m c : Nat) (news : List Value) (hx : a.eval x = .slice (some ad) m c) (hl : news.length = m * size) (hnews : ∀ j u, news[j]? = some u → w.cell? (ad.add j) = some u) (h1 : ∀ u ∈ news, u.oneCell' = true)
    (h63 : n + m ≤ maxLen) (hbytes : (n + m) * bytes ≤ 140737488355328) (hbase : base ≤ w.heap.size)
    (hK : ∀ v' w', w'.ownsRow base e size v' (n + m) (xs ++ news) → w.grownBy w' v.ownBlock → (∀ k, v'.ownBlock = some k → v.ownBlock = some k ∨ w.heap.size ≤ k) → (v'.ownBlock = v.ownBlock ∨ w.grownBy w' none) → wpList P ops Q rest (a.put o.dst v') w') : wpList P ops Q (o :: rest) a w := by
  refine wpList_plain hg fun K hK' => ?_
  obtain ⟨v', w', hrun, r1, r2, r3, r4⟩ := run_append_two (P := P) w base t o.type e i z size bytes ht hi hz hsize hby hzs hsz v n xs hown ad m c news hl hnews h1 h63 hbytes hbase
  unfold Oper.wp
  simp [execOp, ho, resolve, invoke, builtin, hs, hx, hrun, Result.andThen]
  exact hK' _ _ (hK v' w' r1 r2 r3 r4)

/-- World's lists. -/
structure Lists (w : World) (wb : Nat) (bsV rulV linV : Value) (rs ls : List Value) : Prop where
  blk : w.heap[wb]? = some (wblock bsV rulV linV)
  rown : w.ownsRow 0 68 1 rulV rs.length rs
  lown : w.ownsRow 0 50 1 linV ls.length ls
  rmk : Marked w 77 ruleMark rs
  lmk : Marked w 54 lineMark ls

/-- A list that is to be written full. -/
def Src (w : World) (ty : TypeId) (sz : Nat) (sa : Option Addr) (n : Nat) : Prop := (sa = none ∧ n = 0) ∨ ∃ g o cur, sa = some ⟨g, o, none⟩ ∧ w.heap[g]? = some (.cells cur ty (0, 0)) ∧ o + n * sz ≤ cur.size
/-- .. of which no other one holds a cell. -/
def Off (vs : List Value) (sz : Nat) (sa : Option Addr) (n : Nat) : Prop := ∀ v, v ∈ vs → ∀ g o n1 cap o1, sa = some ⟨g, o, none⟩ → v = .slice (some ⟨g, o1, none⟩) n1 cap → n1 = 0 ∨ o1 + n1 * sz ≤ o ∨ o + n * sz ≤ o1

theorem marked_snoc {w w' : World} {wb : Nat} {blk : Value → Obj} {ty lt wt : TypeId} {rulV rulV' : Value} {vals : List Value} {sa : Option Addr} {n cap : Nat} {mk : Nat → List Value} {sz : Nat} (hmk : ∀ k, (mk k).length = sz)
    (hp : MarkPost w w' wb blk ty lt rulV vals sa n cap (mk vals.length) rulV') (hm : Marked w ty mk vals) (hsrc : Src w ty sz sa n) (hoff : Off vals sz sa n) (hn : n ≤ 1000000)
    (hblk : ∃ cs, w.heap[wb]? = some (.cells cs wt (0, 0))) (hown : w.ownsRow 0 lt 1 rulV vals.length vals) (h1 : wt ≠ ty) (h3 : lt ≠ ty) : Marked w' ty mk (vals ++ [.slice sa n cap]) := by
  obtain ⟨cs, hcs⟩ := hblk
  have hS : ∀ k, k = wb ∨ rulV.ownBlock = some k → ∀ c fr, w.heap[k]? ≠ some (.cells c ty fr) := by
    rintro k (rfl | hk) c fr e
    · rw [hcs] at e; simp at e; exact h1 e.2.1
    · obtain ⟨c', hc'⟩ := own_type hown hk
      rw [hc'] at e; simp at e; exact h3 e.2.1
  intro k v hk
  by_cases hlt : k < vals.length
  · rw [List.getElem?_append_left hlt] at hk
    have hv := hm k v hk
    by_cases h0 : n = 0
    · subst h0
      refine hv.kept hp.kept ?_
      intro k' hk' c fr
      simp at hk'
      exact hS k' hk' c fr
    · rcases hsrc with ⟨_, h⟩ | ⟨g, o, cur, rfl, hg, hsz⟩
      · exact absurd h h0
      · refine hv.fill hg (hp.row g o cur (by omega) rfl hg) ?_ ?_
        · intro k' c hne hc
          refine hp.kept.at hc ?_
          rw [if_neg h0]
          simp
          exact ⟨fun e => hS k' (.inl e) _ _ hc, fun e => hS k' (.inr e) _ _ hc, hne⟩
        · intro sa1 n1 cap1 o1 he hsa hn1
          subst hsa
          rw [hmk, hmk]
          rcases hoff v (List.mem_of_getElem? hk) g o n1 cap1 o1 rfl he with h | h | h
          · omega
          · exact .inl h
          · exact .inr h
  · have hkl : k = vals.length := by
      have := (List.getElem?_eq_some_iff.1 hk).1
      simp at this; omega
    subst hkl
    simp at hk
    subst hk
    refine ⟨sa, n, cap, rfl, hn, fun h0 => ?_⟩
    rcases hsrc with ⟨_, h⟩ | ⟨g, o, cur, rfl, hg, hsz⟩
    · omega
    · refine ⟨g, o, _, rfl, hp.row g o cur h0 rfl hg, fun i hi j hj => fill_in cur o _ n i j hi hj (by rw [hmk]; exact hsz)⟩
end Go.Proofs.YtfiebibpgbadlaaGreat
namespace Go.Proofs.YtfiebibpgbadlaaGreat
open Go.RowKit
set_option linter.unusedVariables false
set_option linter.unusedSimpArgs false

/-- The lists that lie in v's block lie ahead of v's end. -/
def Room (vs : List Value) (sz : Nat) (v : Value) (m : Nat) : Prop := ∀ u, u ∈ vs → ∀ g o1 n1 cap, v.ownBlock = some g → u = .slice (some ⟨g, o1, none⟩) n1 cap → n1 = 0 ∨ o1 + n1 * sz ≤ m * sz

theorem own_take {w : World} {ty : TypeId} {sz m g : Nat} {v : Value} {xs : List Value} (h : w.ownsRow 0 ty sz v m xs) (hv : v.ownBlock = some g) : ∃ cur, w.heap[g]? = some (.cells cur ty (0, 0)) ∧ m * sz ≤ cur.size ∧ ∀ p, p < m * sz → cur[p]? = xs[p]? := by
  rcases h.2 with ⟨rfl, _⟩ | ⟨g', cap, cur, rfl, hb, hg, hn, hm, hsz, ht⟩
  · simp [Value.ownBlock] at hv
  · simp [Value.ownBlock] at hv; subst hv
    refine ⟨cur, hg, by rw [hsz]; exact Nat.mul_le_mul_right _ hn, fun p hp => ?_⟩
    rw [← ht, List.getElem?_take, if_pos hp, Array.getElem?_toList]

theorem marked_grown {w w' : World} {ty : TypeId} {mk : Nat → List Value} {vs xs news : List Value} {v v' : Value} {m sz : Nat} (hmk : ∀ k, (mk k).length = sz) (hm : Marked w ty mk vs) (hown : w.ownsRow 0 ty sz v m xs) (hown' : w'.ownsRow 0 ty sz v' (m + 1) (xs ++ news))
    (hgrow : w.grownBy w' v.ownBlock) (hor : v'.ownBlock = v.ownBlock ∨ w.grownBy w' none) (hroom : Room vs sz v m) : Marked w' ty mk vs := by
  intro k u hk
  obtain ⟨sa, n1, cap, rfl, hn, h⟩ := hm k u hk
  refine ⟨sa, n1, cap, rfl, hn, fun h0 => ?_⟩
  obtain ⟨g1, o1, cur1, rfl, hg, hc⟩ := h h0
  by_cases hv : v.ownBlock = some g1
  · rcases hor with hin | hno
    · obtain ⟨cur, e1, e2, e3⟩ := own_take hown hv
      obtain ⟨cur', f1, f2, f3⟩ := own_take hown' (hin.trans hv)
      rw [hg] at e1
      simp at e1
      subst e1
      refine ⟨g1, o1, cur', rfl, f1, fun i hi j hj => ?_⟩
      rw [← hc i hi j hj]
      rw [hmk] at hj ⊢
      have hr : o1 + n1 * sz ≤ m * sz := by
        rcases hroom _ (List.mem_of_getElem? hk) g1 o1 n1 cap hv rfl with h | h
        · omega
        · exact h
      have h4 : i * sz + sz ≤ n1 * sz := by
        have := Nat.mul_le_mul_right sz (show i + 1 ≤ n1 by omega)
        rw [Nat.add_mul] at this; omega
      have hp : o1 + i * sz + j < m * sz := by omega
      have hp' : o1 + i * sz + j < (m + 1) * sz := by rw [Nat.add_mul]; omega
      rw [f3 _ hp', e3 _ hp, List.getElem?_append_left (by have := hown.1; omega)]
    · exact ⟨g1, o1, cur1, rfl, (hno.block g1 (lt_of_block hg) (by simp)).trans hg, hc⟩
  · exact ⟨g1, o1, cur1, rfl, (hgrow.block g1 (lt_of_block hg) (fun e => hv e.symm)).trans hg, hc⟩

theorem Lists.markR {w w' : World} {wb : Nat} {bsV rulV rulV' linV : Value} {rs ls : List Value} {sa : Option Addr} {n cap : Nat} (h : Lists w wb bsV rulV linV rs ls)
    (hp : MarkPost w w' wb (fun v => wblock bsV v linV) 77 68 rulV rs sa n cap (ruleMark rs.length) rulV') (hsrc : Src w 77 2 sa n) (hoff : Off rs 2 sa n) (hn : n ≤ 1000000) : Lists w' wb bsV rulV' linV (rs ++ [.slice sa n cap]) ls := by
  have hS : ∀ k, k ∈ wb :: (rulV.ownBlock.toList ++ (if n = 0 then [] else (sa.map Addr.block).toList)) → ∀ c t fr, w.heap[k]? = some (.cells c t fr) → t = 30 ∨ t = 68 ∨ t = 77 := by
    intro k hk c t fr e
    rcases List.mem_cons.1 hk with rfl | hk
    · rw [h.blk] at e; simp [wblock] at e; exact .inl e.2.1.symm
    · rcases List.mem_append.1 hk with hk | hk
      · obtain ⟨c', hc'⟩ := own_type h.rown (by simpa using hk : rulV.ownBlock = some k)
        rw [hc'] at e; simp at e; exact .inr (.inl e.2.1.symm)
      · rcases hsrc with ⟨rfl, rfl⟩ | ⟨g, o, cur, rfl, hg, _⟩
        · simp at hk
        · have hkg : k = g := by
            by_cases h0 : n = 0
            · rw [if_pos h0] at hk; simp at hk
            · rw [if_neg h0] at hk; simpa using hk
          subst hkg
          rw [hg] at e; simp at e; exact .inr (.inr e.2.1.symm)
  refine ⟨hp.blk, by simpa using hp.own, own_kept h.lown hp.kept ?_, marked_snoc (fun _ => rfl) hp h.rmk hsrc hoff hn ⟨_, h.blk⟩ h.rown (by decide) (by decide), fun k v hk => (h.lmk k v hk).kept hp.kept ?_⟩
  · intro k hk e
    obtain ⟨c', hc'⟩ := own_type h.lown e
    rcases hS k hk _ _ _ hc' with e | e | e <;> exact absurd e (by decide)
  · intro k hk c fr e
    rcases hS k hk _ _ _ e with e | e | e <;> exact absurd e (by decide)

theorem Lists.markL {w w' : World} {wb : Nat} {bsV rulV linV' linV : Value} {rs ls : List Value} {sa : Option Addr} {n cap : Nat} (h : Lists w wb bsV rulV linV rs ls)
    (hp : MarkPost w w' wb (fun v => wblock bsV rulV v) 54 50 linV ls sa n cap (lineMark ls.length) linV') (hsrc : Src w 54 8 sa n) (hoff : Off ls 8 sa n) (hn : n ≤ 1000000) : Lists w' wb bsV rulV linV' rs (ls ++ [.slice sa n cap]) := by
  have hS : ∀ k, k ∈ wb :: (linV.ownBlock.toList ++ (if n = 0 then [] else (sa.map Addr.block).toList)) → ∀ c t fr, w.heap[k]? = some (.cells c t fr) → t = 30 ∨ t = 50 ∨ t = 54 := by
    intro k hk c t fr e
    rcases List.mem_cons.1 hk with rfl | hk
    · rw [h.blk] at e; simp [wblock] at e; exact .inl e.2.1.symm
    · rcases List.mem_append.1 hk with hk | hk
      · obtain ⟨c', hc'⟩ := own_type h.lown (by simpa using hk : linV.ownBlock = some k)
        rw [hc'] at e; simp at e; exact .inr (.inl e.2.1.symm)
      · rcases hsrc with ⟨rfl, rfl⟩ | ⟨g, o, cur, rfl, hg, _⟩
        · simp at hk
        · have hkg : k = g := by
            by_cases h0 : n = 0
            · rw [if_pos h0] at hk; simp at hk
            · rw [if_neg h0] at hk; simpa using hk
          subst hkg
          rw [hg] at e; simp at e; exact .inr (.inr e.2.1.symm)
  refine ⟨hp.blk, own_kept h.rown hp.kept ?_, by simpa using hp.own, fun k v hk => (h.rmk k v hk).kept hp.kept ?_, marked_snoc (fun _ => rfl) hp h.lmk hsrc hoff hn ⟨_, h.blk⟩ h.lown (by decide) (by decide)⟩
  · intro k hk e
    obtain ⟨c', hc'⟩ := own_type h.rown e
    rcases hS k hk _ _ _ hc' with e | e | e <;> exact absurd e (by decide)
  · intro k hk c fr e
    rcases hS k hk _ _ _ e with e | e | e <;> exact absurd e (by decide)

theorem markRules_any (wb : Nat) (bsV rulV linV : Value) (rs ls : List Value) (sa : Option Addr) (n cap : Nat) (w : World) (hL : Lists w wb bsV rulV linV rs ls) (hrs : rs.length ≤ 10000000) (hsrc : Src w 77 2 sa n) (hoff : Off rs 2 sa n) (hn : n ≤ 1000000) :
    Calls Tryz.prog 46 #[.pointer (some ⟨wb, 0, none⟩), .slice sa n cap] w fun e w' => e = .returned (.tuple #[]) ∧ ∃ rulV', MarkPost w w' wb (fun v => wblock bsV v linV) 77 68 rulV rs sa n cap (ruleMark rs.length) rulV' ∧ Lists w' wb bsV rulV' linV (rs ++ [.slice sa n cap]) ls := by
  by_cases h0 : n = 0
  · subst h0
    refine (markRules_none wb cap sa bsV rulV linV rs w hL.blk hL.rown hrs).mono ?_
    rintro e w' ⟨rfl, rulV', hp⟩
    exact ⟨rfl, rulV', hp, hL.markR hp hsrc hoff hn⟩
  · rcases hsrc with ⟨_, h⟩ | ⟨g, o, cur, rfl, hg, hsz⟩
    · exact absurd h h0
    · refine (markRules_some wb g o n cap bsV rulV linV rs cur w hL.blk hL.rown hrs hg hsz hn (by omega)).mono ?_
      rintro e w' ⟨rfl, rulV', hp⟩
      exact ⟨rfl, rulV', hp, hL.markR hp (.inr ⟨g, o, cur, rfl, hg, hsz⟩) hoff hn⟩

theorem markLines_any (wb : Nat) (bsV rulV linV : Value) (rs ls : List Value) (sa : Option Addr) (n cap : Nat) (w : World) (hL : Lists w wb bsV rulV linV rs ls) (hrs : ls.length ≤ 10000000) (hsrc : Src w 54 8 sa n) (hoff : Off ls 8 sa n) (hn : n ≤ 1000000) :
    Calls Tryz.prog 49 #[.pointer (some ⟨wb, 0, none⟩), .slice sa n cap] w fun e w' => e = .returned (.tuple #[]) ∧ ∃ linV', MarkPost w w' wb (fun v => wblock bsV rulV v) 54 50 linV ls sa n cap (lineMark ls.length) linV' ∧ Lists w' wb bsV rulV linV' rs (ls ++ [.slice sa n cap]) := by
  by_cases h0 : n = 0
  · subst h0
    refine (markLines_none wb cap sa bsV rulV linV ls w hL.blk hL.lown hrs).mono ?_
    rintro e w' ⟨rfl, rulV', hp⟩
    exact ⟨rfl, rulV', hp, hL.markL hp hsrc hoff hn⟩
  · rcases hsrc with ⟨_, h⟩ | ⟨g, o, cur, rfl, hg, hsz⟩
    · exact absurd h h0
    · refine (markLines_some wb g o n cap bsV rulV linV ls cur w hL.blk hL.lown hrs hg hsz hn (by omega)).mono ?_
      rintro e w' ⟨rfl, rulV', hp⟩
      exact ⟨rfl, rulV', hp, hL.markL hp (.inr ⟨g, o, cur, rfl, hg, hsz⟩) hoff hn⟩
end Go.Proofs.YtfiebibpgbadlaaGreat
