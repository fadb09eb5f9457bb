import Derived.Test.YtfiebibpgbadlaaGreatMe
import Derived.Test.YtfiebibpgbadlaaGreatProg
import Derived.Maps.OwnSet
namespace Go.Proofs.YtfiebibpgbadlaaGreat
open Go.RowKit
open Go.Maps (Keyed)
set_option linter.unusedVariables false
set_option linter.unusedSimpArgs false

/-- a map's element, whatever it is. -/
def anyElem : Value → Option (DataW Value × List MemPlace) := fun v => some (.held v, [])
/-- A map, key by key. -/
def MapIs (w : World) (k : TypeId) (b n : Nat) (F : Lit → Option Value) : Prop :=
  ∃ D : DataW Value, w.ownsMap Tryz.prog k anyElem b n D ∧ ∀ kl, (F kl = none → Maps.has D kl = false) ∧ (∀ v, F kl = some v → Maps.has D kl = true ∧ ∀ z, D.atKey kl z = .held v)

theorem MapIs.lt {w : World} {k : TypeId} {b n : Nat} {F : Lit → Option Value} (h : MapIs w k b n F) : b < w.heap.size := by
  obtain ⟨D, h1, _⟩ := h
  exact h1.lt
theorem MapIs.obj {w : World} {k : TypeId} {b n : Nat} {F : Lit → Option Value} (h : MapIs w k b n F) : ∃ es cl, w.heap[b]? = some (.map es cl) := by
  obtain ⟨D, ⟨es, cl, h1, _⟩, _⟩ := h
  exact ⟨es, cl, h1⟩
theorem MapIs.mono {w : World} {k : TypeId} {b n n' : Nat} {F : Lit → Option Value} (h : MapIs w k b n F) (hn : n ≤ n') : MapIs w k b n' F := by
  obtain ⟨D, h1, h2⟩ := h
  exact ⟨D, h1.mono hn, h2⟩
theorem MapIs.kept {w w' : World} {k : TypeId} {b n : Nat} {F : Lit → Option Value} {S : List Nat} (h : MapIs w k b n F) (hK : Kept S w w') (hb : b ∉ S) : MapIs w' k b n F := by
  have hlt := h.lt
  obtain ⟨D, ⟨es, clock, h1, r⟩, h2⟩ := h
  exact ⟨D, ⟨es, clock, hK.at h1 hb, r⟩, h2⟩
theorem mapIs_new (w : World) (k : TypeId) : MapIs (w.alloc (.map #[] 0)) k w.heap.size 0 (fun _ => none) :=
  ⟨.map [], World.ownsMap_made w Tryz.prog k anyElem, fun kl => ⟨fun _ => rfl, fun v h => by cases h⟩⟩
theorem held_inj {v v' : Value} {z : DataW Value} (h : anyElem v = some (z, [])) : z = .held v := by
  simp [anyElem] at h; exact h.symm
theorem MapIs.look_some {w : World} {k t e : TypeId} {b n : Nat} {F : Lit → Option Value} (h : MapIs w k b n F) (K : Keyed Tryz.prog k) (ht : Tryz.prog.underlying t = some (.map k e)) {z : Value} (hz : (zeroValue e).run Tryz.prog w = .ok z w) {key : Value} {kl : Lit} (hkey : keyOf Tryz.prog k key = some kl)
    {v : Value} (hF : F kl = some v) : (Instr.lookup t (.map (some b)) key true).run Tryz.prog w = .ok (.tuple #[v, .bool true]) w := by
  obtain ⟨D, h1, h2⟩ := h
  obtain ⟨v', ps, hrun, hv⟩ := h1.look_ok K ht hz (zd := .held z) (zp := []) rfl hkey
  obtain ⟨hh, ha⟩ := (h2 kl).2 v hF
  rw [hh] at hrun
  rw [ha] at hv
  simp [anyElem] at hv
  rw [hrun, hv.1]
theorem MapIs.look_none {w : World} {k t e : TypeId} {b n : Nat} {F : Lit → Option Value} (h : MapIs w k b n F) (K : Keyed Tryz.prog k) (ht : Tryz.prog.underlying t = some (.map k e)) {z : Value} (hz : (zeroValue e).run Tryz.prog w = .ok z w) {key : Value} {kl : Lit} (hkey : keyOf Tryz.prog k key = some kl)
    (hF : F kl = none) : (Instr.lookup t (.map (some b)) key true).run Tryz.prog w = .ok (.tuple #[z, .bool false]) w := by
  obtain ⟨D, h1, h2⟩ := h
  obtain ⟨v', ps, hrun, hv⟩ := h1.look_ok K ht hz (zd := .held z) (zp := []) rfl hkey
  have hh := (h2 kl).1 hF
  rw [hh] at hrun
  rw [Maps.atKey_of_not_has hh] at hv
  simp [anyElem] at hv
  rw [hrun, hv.1]
open Classical in
noncomputable def setF (F : Lit → Option Value) (kl : Lit) (v : Value) : Lit → Option Value := fun k => if k = kl then some v else F k
theorem MapIs.update {w : World} {k t e : TypeId} {b n : Nat} {F : Lit → Option Value} (h : MapIs w k b n F) (K : Keyed Tryz.prog k) (ht : Tryz.prog.underlying t = some (.map k e)) (hn : n < maxLen) {key val : Value} {kl : Lit} (hkey : keyOf Tryz.prog k key = some kl) :
    ∃ w', (Instr.mapUpdate t (.map (some b)) key val).run Tryz.prog w = .ok () w' ∧ MapIs w' k b (n + 1) (setF F kl val) ∧ w.grownBy w' (some b) := by
  obtain ⟨D, h1, h2⟩ := h
  obtain ⟨w', hrun, hown, hg⟩ := h1.update K ht hn hkey (val := val) (d := .held val) (ps := []) rfl
  refine ⟨w', hrun, ⟨_, hown, fun kl' => ?_⟩, hg⟩
  unfold setF
  by_cases e : kl' = kl
  · subst e
    simp only [if_true]
    refine ⟨fun h => (by cases h), fun v hv => ?_⟩
    cases hv
    exact ⟨Maps.has_put_same h1.isMap (K.key hkey) _, fun z => Maps.atKey_put_same h1.isMap (K.key hkey) _ _⟩
  · rw [if_neg e]
    refine ⟨fun h => ?_, fun v hv => ?_⟩
    · rw [Maps.has_put_other e]; exact (h2 kl').1 h
    · obtain ⟨r1, r2⟩ := (h2 kl').2 v hv
      exact ⟨by rw [Maps.has_put_other e]; exact r1, fun z => by rw [Maps.atKey_put_other e]; exact r2 z⟩
/-- at the operation. -/
theorem wpList_mapUpdate_is (w : World) {ops : Array Oper} {rest : List Oper} {o : Oper} {a : Act} {Q : Exit → Act → World → Prop}
    (hg : o.guard = none) (m x v : Operand) (t : TypeId) (hop : o.op = Op.mapUpdate t m x v) (k e : TypeId) (K : Keyed Tryz.prog k) (ht : Tryz.prog.underlying t = some (.map k e)) (b n : Nat) (F : Lit → Option Value)
    (hm : a.eval m = .map (some b)) (h : MapIs w k b n F) (hn : n < maxLen) (key val : Value) (kl : Lit) (hx : a.eval x = key) (hv : a.eval v = val) (hkey : keyOf Tryz.prog k key = some kl)
    (hK : ∀ w', MapIs w' k b (n + 1) (setF F kl val) → w.grownBy w' (some b) → wpList Tryz.prog ops Q rest (a.put o.dst undef) w') : wpList Tryz.prog ops Q (o :: rest) a w := by
  refine wpList_plain hg fun K' hK' => ?_
  obtain ⟨w', hrun, r1, r2⟩ := h.update (val := val) K ht hn hkey
  unfold Oper.wp
  simp [execOp, hop, hm, hx, hv, hrun, Result.andThen]
  exact hK' _ _ (hK w' r1 r2)
end Go.Proofs.YtfiebibpgbadlaaGreat
