import Derived.Test.YtccckonckddadaaPlainC
namespace Go.Proofs.Ytccckonckddadaa.Dk
theorem eight {cs : List Int} (h : cs.length = 8) : ∃ z0 z1 z2 z3 z4 z5 z6 z7, cs = [z0, z1, z2, z3, z4, z5, z6, z7] := by
  match cs, h with
  | [z0, z1, z2, z3, z4, z5, z6, z7], _ => exact ⟨_, _, _, _, _, _, _, _, rfl⟩
theorem stepV_len (ks : List Bool) (o : Op) (cs : List Int) : (stepV ks o cs).1.length = cs.length := by
  unfold stepV
  repeat' split
  all_goals simp
theorem stepV_8 (ks : List Bool) (o : Op) (y0 y1 y2 y3 y4 y5 y6 y7 : Int) : ∃ z0 z1 z2 z3 z4 z5 z6 z7 d, stepV ks o [y0, y1, y2, y3, y4, y5, y6, y7] = ([z0, z1, z2, z3, z4, z5, z6, z7], d) := by
  obtain ⟨z0, z1, z2, z3, z4, z5, z6, z7, h⟩ := eight (stepV_len ks o [y0, y1, y2, y3, y4, y5, y6, y7])
  exact ⟨z0, z1, z2, z3, z4, z5, z6, z7, (stepV ks o [y0, y1, y2, y3, y4, y5, y6, y7]).2, by rw [← h]⟩


theorem runV_drop_yes {ks : List Bool} {os : List Op} {cs cs' : List Int} {k : Nat} {o : Op} (h : os[k]? = some o) (hs : stepV ks o cs = (cs', true)) : runV ks (os.drop k) cs = runV ks (os.drop (k + 1)) cs' := by
  obtain ⟨hk, rfl⟩ := List.getElem?_eq_some_iff.1 h
  rw [List.drop_eq_getElem_cons hk, runV, hs]; rfl
theorem runV_drop_no {ks : List Bool} {os : List Op} {cs cs' : List Int} {k : Nat} {o : Op} (h : os[k]? = some o) (hs : stepV ks o cs = (cs', false)) : runV ks (os.drop k) cs = none := by
  obtain ⟨hk, rfl⟩ := List.getElem?_eq_some_iff.1 h
  rw [List.drop_eq_getElem_cons hk, runV, hs]; rfl
theorem runV_end {ks : List Bool} {os : List Op} {cs : List Int} {k : Nat} (h : os.length ≤ k) : runV ks (os.drop k) cs = some cs := by
  rw [List.drop_eq_nil_of_le h]; rfl

end Go.Proofs.Ytccckonckddadaa.Dk

namespace Go.Proofs.Ytccckonckddadaa.Dk
theorem argK_bd (l : List UInt8) : 0 ≤ argK l ∧ argK l < 8 := by
  unfold argK
  have := keyV_bd (l.headD 0).toNat
  split <;> omega
theorem opV_bd (l : List UInt8) : 0 ≤ (opV l).key ∧ (opV l).key < 8 ∧ 0 ≤ (opV l).akey ∧ (opV l).akey < 8 := by
  have h1 := keyV_bd (l.headD 0).toNat
  have h2 := argK_bd (l.drop 2)
  exact ⟨h1.1, by show keyV _ < 8; omega, h2.1, h2.2⟩
theorem opsOf_bd (l : List UInt8) : ∀ o ∈ opsOf l, 0 ≤ o.key ∧ o.key < 8 ∧ 0 ≤ o.akey ∧ o.akey < 8 := by
  intro o ho
  obtain ⟨p, _, rfl⟩ := List.mem_map.1 ho
  exact opV_bd p
theorem opsOf_len {l : List UInt8} (h : parseOk l = true) : (opsOf l).length ≤ 8 := by
  simp only [parseOk, opsOk, Bool.and_eq_true, decide_eq_true_eq] at h
  unfold opsOf opsV
  rw [List.length_map]
  exact h.2.1
theorem applyV_no {l : List UInt8} {cs : List Int} (h : parseOk l = false) : applyV l cs = (cs, false, 1) := by unfold applyV; rw [h]; rfl
theorem applyV_yes {l : List UInt8} {cs : List Int} (h : parseOk l = true) : applyV l cs = ((doV l cs).1, (doV l cs).2, 0) := by unfold applyV; rw [h]; rfl
end Go.Proofs.Ytccckonckddadaa.Dk
