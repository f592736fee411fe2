import Derived.Test.YtccckonckddadaaWalkD
import Derived.Test.YtccckonckddadaaPlainB
namespace Go.Proofs.Ytccckonckddadaa
open Go.RowKit
set_option linter.unusedVariables false

theorem own_below {w w' : World} {B e size n : Nat} {v : Value} {xs : List Value} (h : w.ownsRow B e size v n xs) (hb : Below w.heap.size w w') : w'.ownsRow B e size v n xs := by
  refine ⟨h.1, ?_⟩
  rcases h.2 with hn | ⟨g, cap, cur, rfl, hg, hgg, rest⟩
  · exact .inl hn
  · exact .inr ⟨g, cap, cur, rfl, hg, by rw [hb.block g (Array.getElem?_eq_some_iff.1 hgg).1]; exact hgg, rest⟩

theorem cells_new (w : World) (b : Nat) (hb : b = w.heap.size) (cs : List Value) (t : TypeId) : ∀ j u, cs[j]? = some u → (w.alloc (.cells cs.toArray t)).cell? ((⟨b, 0, none⟩ : Addr).add j) = some u := by
  subst hb
  intro j u h
  cases j with
  | zero => simp [Addr.add, h]
  | succ j => simp [Addr.add, h]

/-- An operation's five cells. -/
def opCells (o : Dk.Op) : List Value := [.int .i64 o.key, .int .u8 o.sign, .bool o.isKey, .int .i64 o.akey, .int .i16 o.num]
def opsCells (os : List Dk.Op) : List Value := os.flatMap opCells

def strLen : Value → Nat | .string s => s.size | _ => 0
def boolN : Value → Nat | .bool true => 1 | _ => 0

theorem info_op : (Try.prog.info? 139).map (fun i => (i.zero, i.size, i.bytes)) = some (some (.agg #[.int .i64 0, .int .u8 0, .bool false, .int .i64 0, .int .i16 0]), 5, 40) := by kernel_rfl

theorem info_parts {P : Program} {t : TypeId} {z : Value} {size bytes : Nat} (h : (P.info? t).map (fun i => (i.zero, i.size, i.bytes)) = some (some z, size, bytes)) :
    ∃ i, P.info? t = some i ∧ i.zero = some z ∧ i.size = size ∧ i.bytes = bytes := by
  cases hi : P.info? t with
  | none => rw [hi] at h; cases h
  | some i => rw [hi] at h; simp at h; exact ⟨i, rfl, h.1, h.2.1, h.2.2⟩

def OpsPost (l : List UInt8) (w : World) (e : Ending) (w' : World) : Prop :=
  ∃ (a : Option Addr) (n c : Nat), e = .returned (.tuple #[.slice a n c, .bool (Dk.opsOk l)]) ∧
    (Dk.opsOk l = true → n = (Dk.opsV l).length ∧ w'.ownsRow w.heap.size 139 5 (.slice a n c) n (opsCells (Dk.opsV l))) ∧ Below w.heap.size w w'

set_option maxHeartbeats 1000000 in
theorem ops_any (s : ByteArray) (w : World) (hs : s.size ≤ maxLen) :
    Calls Try.prog 66 #[.string s] w (OpsPost s.data.toList w) := by
  obtain ⟨i0, hi, hz0, hz1, hz2⟩ := info_parts info_op
  have HI : Hid (_ ∧ _ ∧ _ ∧ _) := ⟨hi, hz0, hz1, hz2⟩
  clear hi hz0 hz1 hz2
  go_enter Try.func66, Try.ntmps66
  go_wp2
  go_loopw [4, 5, 6] (fun v r m wr => ∃ (a : Option Addr) (n c : Nat) (rest : ByteArray) (more : Bool) (ds : List (List UInt8)), v = .slice a n c ∧ r = .string rest ∧ m = .bool more ∧ rest.size ≤ s.size ∧
      n ≤ 8 ∧ Hid (Dk.splitAll 59 s.data.toList = ds ++ (if more then Dk.splitAll 59 rest.data.toList else []) ∧ n = ds.length ∧ ds.all Dk.opOk = true ∧
      wr.ownsRow w.heap.size 139 5 (.slice a n c) n (opsCells (ds.map Dk.opV))) ∧ Hid (Below w.heap.size w wr)) (fun _ r m _ => strLen r + boolN m)
  case atStart => exact ⟨none, 0, 0, s, true, [], rfl, rfl, rfl, Nat.le_refl _, by omega, ⟨rfl, rfl, rfl, World.ownsRow_nil _ _ _ _⟩, Below.refl _ _⟩
  case round =>
    obtain ⟨a, n, c, rest, more, ds, rfl, rfl, rfl, hrs, hn8, HD, HB⟩ := hrel
    cases more
    · obtain ⟨h1, h2⟩ := Dk.ops_good (by simpa using HD.out.1) (by have := HD.out.2.1; omega) HD.out.2.2.1
      have HG : Hid (_ ∧ _) := ⟨h1, h2⟩
      clear h1 h2
      go_wp2
      go_ret2
      refine ⟨a, n, c, by rw [HG.out.1]; rfl, fun _ => ⟨by rw [HG.out.2, List.length_map]; exact HD.out.2.1, ?_⟩, HB.out⟩
      rw [HG.out.2]
      exact HD.out.2.2.2
    · by_cases h8 : n = 8
      · have hb : ((n : Int) == 8) = true := beq_iff_eq.2 (by omega)
        have HN : Hid (Dk.opsOk s.data.toList = false) := Dk.ops_many (by simpa using HD.out.1) (by have := HD.out.2.1; omega)
        clear h8
        go_wp2
        go_ret2
        exact ⟨none, 0, 0, by rw [HN.out]; rfl, by rw [HN.out]; simp, HB.out⟩
      · have hb : ((n : Int) == 8) = false := beq_eq_false_iff_ne.2 (by omega)
        go_wp2_with fail
        refine (cut_any rest 59 _ (by omega)).mono ?_
        rintro e w1 ⟨h, t, rfl, hh, ht, nq, rfl⟩
        have HC : Hid (_ ∧ _) := ⟨hh, ht⟩
        clear hh ht
        obtain ⟨l1, l2, l3⟩ := Dk.cut_len (m := 59) rest.data.toList
        rw [← HC.out.1, ← HC.out.2] at l1
        rw [← HC.out.2] at l2 l3
        simp only [len_list] at l1 l2 l3
        have HL : Hid (_ ∧ _) := ⟨l2, l3⟩
        clear l2 l3
        have hs1 : Dk.splitAll 59 rest.data.toList = h.data.toList :: (if (Dk.cutAt 59 rest.data.toList).2.2 then Dk.splitAll 59 t.data.toList else []) := by
          rw [HC.out.1, HC.out.2]; exact Dk.splitAll_cut 59 rest.data.toList
        generalize (Dk.cutAt 59 rest.data.toList).2.2 = mo at *
        have HS : Hid (Dk.splitAll 59 s.data.toList = ds ++ (h.data.toList :: (if mo then Dk.splitAll 59 t.data.toList else []))) := by
          show _ = _
          rw [← hs1]; simpa using HD.out.1
        clear hs1 HC
        go_wp2_with fail
        refine (op_any h _ (by omega)).mono ?_
        rintro e w2 ⟨k, sg, b, ak, nm, rfl, hv, hb2⟩
        have HV : Hid _ := hv
        clear hv
        have HB2 : Hid (Below wr.heap.size wr w2) := (below_drewN (Below.refl _ wr) nq).trans (hb2.mono (by simp))
        have HB3 : Hid (Below w.heap.size w w2) := HB.out.trans (HB2.out.mono HB.out.size)
        have HO2 : Hid (w2.ownsRow w.heap.size 139 5 (.slice a n c) n (opsCells (ds.map Dk.opV))) := own_below HD.out.2.2.2 HB2.out
        have hz2 : w.heap.size ≤ w2.heap.size := HB3.out.size
        clear hb2
        generalize hok : Dk.opOk h.data.toList = ok at *
        cases ok
        · have HN : Hid (Dk.opsOk s.data.toList = false) := Dk.ops_bad HS.out hok
          clear hok
          go_wp2
          go_ret2
          refine ⟨none, 0, 0, by rw [HN.out]; rfl, by rw [HN.out]; simp, ?_⟩
          exact HB3.out.alloc hz2 _
        · have HOK : Hid _ := hok
          clear hok
          go_wp2_with (at_builtin; refine wpList_append_own _ rfl (.tmp 28) (.tmp 30) 92 rfl w.heap.size 139 i0 (.agg #[.int .i64 0, .int .u8 0, .bool false, .int .i64 0, .int .i16 0]) 5 40 Try.underlying92 HI.out.1 HI.out.2.1 HI.out.2.2.1 HI.out.2.2.2 rfl (by decide) (.slice a n c) n (opsCells (ds.map Dk.opV)) rfl ((HO2.out.alloc _).alloc _) ⟨w2.heap.size + 1, 0, none⟩ 1 1 [.int .i64 k, .int .u8 sg, .bool b, .int .i64 ak, .int .i16 nm] rfl rfl ?c1 ?c2 ?c3 ?c4 ?c5 ?_)
          case c1 => exact cells_new _ _ (by simp) [.int .i64 k, .int .u8 sg, .bool b, .int .i64 ak, .int .i16 nm] _
          case c2 => intro u hu; simp at hu; rcases hu with rfl | rfl | rfl | rfl | rfl <;> rfl
          case c3 => unfold maxLen; omega
          case c4 => omega
          case c5 => simp; omega
          intro v' w3 hown hgr _
          have HR : Hid (Below w.heap.size w w3) := ((HB3.out.alloc hz2 _).alloc (by simp; omega) _).grown hgr (by simp; omega) (fun k hk => (HO2.out.lt k hk).1)
          obtain ⟨a', c', rfl⟩ : ∃ a' c', v' = .slice a' (n + 1) c' := by
            rcases hown.2 with ⟨_, h⟩ | ⟨g, cap, _, h, _⟩
            · omega
            · exact ⟨_, _, h⟩
          have HW : Hid (w3.ownsRow w.heap.size 139 5 (.slice a' (n + 1) c') (n + 1) (opsCells ((ds ++ [h.data.toList]).map Dk.opV))) := by
            have e : opsCells ((ds ++ [h.data.toList]).map Dk.opV) = opsCells (ds.map Dk.opV) ++ [.int .i64 k, .int .u8 sg, .bool b, .int .i64 ak, .int .i16 nm] := by
              unfold opsCells
              rw [List.map_append, List.flatMap_append]
              simp [HV.out trivial, opCells]
            show World.ownsRow _ _ _ _ _ _ _
            rw [e]; exact hown
          clear hown hgr
          go_wp2
          go_roundw
          case rel =>
            refine ⟨a', n + 1, c', t, mo, ds ++ [h.data.toList], rfl, rfl, rfl, by omega, by omega, ⟨?_, ?_, ?_, HW.out⟩, HR.out⟩
            · rw [HS.out, List.append_assoc]; rfl
            · rw [List.length_append, ← HD.out.2.1]; rfl
            · rw [List.all_append, HD.out.2.2.1]; simp [HOK.out]
          case measure =>
            cases mo
            · have : t.size = 0 := congrArg List.length (HL.out.2 rfl)
              simp [strLen, boolN]; omega
            · have := HL.out.1 rfl
              simp [strLen, boolN]; omega

end Go.Proofs.Ytccckonckddadaa
