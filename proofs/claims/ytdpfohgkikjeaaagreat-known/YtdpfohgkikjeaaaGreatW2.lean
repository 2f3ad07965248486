/- Part W 2 of the proof: see its parts. -/
import Derived.Lib.Overlaps
import Derived.Laws.Externs
import Derived.Laws.IdiomCopy
import Derived.Lib.AppendZerosOnto
import Derived.Laws.FloatArith
import Derived.Test.YtdpfohgkikjeaaaGreatW1
/- package swap: numbers read back, heads read back. -/
namespace Go.Proofs.YtdpfohgkikjeaaaGreat
open Go.RowKit
set_option linter.unusedVariables false
set_option linter.unusedSimpArgs false

theorem or_step {v b k : Nat} (hv : v < 256 ^ k) (hb : b < 256) (hk : k < 8) : bits BinOp.or IntKind.u64 (v : Int) (IntKind.u64.wrap (IntKind.u64.wrap (b : Int) * 2 ^ (8 * k))) = ((v + 256 ^ k * b : Nat) : Int) := by
  have hp : (2 : Nat) ^ (8 * k) = 256 ^ k := by rw [Nat.pow_mul]
  have hp' : (2 : Int) ^ (8 * k) = ((256 ^ k : Nat) : Int) := by rw [← hp]; simp
  have h7 : 256 ^ k ≤ 256 ^ 7 := Nat.pow_le_pow_right (by decide) (by omega)
  have hx : b * 256 ^ k < 18446744073709551616 := by
    have : b * 256 ^ k ≤ 255 * 256 ^ 7 := Nat.mul_le_mul (by omega) h7
    omega
  rw [IntKind.wrap_u64 (b : Int), show ((b : Int) % 18446744073709551616) = (b : Int) from by omega, hp', IntKind.wrap_u64]
  rw [show (((b : Int) * ((256 ^ k : Nat) : Int)) % 18446744073709551616) = ((b * 256 ^ k : Nat) : Int) from by
    rw [← Int.natCast_mul]; omega]
  rw [u64_or_nat _ _ (by omega) hx, Nat.or_comm, ← hp]
  have h := Nat.shiftLeft_add_eq_or_of_lt (i := 8 * k) (b := v) (by rw [hp]; exact hv) b
  rw [Nat.shiftLeft_eq] at h
  rw [← h, Nat.add_comm, Nat.mul_comm]

set_option maxHeartbeats 400000 in
theorem take_any (s : ByteArray) (size : Nat) (sizeI : Int) (w : World) (hsI : sizeI = (size : Int)) (hs : size ≤ s.size) (h8 : size ≤ 8) (hb : s.size ≤ 64) :
    Calls Tryz.prog 131 #[.string s, .int .i64 sizeI] w fun e w' => e = .returned (.tuple #[.int .u64 (unle (s.data.toList.take size) : Nat), .string ⟨(s.data.toList.drop size).toArray⟩]) ∧ Kept no w w' := by
  subst hsI
  go_enter Tryz.func131, Tryz.ntmps131
  go_wp2
  go_loop [6, 7, 9] (fun v j i => ∃ k : Nat, k ≤ size ∧ v = .int .u64 (unle (s.data.toList.take k) : Nat) ∧ i = .int .i64 k) (fun _ _ i => size - (intOf i).toNat)
  case atStart => exact ⟨0, by omega, rfl, rfl⟩
  case round =>
    obtain ⟨k, hk, rfl, rfl⟩ := hrel
    have hv := unle_lt (s.data.toList.take k)
    have hl : (s.data.toList.take k).length = k := by rw [List.length_take, Array.length_toList]; show min k s.size = k; omega
    rw [hl] at hv
    generalize hV : unle (s.data.toList.take k) = v at hv
    have HV : Hid (unle (s.data.toList.take k) = v) := hV
    clear hV hl
    by_cases hlt : k < size
    · have hlt' : k < s.size := by omega
      go_wp2
      refine ⟨⟨k + 1, by omega, ?_, by go_num⟩, by simp [intOf]; omega⟩
      have hb := s[k].toNat_lt
      rw [or_step hv hb (by omega), take_snoc s k hlt', unle_append, HV.out]
      have hl : (s.data.toList.take k).length = k := by rw [List.length_take, Array.length_toList]; show min k s.size = k; omega
      rw [hl]
      simp [unle]
    · obtain rfl : k = size := by omega
      go_wp2
      go_quiet (fail)
      go_wp2
      go_ret2
      refine ⟨?_, (Kept.refl _ _).drewN _⟩
      rw [HV.out, extract_list, List.take_of_length_le (by rw [Array.length_toList]; exact Nat.le_refl _)]
      rfl
theorem wrap_i64 (n : Nat) (h : n < 18446744073709551616) : IntKind.i64.wrap (n : Int) = i64 n := by
  rw [IntKind.wrap_i64]
  unfold i64
  split <;> omega

theorem take_len (s : ByteArray) (k : Nat) (h : k ≤ s.size) : (s.data.toList.take k).length = k := by
  rw [List.length_take, Array.length_toList]; show min k s.size = k; omega

theorem unle_lt' {l : Str} {n : Nat} (h : l.length ≤ n) : unle l < 256 ^ n :=
  Nat.lt_of_lt_of_le (unle_lt l) (Nat.pow_le_pow_right (by decide) h)

set_option maxHeartbeats 400000 in
theorem takeMark_any (s : ByteArray) (w : World) (hs : 12 ≤ s.size) (hb : s.size ≤ 64) :
    Calls Tryz.prog 132 #[.string s] w fun e w' => e = .returned (.tuple #[.agg #[.int .i64 (parseMark s.data.toList).len, .int .u32 (parseMark s.data.toList).sum], .string ⟨(s.data.toList.drop 12).toArray⟩]) ∧ Kept no w w' := by
  have hl : s.data.toList.length = s.size := by rw [Array.length_toList]; rfl
  go_enter Tryz.func132, Tryz.ntmps132
  go_wp2_with fail
  refine (take_any s 8 _ _ rfl (by omega) (by decide) hb).mono ?_
  rintro e w1 ⟨rfl, hk1⟩
  go_wp2_with fail
  refine (take_any _ 4 _ _ rfl (by show _ ≤ (s.data.toList.drop 8).toArray.size; simp; omega) (by decide) (by show (s.data.toList.drop 8).toArray.size ≤ _; simp; omega)).mono ?_
  rintro e w2 ⟨rfl, hk2⟩
  have h8 := unle_lt' (l := s.data.toList.take 8) (n := 8) (by simp; omega)
  have h4 := unle_lt' (l := (s.data.toList.drop 8).take 4) (n := 4) (by simp; omega)
  have e4 : unle (List.take 4 (ByteArray.mk (s.data.toList.drop 8).toArray).data.toList) = (parseMark s.data.toList).sum := rfl
  have el : (parseMark s.data.toList).len = i64 (unle (s.data.toList.take 8)) := rfl
  have ed : (ByteArray.mk (s.data.toList.drop 8).toArray).data.toList.drop 4 = s.data.toList.drop 12 := by
    show (s.data.toList.drop 8).drop 4 = _
    rw [List.drop_drop]
  have h4' : (parseMark s.data.toList).sum < 4294967296 := h4
  rw [e4, ed]
  have hw8 := wrap_i64 _ h8
  rw [← el] at hw8
  have hr := (hk2.block w.heap.size (by have := hk1.size; simp at this; omega) (fun h => h)).trans ((hk1.block w.heap.size (by simp) (fun h => h)).trans heap_alloc_same)
  obtain ⟨hc, hf⟩ := cells_of hr
  have HR := hr; clear hr
  go_wp2
  refine bodyPost_ret (v := .tuple #[.agg #[.int .i64 (parseMark s.data.toList).len, .int .u32 (parseMark s.data.toList).sum], .string ⟨(s.data.toList.drop 12).toArray⟩]) (by simp [results, Tryz.results132, go_sem, hc, el]) rfl ⟨rfl, ?_⟩
  exact (((((Kept.refl _ _).alloc _).step hk1).step hk2).setNew (Nat.le_refl _) _).setNew (Nat.le_refl _) _

theorem parseHead_ok (s : Str) : (parseHead s).Ok := by
  have h := fun (l : Str) (n : Nat) (hl : l.length ≤ n) => unle_lt' hl
  refine ⟨?_, ?_, ?_⟩
  · exact h ((s.drop 8).take 8) 8 (by simp; omega)
  · exact h (((s.drop 16).drop 8).take 4) 4 (by simp; omega)
  · exact h (((s.drop 28).drop 8).take 4) 4 (by simp; omega)

set_option maxHeartbeats 800000 in
theorem readHead_any (s : ByteArray) (w : World) (hs : s.size = 64) :
    Calls Tryz.prog 103 #[.string s] w fun e w' => e = .returned (.tuple #[((readHead s.data.toList).getD ⟨0, ⟨0, 0⟩, ⟨0, 0⟩⟩).val, .bool (readHead s.data.toList).isSome]) ∧ Kept no w w' := by
  have hl : s.data.toList.length = 64 := by rw [Array.length_toList]; exact hs
  go_enter Tryz.func103, Tryz.ntmps103
  go_wp2_with fail
  obtain ⟨hr0, hh0, hsz, hk0⟩ := new2 w (Obj.cells #[.int .u64 0, .int .i64 0, .int .u32 0, .int .i64 0, .int .u32 0] 164) (Obj.cells #[.int .u64 0, .int .i64 0, .int .u32 0, .int .i64 0, .int .u32 0] 164)
  generalize (w.alloc (Obj.cells #[.int .u64 0, .int .i64 0, .int .u32 0, .int .i64 0, .int .u32 0] 164)).alloc (Obj.cells #[.int .u64 0, .int .i64 0, .int .u32 0, .int .i64 0, .int .u32 0] 164) = W at *
  have e8 : s.extract 8 64 = ⟨(s.data.toList.drop 8).toArray⟩ := by rw [extract_list, List.take_of_length_le (by omega)]
  rw [e8]
  clear e8
  refine (take_any _ 8 _ _ rfl (by show 8 ≤ (s.data.toList.drop 8).toArray.size; simp; omega) (by decide) (by show (s.data.toList.drop 8).toArray.size ≤ 64; simp; omega)).mono ?_
  rintro e w1 ⟨rfl, hk1⟩
  have ed1 : (ByteArray.mk (s.data.toList.drop 8).toArray).data.toList.drop 8 = s.data.toList.drop 16 := by
    show (s.data.toList.drop 8).drop 8 = _
    rw [List.drop_drop]
  have en1 : unle ((ByteArray.mk (s.data.toList.drop 8).toArray).data.toList.take 8) = (parseHead s.data.toList).number := rfl
  rw [ed1, en1]
  clear ed1 en1
  have hr1 := hk1.get hr0 (fun h => h)
  have hh1 := hk1.get hh0 (fun h => h)
  have hkk1 := hk0.step hk1
  clear hr0 hh0 hk0 hk1
  obtain ⟨hc, hf⟩ := cells_of hh1
  have HR : Hid _ := hr1; clear hr1
  have HH : Hid _ := hh1; clear hh1
  go_wp2_with fail
  refine (takeMark_any _ _ (by show 12 ≤ (s.data.toList.drop 16).toArray.size; simp; omega) (by show (s.data.toList.drop 16).toArray.size ≤ 64; simp; omega)).mono ?_
  rintro e w2 ⟨rfl, hk2⟩
  have ed1 : (ByteArray.mk (s.data.toList.drop 16).toArray).data.toList.drop 12 = s.data.toList.drop 28 := by
    show (s.data.toList.drop 16).drop 12 = _
    rw [List.drop_drop]
  have en1 : parseMark ((ByteArray.mk (s.data.toList.drop 16).toArray).data.toList) = (parseHead s.data.toList).text := rfl
  rw [ed1, en1]
  clear ed1 en1
  have hr2 := hk2.get ((heap_set_other (by omega)).trans HR.out) (fun h => h)
  have hh2 := hk2.get (heap_set_same HH.out) (fun h => h)
  have hkk2 := (hkk1.setNew (by dsimp only; omega) _).step hk2
  simp only [List.setIfInBounds_toArray, List.set] at hh2
  clear hk2 HR HH hc hf hkk1
  obtain ⟨hc, hf⟩ := cells_of hh2
  have HR : Hid _ := hr2; clear hr2
  have HH : Hid _ := hh2; clear hh2
  go_wp2_with fail
  refine (takeMark_any _ _ (by show 12 ≤ (s.data.toList.drop 28).toArray.size; simp; omega) (by show (s.data.toList.drop 28).toArray.size ≤ 64; simp; omega)).mono ?_
  rintro e w3 ⟨rfl, hk3⟩
  have en1 : parseMark ((ByteArray.mk (s.data.toList.drop 28).toArray).data.toList) = (parseHead s.data.toList).file := rfl
  rw [en1]
  clear en1
  have hr3 := hk3.get ((heap_set_other (by omega)).trans ((heap_set_other (by omega)).trans HR.out)) (fun h => h)
  have hh3 := hk3.get (heap_set_same (heap_set_same HH.out)) (fun h => h)
  have hkk3 := ((hkk2.setNew (by dsimp only; omega) _).setNew (by dsimp only; omega) _).step hk3
  simp only [List.setIfInBounds_toArray, List.set] at hh3
  clear hk3 HR HH hc hf hkk2
  obtain ⟨hc, hf⟩ := cells_of hh3
  have HR : Hid _ := hr3; clear hr3
  have HH : Hid _ := hh3; clear hh3
  go_wp2_with fail
  refine (sector_any (parseHead s.data.toList) _ (parseHead_ok _)).mono ?_
  rintro e w4 ⟨rfl, hk4⟩
  have hr4 := hk4.get ((heap_set_other (by omega)).trans ((heap_set_other (by omega)).trans HR.out)) (fun h => h)
  have hh4 := hk4.get (heap_set_same (heap_set_same HH.out)) (fun h => h)
  have hkk4 := ((hkk3.setNew (by dsimp only; omega) _).setNew (by dsimp only; omega) _).step hk4
  simp only [List.setIfInBounds_toArray, List.set] at hh4
  clear hk4 HR HH hc hf hkk3
  obtain ⟨hc, hf⟩ := cells_of hh4
  obtain ⟨hc', hf'⟩ := cells_of hr4
  have HR : Hid _ := hr4; clear hr4
  have HH : Hid _ := hh4; clear hh4
  have hb : (headBytes (parseHead s.data.toList) == s.toList) = (readHead s.data.toList).isSome := by
    rw [ByteArray.toList_eq, readHead]
    show (headBytes (parseHead s.data.toList) == s.data.toList) = _
    by_cases h : headBytes (parseHead s.data.toList) = s.data.toList
    · rw [if_pos h, h]; simp
    · rw [if_neg h]; simpa using h
  cases hs : readHead s.data.toList with
  | none =>
    rw [hs] at hb
    simp only [Option.isSome_none] at hb
    go_wp2
    refine bodyPost_ret (v := .tuple #[Head.val ⟨0, ⟨0, 0⟩, ⟨0, 0⟩⟩, .bool false]) (by simp [results, Tryz.results103, go_sem, hc', Head.val]) rfl ⟨by rw [hs]; rfl, ?_⟩
    exact ((((hkk4.setNew (Nat.le_refl _) _).setNew (Nat.le_refl _) _).setNew (Nat.le_refl _) _).setNew (Nat.le_refl _) _).setNew (Nat.le_refl _) _
  | some h =>
    rw [hs] at hb
    simp only [Option.isSome_some] at hb
    have hh : Hid (parseHead s.data.toList = h) := by
      show parseHead s.data.toList = h
      unfold readHead at hs
      split at hs
      · exact Option.some.inj hs
      · cases hs
    go_wp2
    refine bodyPost_ret (v := .tuple #[Head.val (parseHead s.data.toList), .bool true]) (by simp [results, Tryz.results103, go_sem, hc', Head.val]) rfl ⟨by rw [hs, hh.out]; rfl, ?_⟩
    exact ((((hkk4.setNew (Nat.le_refl _) _).setNew (Nat.le_refl _) _).setNew (Nat.le_refl _) _).setNew (Nat.le_refl _) _).setNew (Nat.le_refl _) _

end Go.Proofs.YtdpfohgkikjeaaaGreat
/- package swap: the Writer, the halves. -/
namespace Go.Proofs.YtdpfohgkikjeaaaGreat
open Go.RowKit
set_option linter.unusedVariables false
set_option linter.unusedSimpArgs false

set_option maxHeartbeats 400000 in
theorem later_any (a b : Nat) (w : World) (ha : a < 18446744073709551616) (hb : b < 18446744073709551616) :
    Calls Tryz.prog 130 #[.int .u64 a, .int .u64 b] w fun e w' => e = .returned (.bool (isLater a b)) ∧ w' = w := by
  go_enter Tryz.func130, Tryz.ntmps130
  go_wp2
  go_ret
  refine ⟨?_, rfl⟩
  have e : IntKind.i64.wrap (IntKind.u64.wrap ((a : Int) - b)) = i64 ((a + 18446744073709551616 - b) % 18446744073709551616) := by
    rw [IntKind.wrap_u64, ← wrap_i64 _ (Nat.mod_lt _ (by decide))]
    congr 1
    omega
  have e2 : wrap64 (IntKind.u64.wrap ((a : Int) - b)) = i64 ((a + 18446744073709551616 - b) % 18446744073709551616) := by
    rw [← e, IntKind.wrap_i64]
    unfold wrap64
    rfl
  show Ending.returned (.bool (decide (0 < wrap64 (IntKind.u64.wrap ((a : Int) - b))))) = _
  rw [e2]
  rfl

set_option maxHeartbeats 400000 in
theorem fresh_any (b o : Nat) (known : Bool) (w : World) (h : w.cell? ⟨b, o, none⟩ = some (.bool known)) :
    Calls Tryz.prog 58 #[.pointer (some ⟨b, o, none⟩)] w fun e w' => e = .returned (.bool (!known)) ∧ w' = w := by
  go_enter Tryz.func58, Tryz.ntmps58
  go_wp2
  go_ret
  exact ⟨rfl, rfl⟩

set_option maxHeartbeats 400000 in
theorem next_any (b o : Nat) (half : Int) (number : Nat) (w : World) (h2 : w.cell? ⟨b, o + 2, none⟩ = some (.int .i64 half)) (h3 : w.cell? ⟨b, o + 3, none⟩ = some (.int .u64 number)) (hh0 : 0 ≤ half) (hh1 : half ≤ 1) (hn : number < 18446744073709551616) :
    Calls Tryz.prog 116 #[.pointer (some ⟨b, o, none⟩)] w fun e w' => e = .returned (.tuple #[.int .i64 (1 - half), .int .u64 ((number + 1) % 18446744073709551616 : Nat)]) ∧ ∃ n, w' = w.drewN n := by
  go_enter Tryz.func116, Tryz.ntmps116
  go_wp2
  go_quiet (fail)
  go_wp2
  go_ret2
  refine ⟨?_, _, rfl⟩
  have e : IntKind.u64.wrap ((number : Int) + 1) = (((number + 1) % 18446744073709551616 : Nat) : Int) := by rw [IntKind.wrap_u64]; omega
  rw [← e]
  rfl

/-- The writer at ⟨b, o⟩: its four cells. -/
def WriterCells (known unsettled : Bool) (half : Int) (number : Nat) : List Value := [.bool known, .bool unsettled, .int .i64 half, .int .u64 number]

set_option maxHeartbeats 400000 in
theorem written_any (b o : Nat) (half : Int) (number : Nat) (w : World) (c0 c1 : Value) (h0 : w.cell? ⟨b, o, none⟩ = some c0) (h1 : w.cell? ⟨b, o + 1, none⟩ = some c1)
    (h2 : w.cell? ⟨b, o + 2, none⟩ = some (.int .i64 half)) (h3 : w.cell? ⟨b, o + 3, none⟩ = some (.int .u64 number)) (hf : ∀ k, w.frozen? ⟨b, k, none⟩ = false) (hh0 : 0 ≤ half) (hh1 : half ≤ 1) (hn : number < 18446744073709551616) :
    Calls Tryz.prog 101 #[.pointer (some ⟨b, o, none⟩)] w fun e w' => e = .returned (.tuple #[]) ∧
      ∃ n, w' = ((((w.drewN n).setCell ⟨b, o, none⟩ (.bool true)).setCell ⟨b, o + 1, none⟩ (.bool false)).setCell ⟨b, o + 2, none⟩ (.int .i64 (1 - half))).setCell ⟨b, o + 3, none⟩ (.int .u64 ((number + 1) % 18446744073709551616 : Nat)) := by
  go_enter Tryz.func101, Tryz.ntmps101
  go_wp2_with fail
  refine (next_any b o half number w h2 h3 hh0 hh1 hn).mono ?_
  rintro e w' ⟨rfl, n, rfl⟩
  go_wp2
  go_end0
  exact ⟨rfl, n, rfl⟩

/-- The block b bears these texts from o on. -/
def StrsAt (w : World) (b o : Nat) (l : List Str) : Prop := ∀ j s, l[j]? = some s → w.cell? ⟨b, o + j, none⟩ = some (.string ⟨s.toArray⟩)

theorem StrsAt.kept {w w' : World} {b o : Nat} {l : List Str} {S : Blocks} (h : StrsAt w b o l) (k : Kept S w w') (hn : ¬ S b) : StrsAt w' b o l := by
  intro j s hs
  have hc := h j s hs
  have hlt := World.block_lt_of_cell? _ _ hc
  rw [World.cell?_of_block (w := w) (k.block b hlt hn)]
  exact hc

set_option maxHeartbeats 800000 in
theorem laterHalf_any (b o cap : Nat) (secs : List Str) (w : World) (hs : StrsAt w b o secs) (hl : secs.length = 400) (h64 : ∀ s ∈ secs, s.length = 64) (hcap : 400 ≤ cap) :
    Calls Tryz.prog 102 #[.slice (some ⟨b, o, none⟩) 400 cap] w fun e w' => e = .returned (.int .i64 (laterHalf (secs.getD 0 []) (secs.getD 40 []) : Nat)) ∧ Kept no w w' := by
  obtain ⟨s0, hs0⟩ : ∃ s, secs[0]? = some s := ⟨_, List.getElem?_eq_getElem (by omega)⟩
  obtain ⟨s1, hs1⟩ : ∃ s, secs[40]? = some s := ⟨_, List.getElem?_eq_getElem (by omega)⟩
  have e0 : secs.getD 0 [] = s0 := by simp [hs0]
  have e1 : secs.getD 40 [] = s1 := by simp [hs1]
  rw [e0, e1]
  have hc0 : w.cell? ⟨b, o, none⟩ = _ := hs 0 s0 hs0
  have l0 := h64 s0 (List.mem_of_getElem? hs0)
  have l1 := h64 s1 (List.mem_of_getElem? hs1)
  go_enter Tryz.func102, Tryz.ntmps102
  go_wp2_with fail
  refine (headAt_any _ _ (by decide) (by decide)).mono ?_
  rintro e w' ⟨rfl, rfl⟩
  go_wp2_with fail
  refine (readHead_any _ _ (show (ByteArray.mk s0.toArray).size = 64 from l0)).mono ?_
  rintro e w1 ⟨rfl, hk1⟩
  have hs1' := (hs.kept hk1 (fun h => h)) 40 s1 hs1
  have ee : (ByteArray.mk s0.toArray).data.toList = s0 := rfl
  rw [ee]
  clear ee
  generalize hv0 : ((readHead s0).getD ⟨0, ⟨0, 0⟩, ⟨0, 0⟩⟩) = v0
  simp only [Head.val]
  clear hc0
  have hs1'' := fun o' => (World.cell?_alloc_lt w1 o' _ (World.block_lt_of_cell? _ _ hs1')).trans hs1'
  go_wp2_with fail
  refine (headAt_any _ _ (by decide) (by decide)).mono ?_
  rintro e w' ⟨rfl, rfl⟩
  go_wp2_with fail
  refine (readHead_any _ _ (show (ByteArray.mk s1.toArray).size = 64 from l1)).mono ?_
  rintro e w2 ⟨rfl, hk2⟩
  have ee : (ByteArray.mk s1.toArray).data.toList = s1 := rfl
  rw [ee]
  clear ee hs1'' hs1'
  have hb0 := hk2.get (heap_alloc_same (w := w1) (o := Obj.cells #[.int .u64 v0.number, .int .i64 v0.text.len, .int .u32 v0.text.sum, .int .i64 v0.file.len, .int .u32 v0.file.sum] 164)) (fun h => h)
  generalize hv1 : ((readHead s1).getD ⟨0, ⟨0, 0⟩, ⟨0, 0⟩⟩) = v1
  simp only [Head.val]
  have hlt := lt_of_heap hb0
  have hc0 := fun o' k => (World.cell?_alloc_lt w2 o' ⟨w1.heap.size, k, none⟩ hlt).trans (cells_of' hb0 k)
  have hkk : Kept no w' w2 := (hk1.alloc _).step hk2
  have ok0 : v0.number < 18446744073709551616 := by
    rw [← hv0]
    cases hx : readHead s0 with
    | none => decide
    | some h => simp only [Option.getD_some]; unfold readHead at hx; split at hx <;> cases hx; exact (parseHead_ok s0).number
  have ok1 : v1.number < 18446744073709551616 := by
    rw [← hv1]
    cases hx : readHead s1 with
    | none => decide
    | some h => simp only [Option.getD_some]; unfold readHead at hx; split at hx <;> cases hx; exact (parseHead_ok s1).number
  have HB : Hid _ := hb0; clear hb0
  cases hx1 : readHead s1 with
  | none =>
    simp only [hx1, Option.isSome_none, Option.isSome_some]
    clear hv0 hv1
    go_wp2
    go_ret
    refine ⟨?_, ?_⟩
    · simp only [laterHalf, hx1]
      rfl
    · exact hkk.alloc _
  | some h1 =>
    have e1 : v1 = h1 := by rw [← hv1, hx1]; rfl
    subst e1
    cases hx0 : readHead s0 with
    | none =>
      simp only [hx1, hx0, Option.isSome_none, Option.isSome_some]
      clear hv0 hv1
      go_wp2
      go_ret
      refine ⟨?_, ?_⟩
      · simp only [laterHalf, hx0, hx1]
        rfl
      · exact hkk.alloc _
    | some h0 =>
      have e0' : v0 = h0 := by rw [← hv0, hx0]; rfl
      subst e0'
      simp only [hx1, hx0, Option.isSome_none, Option.isSome_some]
      clear hv0 hv1
      cases hlat : isLater v1.number v0.number
      all_goals go_wp2_with (go_at_call 130; refine (later_any _ _ _ ok1 ok0).mono ?_; rintro e w' ⟨rfl, rfl⟩)
      all_goals go_ret
      · refine ⟨?_, ?_⟩
        · simp only [laterHalf, hx0, hx1, hlat]
          rfl
        · exact hkk.alloc _
      · refine ⟨?_, ?_⟩
        · simp only [laterHalf, hx0, hx1, hlat]
          rfl
        · exact hkk.alloc _

end Go.Proofs.YtdpfohgkikjeaaaGreat
/- The library's functions as this program calls them: Join, Clone, Contains, Cut at a line's end. -/
namespace Go.Proofs.YtdpfohgkikjeaaaGreat
open Go.RowKit
set_option linter.unusedVariables false
set_option linter.unusedSimpArgs false

/-- Bytes as a string's value. -/
abbrev sv (l : Str) : Value := .string ⟨l.toArray⟩

theorem sv_of (s : ByteArray) : sv s.data.toList = .string s := rfl

theorem join_flat (xs : List Str) : Go.Lib.join xs [] = xs.flatten := by
  unfold Go.Lib.join
  induction xs with
  | nil => rfl
  | cons x xs ih =>
    cases xs with
    | nil => simp
    | cons y ys => rw [List.intercalate_cons_cons, ih]; simp

theorem join_any (b o n cap : Nat) (nI : Int) (xs : List Str) (w : World) (hn : xs.length = n) (hs : StrsAt w b o xs) (hb : b < w.heap.size) (hc : n ≤ cap) (hN : n ≤ 1000) (hlen : xs.flatten.length ≤ 140737488355328) :
    Calls Tryz.prog 133 #[.slice (some ⟨b, o, none⟩) n cap, .string ⟨#[]⟩] w fun e w' => e = .returned (sv xs.flatten) ∧ Kept no w w' := by
  subst hn
  have h := Any.strings_Join Tryz.lays156 Tryz.Builder_Extra_156 b o cap (xs.map fun x => ⟨x.toArray⟩) ⟨#[]⟩ w (fun j x hx => by
    rw [List.getElem?_map, Option.map_eq_some_iff] at hx
    obtain ⟨y, hy, rfl⟩ := hx
    exact hs j y hy) hb (by simp; omega) (by simpa using hc) (by
      rw [List.map_map]
      have e : (xs.map ((fun x : ByteArray => x.data.toList) ∘ fun x : Str => ⟨x.toArray⟩)) = xs := by simp [Function.comp_def]
      rw [e]
      show (Go.Lib.join xs []).length ≤ _
      rw [join_flat]; exact hlen)
  rw [List.length_map] at h
  refine h.mono fun e w' ⟨he, hb⟩ => ⟨?_, Kept.of_below hb _⟩
  rw [he, List.map_map]
  have e : (xs.map ((fun x : ByteArray => x.data.toList) ∘ fun x : Str => ⟨x.toArray⟩)) = xs := by simp [Function.comp_def]
  rw [e]
  show Ending.returned (.string ⟨(Go.Lib.join xs []).toArray⟩) = _
  rw [join_flat]

set_option maxHeartbeats 400000 in
theorem clone_any (s : ByteArray) (w : World) (hs : s.size ≤ 281474976710656) :
    Calls Tryz.prog 76 #[.string s] w fun e w' => e = .returned (.string s) ∧ Kept no w w' := by
  go_enter Tryz.func76, Tryz.ntmps76
  go_wp2_with (go_at_call 100; refine (Any.stringslite_Clone Tryz.laysM316 _ _ hs).mono ?_; rintro e w' ⟨rfl, hb⟩)
  go_ret
  exact ⟨rfl, Kept.of_below hb _⟩

theorem index_mem (l : Str) (c : UInt8) : (c ∉ l ∧ Go.Lib.indexByte l c = -1) ∨ ∃ a b, l = a ++ c :: b ∧ c ∉ a ∧ Go.Lib.indexByte l c = (a.length : Int) := by
  induction l with
  | nil => exact .inl ⟨by simp, rfl⟩
  | cons x l ih =>
    by_cases hx : x = c
    · subst hx
      exact .inr ⟨[], l, rfl, by simp, by simp [Go.Lib.indexByte]⟩
    · have hne : (x == c) = false := by simpa using hx
      rcases ih with ⟨h1, h2⟩ | ⟨a, b, rfl, h2, h3⟩
      · exact .inl ⟨by simp [h1]; exact fun e => hx e.symm, by simp [Go.Lib.indexByte, hne, h2]⟩
      · refine .inr ⟨x :: a, b, rfl, by simp [h2]; exact fun e => hx e.symm, ?_⟩
        have : (Go.Lib.indexByte (a ++ c :: b) c == -1) = false := by rw [h3]; simp
        simp [Go.Lib.indexByte, hne, this, h3]

theorem contains_any (s : ByteArray) (w : World) :
    Calls Tryz.prog 84 #[.string s, .string ⟨#[10]⟩] w fun e w' => e = .returned (.bool (s.data.toList.contains 10)) ∧ w' = w := by
  refine (Any.strings_Contains_one Tryz.lays144 s 10 w).mono fun e w' ⟨he, hw⟩ => ⟨?_, hw⟩
  rw [he]
  rcases index_mem s.data.toList 10 with ⟨h1, h2⟩ | ⟨a, b, h1, h2, h3⟩
  · rw [h2]; simp [h1]
  · rw [h3, h1]; simp

set_option maxHeartbeats 400000 in
theorem cutlite_any (s : ByteArray) (w : World) (hs : s.size ≤ 140737488355328) :
    Calls Tryz.prog 128 #[.string s, .string ⟨#[10]⟩] w fun e w' => ((∃ a b, s.data.toList = a ++ 10 :: b ∧ 10 ∉ a ∧ e = .returned (.tuple #[sv a, sv b, .bool true])) ∨ (10 ∉ s.data.toList ∧ e = .returned (.tuple #[.string s, .string ⟨#[]⟩, .bool false]))) ∧ ∃ n, w' = w.drewN n := by
  have hsz : s.data.toList.length = s.size := by rw [Array.length_toList]; rfl
  go_enter Tryz.func128, Tryz.ntmps128
  go_wp2_with fail
  refine (Any.stringslite_Index_one { Tryz.lays144 with } s 10 w).mono ?_
  rintro e w' ⟨rfl, rfl⟩
  rcases index_mem s.data.toList 10 with ⟨h1, h2⟩ | ⟨a, b, h1, h2, h3⟩
  · rw [h2]
    go_wp2
    go_ret3
    exact ⟨.inr ⟨h1, rfl⟩, 0, rfl⟩
  · rw [h3]
    have hl : a.length + 1 ≤ s.size := by rw [← hsz, h1]; simp
    have H1 : Hid _ := h1; clear h1
    go_wp2
    go_quiet (fail)
    go_wp2
    go_ret3
    have e1 : s.extract 0 a.length = ⟨a.toArray⟩ := by rw [extract_list, H1.out]; simp
    have e2 : s.extract (a.length + 1) s.size = ⟨b.toArray⟩ := by
      rw [extract_list, ← hsz, List.take_length, H1.out]; simp
    exact ⟨.inl ⟨a, b, H1.out, h2, by rw [e1, e2]; rfl⟩, _, rfl⟩
set_option maxHeartbeats 400000 in
theorem cutstr_any (s : ByteArray) (w : World) (hs : s.size ≤ 140737488355328) :
    Calls Tryz.prog 97 #[.string s, .string ⟨#[10]⟩] w fun e w' => ((∃ a b, s.data.toList = a ++ 10 :: b ∧ 10 ∉ a ∧ e = .returned (.tuple #[sv a, sv b, .bool true])) ∨ (10 ∉ s.data.toList ∧ e = .returned (.tuple #[.string s, .string ⟨#[]⟩, .bool false]))) ∧ ∃ n, w' = w.drewN n := by
  go_enter Tryz.func97, Tryz.ntmps97
  go_wp2_with (go_at_call 128; refine (cutlite_any _ _ hs).mono ?_; rintro e w' ⟨h, nq, rfl⟩; rcases h with ⟨a, b, h1, h2, rfl⟩ | ⟨h1, rfl⟩)
  · go_ret3
    exact ⟨.inl ⟨a, b, h1, h2, rfl⟩, _, rfl⟩
  · go_ret3
    exact ⟨.inr ⟨h1, rfl⟩, _, rfl⟩
end Go.Proofs.YtdpfohgkikjeaaaGreat
/- The library's Insert, Delete and Clone on rows that are owned, twice: of strings and of nodes' addresses. -/
namespace Go.Proofs.YtdpfohgkikjeaaaGreat
open Go.RowKit
set_option linter.unusedVariables false
set_option linter.unusedSimpArgs false

theorem heap_setCells_other {g : Nat} {k : Nat} (hk : g ≠ k) : ∀ (vs : List Value) (o : Nat) (w : World), (w.setCells g o vs).heap[k]? = w.heap[k]?
  | [], _, _ => rfl
  | v :: r, o, w => by rw [World.setCells, heap_setCells_other hk r, heap_set_other hk]

theorem heap_setCells {g : Nat} {e : TypeId} {f : Nat × Nat} : ∀ (vs : List Value) (o : Nat) (w : World) (cur : List Value), w.heap[g]? = some (.cells cur.toArray e f) → o + vs.length ≤ cur.length →
    (w.setCells g o vs).heap[g]? = some (.cells (cur.take o ++ vs ++ cur.drop (o + vs.length)).toArray e f)
  | [], o, w, cur, h, _ => by simpa [World.setCells] using h
  | v :: r, o, w, cur, h, hl => by
    simp only [List.length_cons] at hl
    have hq := heap_setCells (e := e) (f := f) r (o + 1) (w.setCell ⟨g, o, none⟩ v) (cur.set o v) (by rw [heap_set_same h]; simp) (by simp; omega)
    rw [World.setCells, hq]
    have e1 : (cur.set o v).take (o + 1) = cur.take o ++ [v] := by
      rw [List.take_add_one, List.take_set_of_le (by omega)]
      simp [List.getElem?_set_self (show o < cur.length by omega)]
    have e2 : (cur.set o v).drop (o + 1 + r.length) = cur.drop (o + 1 + r.length) := by rw [List.drop_set_of_lt (by omega)]
    rw [e1, e2]
    simp [Nat.add_comm, Nat.add_left_comm]

theorem Kept.setCells {S : Blocks} {a : World} {g : Nat} (hg : g < a.heap.size → S g) : ∀ (vs : List Value) (o : Nat) {b : World}, Kept S a b → Kept S a (b.setCells g o vs)
  | [], _, _, h => h
  | v :: r, o, b, h => by rw [World.setCells]; exact Kept.setCells hg r (o + 1) (h.setCell (p := ⟨g, o, none⟩) hg v)

/-- What a copy into a row leaves. -/
structure Copied (w w' : World) (g o : Nat) (cur cs : List Value) (e : TypeId) : Prop where
  row : w'.heap[g]? = some (.cells (cur.take o ++ cs ++ cur.drop (o + cs.length)).toArray e (0, 0))
  kept : Kept (fun k => k = g) w w'

theorem run_copy_row {P : Program} {t e : TypeId} {bytes : Nat} (T : SliceTy P t e 1 bytes) (ty : TypeId) (w : World) (g o dl dc : Nat) (cur : List Value) (hg : w.heap[g]? = some (.cells cur.toArray e (0, 0)))
    (g' o' sl sc : Nat) (cs : List Value) (hn : cs.length = min sl dl) (hsrc : ∀ j v, cs[j]? = some v → w.cell? ⟨g', o' + j, none⟩ = some v) (hin : o + cs.length ≤ cur.length) (h1 : ∀ v ∈ cs, v.oneCell' = true) :
    ∃ w', (Builtin.copy_ #[t, t] ty #[.slice (some ⟨g, o, none⟩) dl dc, .slice (some ⟨g', o', none⟩) sl sc]).run P w = .ok (goInt cs.length) w' ∧ Copied w w' g o cur cs e := by
  obtain ⟨i, z, hi, hz, hs, hb, hzs⟩ := T.info
  obtain ⟨hc, hf⟩ := cells_of hg
  refine ⟨_, run_copy_cells w t t ty e g o dl dc ⟨g', o', none⟩ sl sc cs T.under (by rw [hi]; simp [hs]) hn (fun j v hj => by rw [add_at]; exact hsrc j v hj) (fun j hj => ?_) (fun j _ => hf _) h1, heap_setCells cs o w cur hg hin, Kept.setCells (S := fun k => k = g) (fun _ => rfl) cs o (Kept.refl _ _)⟩
  rw [hc, List.getElem?_toArray, List.getElem?_eq_getElem (by omega)]; rfl

section
variable {P : Program} {w : World} {ops : Array Oper} {rest : List Oper} {o : Oper} {a : Act} {Q : Exit → Act → World → Prop}
theorem wp_copy_row {K : Act → World → Prop} (d s : Operand) (t : TypeId) (ho : o.op = .call { callee := .builtin .copy, args := #[d, s], argTypes := #[t, t] })
    {e : TypeId} {bytes : Nat} (T : SliceTy P t e 1 bytes) {g at' dl dc : Nat} (hd : a.eval d = .slice (some ⟨g, at', none⟩) dl dc) (cur : List Value) (hg : w.heap[g]? = some (.cells cur.toArray e (0, 0)))
    {g' o' sl sc : Nat} (hs : a.eval s = .slice (some ⟨g', o', none⟩) sl sc) (cs : List Value) (hn : cs.length = min sl dl) (hsrc : ∀ j v, cs[j]? = some v → w.cell? ⟨g', o' + j, none⟩ = some v) (hin : at' + cs.length ≤ cur.length) (h1 : ∀ v ∈ cs, v.oneCell' = true)
    (h : ∀ w', Copied w w' g at' cur cs e → K (a.put o.dst (goInt cs.length)) w') : o.wp P a w K Q := by
  obtain ⟨w', hr, hw⟩ := run_copy_row T o.type w g at' dl dc cur hg g' o' sl sc cs hn hsrc hin h1
  unfold Oper.wp execOp
  simp only [ho, resolve, invoke, builtin, Sem.run_bind, Sem.run_pure, Result.andThen_ok, List.map_toArray, List.map_cons, List.map_nil, hd, hs, hr]
  exact h w' hw

theorem wpList_copy_row (hgd : o.guard = none) (d s : Operand) (t : TypeId) (ho : o.op = .call { callee := .builtin .copy, args := #[d, s], argTypes := #[t, t] })
    {e : TypeId} {bytes : Nat} (T : SliceTy P t e 1 bytes) {g at' dl dc : Nat} (hd : a.eval d = .slice (some ⟨g, at', none⟩) dl dc) (cur : List Value) (hg : w.heap[g]? = some (.cells cur.toArray e (0, 0)))
    {g' o' sl sc : Nat} (hs : a.eval s = .slice (some ⟨g', o', none⟩) sl sc) (cs : List Value) (hn : cs.length = min sl dl) (hsrc : ∀ j v, cs[j]? = some v → w.cell? ⟨g', o' + j, none⟩ = some v) (hin : at' + cs.length ≤ cur.length) (h1 : ∀ v ∈ cs, v.oneCell' = true)
    (h : ∀ w', Copied w w' g at' cur cs e → wpList P ops Q rest (a.put o.dst (goInt cs.length)) w') : wpList P ops Q (o :: rest) a w :=
  wpList_plain hgd fun _ hK => wp_copy_row d s t ho T hd cur hg hs cs hn hsrc hin h1 (fun w' hw => hK _ _ (h w' hw))

/-- append(v, make([]T, k)..), where there is no room. -/
theorem wpList_zeros (hgd : o.guard = none) (s x : Operand) (t tn : TypeId) (ho : o.op = .call { callee := .builtin .append, args := #[s, x], argTypes := #[t, tn] })
    {e : TypeId} {bytes : Nat} (T : SliceTy P t e 1 bytes) (htn : P.underlying tn = some (.int .i64)) {g n c : Nat} (hs : a.eval s = .slice (some ⟨g, 0, none⟩) n c) (k : Nat) (hx : a.eval x = .int .i64 (k : Int)) (xs : List Value) (hl : xs.length = n)
    (hxs : ∀ j u, xs[j]? = some u → w.cell? ⟨g, j, none⟩ = some u) (h0 : 0 < k) (hg : c < n + k) (hb : bytes ≤ 64) (hn : n + k ≤ 1099511627776) (m : Nat) (hm : n + k = m)
    (h : ∀ w' c', n + k ≤ c' → c' ≤ maxLen → ∀ zs : List Value, zs.length = c' - n → w'.heap[w.heap.size]? = some (.cells (xs ++ zs).toArray e (0, 0)) → Kept no w w' → w.heap.size < w'.heap.size → wpList P ops Q rest (a.put o.dst (.slice (some ⟨w.heap.size, 0, none⟩) m c')) w') : wpList P ops Q (o :: rest) a w := by
  subst hm
  obtain ⟨i, z, hi, hz, hsz, hby, hzs⟩ := T.info
  have hbb : (n + k) * bytes ≤ 140737488355328 := Nat.le_trans (Nat.mul_le_mul hn hb) (by omega)
  have hr := fun ty => Lib.run_append_grow_zeros w t tn ty e i z .i64 .i64 T.under htn hi hz (some ⟨g, 0, none⟩) n c xs (by rw [hsz]; exact run_firstCells_some w.drew 1 n ⟨g, 0, none⟩ n c xs (by omega) (fun j u hj => by rw [add_at, Nat.zero_add]; exact hxs j u hj)) k h0 (by omega) hg (by omega)
    (by rw [hby]; have : k * bytes ≤ (n + k) * bytes := Nat.mul_le_mul (by omega) (Nat.le_refl _); omega) (by rw [hby]; exact growslice_fits (by omega) hbb)
  refine wpList_plain hgd fun K hK => ?_
  unfold Oper.wp execOp
  simp only [ho, resolve, invoke, builtin, Sem.run_bind, Sem.run_pure, Result.andThen_ok, List.map_toArray, List.map_cons, List.map_nil, hs, hx, hr]
  have hge := grownCap_ge w (n + k) c e
  refine hK _ _ (h _ _ hge (grownCap_le_maxLen w (n + k) c e (by simp only [maxLen]; omega)) (Builtin.zeroCells z.cells k ++ Builtin.zeroCells z.cells (grownCap w (n + k) c e - (n + k))).toList (by simp [size_zeroCells, hzs, hsz]; omega) ?_ (((Kept.refl _ _).drew).alloc _) (by simp))
  refine (heap_alloc_same (w := w.drew)).trans ?_
  simp [Array.append_assoc]
end

theorem tyS : SliceTy Tryz.prog 34 9 1 16 := SliceTy.mk' (z := (Value.string ⟨#[]⟩)) (by kernel_rfl) (by kernel_rfl) rfl (by decide)
theorem tyK : SliceTy Tryz.prog 86 141 1 8 := SliceTy.mk' (z := (Value.pointer none)) (by kernel_rfl) (by kernel_rfl) rfl (by decide)

theorem get1 {w : World} {g : Nat} {x : Value} (h : w.cell? ⟨g, 0, none⟩ = some x) : ∀ j v, [x][j]? = some v → w.cell? ⟨g, 0 + j, none⟩ = some v := fun j v hj => by
  match j, hj with
  | 0, hj => simp at hj; subst hj; simpa using h

section
variable {P : Program} {w : World} {ops : Array Oper} {rest : List Oper} {o : Oper} {a : Act} {Q : Exit → Act → World → Prop}
/-- append where there is room. -/
theorem wp_app_room {K : Act → World → Prop} (s x : Operand) (t : TypeId) (ho : o.op = .call { callee := .builtin .append, args := #[s, x], argTypes := #[t, t] })
    {e : TypeId} {bytes : Nat} (T : SliceTy P t e 1 bytes) {g n c : Nat} (hs : a.eval s = .slice (some ⟨g, 0, none⟩) n c) (cur : List Value) (hg : w.heap[g]? = some (.cells cur.toArray e (0, 0))) (hcl : cur.length = c)
    {g' o' m c' : Nat} (hx : a.eval x = .slice (some ⟨g', o', none⟩) m c') (cs : List Value) (hl : cs.length = m) (hsrc : ∀ j v, cs[j]? = some v → w.cell? ⟨g', o' + j, none⟩ = some v) (hroom : n + m ≤ c) (h1 : ∀ v ∈ cs, v.oneCell' = true)
    (h : ∀ w', Copied w w' g n cur cs e → K (a.put o.dst (.slice (some ⟨g, 0, none⟩) (n + m) c)) w') : o.wp P a w K Q := by
  obtain ⟨i, z, hi, hz, hsz, hb, hzs⟩ := T.info
  obtain ⟨hc, hf⟩ := cells_of hg
  have hr := fun ty => run_append_room_cells (P := P) (w := w) t ty e i T.under hi g 0 n c ⟨g', o', none⟩ m c' cs (by rw [hsz]; omega) (fun j v hj => by rw [add_at]; exact hsrc j v hj) h1 hroom (fun j hj => by rw [hc, List.getElem?_toArray, hsz, List.getElem?_eq_getElem (by omega)]; rfl) (fun j _ => hf _)
  simp only [hsz, Nat.mul_one, Nat.zero_add] at hr
  unfold Oper.wp execOp
  simp only [ho, resolve, invoke, builtin, Sem.run_bind, Sem.run_pure, Result.andThen_ok, List.map_toArray, List.map_cons, List.map_nil, hs, hx, hr]
  exact h _ ⟨heap_setCells cs n w cur hg (by omega), Kept.setCells (S := fun k => k = g) (fun _ => rfl) cs n (Kept.refl _ _)⟩

theorem wpList_clear_row (hgd : o.guard = none) (s : Operand) (t : TypeId) (ho : o.op = .call { callee := .builtin .clear, args := #[s], argTypes := #[t] })
    {e : TypeId} (ht : P.underlying t = some (.slice e)) {z : Value} (hv : ∀ w, (zeroValue e).run P w = .ok z w) (hz : z.cells = #[z]) (h1 : z.oneCell' = true) {g at' n c : Nat} (hs : a.eval s = .slice (some ⟨g, at', none⟩) n c) (h0 : 0 < n)
    (cur : List Value) (hg : w.heap[g]? = some (.cells cur.toArray e (0, 0))) (hin : at' + n ≤ cur.length)
    (h : ∀ w', Copied w w' g at' cur (List.replicate n z) e → wpList P ops Q rest (a.put o.dst (.tuple #[])) w') : wpList P ops Q (o :: rest) a w := by
  obtain ⟨hc, hf⟩ := cells_of hg
  have hr := fun ty => Lib.run_clear_slice (P := P) w t e ty z ht hv hz h1 g at' n c h0 (fun j hj => by rw [hc, List.getElem?_toArray, List.getElem?_eq_getElem (by omega)]; rfl) (fun j _ => hf _)
  refine wpList_plain hgd fun K hK => ?_
  unfold Oper.wp execOp
  simp only [ho, resolve, invoke, builtin, Sem.run_bind, Sem.run_pure, Result.andThen_ok, List.map_toArray, List.map_cons, List.map_nil, hs, hr]
  exact hK _ _ (h _ ⟨heap_setCells _ at' w cur hg (by simp; omega), Kept.setCells (S := fun k => k = g) (fun _ => rfl) _ at' (Kept.refl _ _)⟩)
end

theorem splice_shift (cur xs : List Value) (x : Value) (i n : Nat) (hi : i < n) (hxs : cur.take n = xs) (hl : n + 1 ≤ cur.length) :
    ((cur.take (i + 1) ++ xs.drop i ++ cur.drop (i + 1 + (xs.drop i).length)).take i ++ [x] ++ (cur.take (i + 1) ++ xs.drop i ++ cur.drop (i + 1 + (xs.drop i).length)).drop (i + [x].length)) = xs.take i ++ x :: xs.drop i ++ cur.drop (n + 1) := by
  have h1 : xs.length = n := by rw [← hxs, List.length_take]; omega
  have h2 : (cur.take (i + 1)).length = i + 1 := by rw [List.length_take]; omega
  have h3 : (xs.drop i).length = n - i := by rw [List.length_drop, h1]
  have h4 : i + 1 + (n - i) = n + 1 := by omega
  rw [h3, h4, List.append_assoc, List.append_assoc, List.take_append_of_le_length (by omega), List.take_take, show min i (i + 1) = i by omega]
  rw [show i + [x].length = (cur.take (i + 1)).length by rw [h2]; rfl, List.drop_left]
  have h5 : cur.take i = xs.take i := by rw [← hxs, List.take_take, show min i n = i by omega]
  rw [h5]; simp

theorem splice_grow (xs : List Value) (x : Value) (i c : Nat) (zs : List Value) (hi : i < c) (hxl : xs.length = c) (hz : c + 1 - i ≤ zs.length) :
    (((xs.take i ++ zs).take i ++ [x] ++ (xs.take i ++ zs).drop (i + [x].length)).take (i + 1) ++ xs.drop i ++ ((xs.take i ++ zs).take i ++ [x] ++ (xs.take i ++ zs).drop (i + [x].length)).drop (i + 1 + (xs.drop i).length)) = xs.take i ++ x :: xs.drop i ++ zs.drop (c + 1 - i) := by
  have h1 : (xs.take i).length = i := by rw [List.length_take]; omega
  have h2 : (xs.drop i).length = c - i := by rw [List.length_drop, hxl]
  have e1 : (xs.take i ++ zs).take i = xs.take i := List.take_left' h1
  have e2 : (xs.take i ++ zs).drop (i + [x].length) = zs.drop 1 := by
    rw [List.drop_append, h1, List.drop_eq_nil_of_le (by simp; omega)]; simp
  rw [e1, e2, h2]
  have h3 : (xs.take i ++ [x]).length = i + 1 := by simp [h1]
  rw [List.take_left' h3, List.drop_append, h3, List.drop_eq_nil_of_le (show (xs.take i ++ [x]).length ≤ i + 1 + (c - i) by rw [h3]; omega), List.drop_drop, show 1 + (i + 1 + (c - i) - (i + 1)) = c + 1 - i by omega]
  simp

set_option maxHeartbeats 2000000 in
theorem insert_endS (v : Value) (n : Nat) (xs : List Value) (x : Value) (g : Nat) (w : World) (hr : Row w 9 1 v n xs) (hg : w.heap[g]? = some (.cells #[x] 9 (0, 0))) (hx : x.oneCell' = true) (hn : n ≤ 1000000) :
    Calls Tryz.prog 138 #[v, .int .i64 (n : Int), .slice (some ⟨g, 0, none⟩) 1 1] w fun e w' => ∃ v', e = .returned v' ∧ Row w' 9 1 v' (n + 1) (xs ++ [x]) ∧ Grew w w' v v' := by
  have hc : w.cell? ⟨g, 0, none⟩ = some x := by obtain ⟨hc, _⟩ := cells_of hg; rw [hc]; rfl
  rcases hr.shape with ⟨rfl, rfl, rfl⟩ | ⟨gv, c, rfl, h1, h2⟩
  · go_enter Tryz.func138, Tryz.ntmps138
    go_wp2_with (at_builtin; refine wpList_push rfl _ _ 34 rfl tyS _ 0 [] rfl hr g 1 x rfl hc hx (by decide) (by omega) (fun v' w' hr' hg' => ?_))
    go_ret
    exact ⟨v', rfl, hr', hg'⟩
  · go_enter Tryz.func138, Tryz.ntmps138
    go_wp2_with (at_builtin; refine wpList_push rfl _ _ 34 rfl tyS _ n xs rfl hr g 1 x rfl hc hx (by decide) (by omega) (fun v' w' hr' hg' => ?_))
    all_goals (go_ret; exact ⟨_, rfl, hr', hg'⟩)
set_option maxHeartbeats 2000000 in
theorem insert_endK (v : Value) (n : Nat) (xs : List Value) (x : Value) (g : Nat) (w : World) (hr : Row w 141 1 v n xs) (hg : w.heap[g]? = some (.cells #[x] 141 (0, 0))) (hx : x.oneCell' = true) (hn : n ≤ 1000000) :
    Calls Tryz.prog 136 #[v, .int .i64 (n : Int), .slice (some ⟨g, 0, none⟩) 1 1] w fun e w' => ∃ v', e = .returned v' ∧ Row w' 141 1 v' (n + 1) (xs ++ [x]) ∧ Grew w w' v v' := by
  have hc : w.cell? ⟨g, 0, none⟩ = some x := by obtain ⟨hc, _⟩ := cells_of hg; rw [hc]; rfl
  rcases hr.shape with ⟨rfl, rfl, rfl⟩ | ⟨gv, c, rfl, h1, h2⟩
  · go_enter Tryz.func136, Tryz.ntmps136
    go_wp2_with (at_builtin; refine wpList_push rfl _ _ 86 rfl tyK _ 0 [] rfl hr g 1 x rfl hc hx (by decide) (by omega) (fun v' w' hr' hg' => ?_))
    go_ret
    exact ⟨v', rfl, hr', hg'⟩
  · go_enter Tryz.func136, Tryz.ntmps136
    go_wp2_with (at_builtin; refine wpList_push rfl _ _ 86 rfl tyK _ n xs rfl hr g 1 x rfl hc hx (by decide) (by omega) (fun v' w' hr' hg' => ?_))
    all_goals (go_ret; exact ⟨_, rfl, hr', hg'⟩)

set_option maxHeartbeats 4000000 in
set_option maxRecDepth 100000 in
theorem insert_shiftS (b n c i : Nat) (xs cur : List Value) (x : Value) (g : Nat) (w : World) (hb : w.heap[b]? = some (.cells cur.toArray 9 (0, 0))) (hcur : cur.length = c) (hxs : cur.take n = xs) (hgb : g ≠ b) (hg : w.heap[g]? = some (.cells #[x] 9 (0, 0))) (hx : x.oneCell' = true) (hone : ∀ u ∈ xs, u.oneCell' = true) (hi : i < n) (hroom : n + 1 ≤ c) (hn : n ≤ 1000000) (hc : c ≤ maxLen) :
    Calls Tryz.prog 138 #[.slice (some ⟨b, 0, none⟩) n c, .int .i64 (i : Int), .slice (some ⟨g, 0, none⟩) 1 1] w fun e w' => e = .returned (.slice (some ⟨b, 0, none⟩) (n + 1) c) ∧ w'.heap[b]? = some (.cells (xs.take i ++ x :: xs.drop i ++ cur.drop (n + 1)).toArray 9 (0, 0)) ∧ Kept (fun k => k = b) w w' := by
  simp only [maxLen] at hc
  have hov : ∀ lb cb, (callFunc 151 #[.slice (some ⟨g, 0, none⟩) 1 1, .slice (some ⟨b, i + 1, none⟩) lb cb]).run Tryz.prog w = .ok (.value (.bool false)) w := fun lb cb => by
    obtain ⟨_, hf⟩ := cells_of hg
    rw [run_callFunc_extern Tryz.func151 (by kernel_rfl) (by kernel_rfl) (by kernel_rfl) (e := Extern.SlicesOverlaps.overlaps #[34, 34] #[4]) (by kernel_rfl),
      Lib.run_overlaps_apart w 34 4 9 tyS.under 1 Tryz.sizeOf9 ⟨g, 0, none⟩ ⟨b, i + 1, none⟩ 1 1 lb cb hgb 9 9 1 c (by simp [World.shape?, hg]) (by simp [World.shape?, hb, hcur]) (by omega) (hf 0) (hf 1)]
    rfl
  have hw1 : IntKind.i64.wrap ((i : Int) + 1) = (i : Int) + 1 := by rw [IntKind.wrap_i64]; omega
  have hw2 : IntKind.i64.wrap ((n : Int) + 1) = (n : Int) + 1 := by rw [IntKind.wrap_i64]; omega
  have hne : ¬ ((i : Int) = (n : Int)) := by omega
  have hb1 : (0 : Int) ≤ (i : Int) + 1 := by omega
  have htn : ((i : Int) + 1).toNat = i + 1 := by omega
  have hb2 : ¬ (c = i + 1) := by omega
  have hb3 : (i : Int) ≤ (n : Int) + 1 := by omega
  have hb4 : ¬ (c = i) := by omega
  have hin : i ≤ n := by omega
  go_enter Tryz.func138, Tryz.ntmps138
  go_wp2_with (simp only [hov])
  refine wp_region_loud (fun _ => True) [0, 1, 2, 3, 4, 5, 6, 7] [8] (by kernel_rfl) (by kernel_rfl) (fun _ _ d _ _ h => by cases d <;> exact h) trivial ?_
  repeat (refine wpPre_cons rfl rfl (fun w' _ => (by go_simp; rfl)) ?_; simp only [Act.put, List.setIfInBounds_toArray, List.set])
  refine wpPre_nil ?_
  refine wpTail_cons rfl rfl (fun K hK => ?_)
  have hxl : xs.length = n := by rw [← hxs, List.length_take]; omega
  have hcell : ∀ j v, (xs.drop i)[j]? = some v → w.drew.cell? ⟨b, i + j, none⟩ = some v := fun j v hj => by
    obtain ⟨hcs, _⟩ := cells_of hb
    show w.cell? _ = _
    rw [hcs, List.getElem?_toArray]
    rw [List.getElem?_drop, ← hxs, List.getElem?_take] at hj
    split at hj
    · exact hj
    · cases hj
  refine wp_copy_row _ _ 34 rfl tyS rfl cur hb rfl (xs.drop i) (by simp; omega) hcell (by simp; omega) (fun v hv => hone v (List.mem_of_mem_drop hv)) (fun w1 h1 => hK _ _ ⟨trivial, ?_⟩)
  clear hK
  refine wpTail_nil ?_
  have hg1 : w1.heap[g]? = some (.cells #[x] 9 (0, 0)) := h1.kept.get (w := w.drew) hg hgb
  have hcx : w1.cell? ⟨g, 0, none⟩ = some x := by obtain ⟨hc, _⟩ := cells_of hg1; rw [hc]; rfl
  go_wp2_with (refine wpList_copy_row rfl _ _ 34 rfl tyS rfl _ h1.row rfl [x] (by simp only [List.length_cons, List.length_nil]; omega) (get1 hcx) (by simp only [List.length_append, List.length_take, List.length_drop, List.length_cons, List.length_nil]; omega) (by simpa using hx) (fun w2 h2 => ?_))
  go_ret
  refine ⟨rfl, ?_, (h1.kept.step h2.kept).of_drew⟩
  have e := h2.row
  rw [splice_shift cur xs x i n hi hxs (by omega)] at e
  exact e
set_option maxHeartbeats 4000000 in
set_option maxRecDepth 100000 in
theorem insert_shiftK (b n c i : Nat) (xs cur : List Value) (x : Value) (g : Nat) (w : World) (hb : w.heap[b]? = some (.cells cur.toArray 141 (0, 0))) (hcur : cur.length = c) (hxs : cur.take n = xs) (hgb : g ≠ b) (hg : w.heap[g]? = some (.cells #[x] 141 (0, 0))) (hx : x.oneCell' = true) (hone : ∀ u ∈ xs, u.oneCell' = true) (hi : i < n) (hroom : n + 1 ≤ c) (hn : n ≤ 1000000) (hc : c ≤ maxLen) :
    Calls Tryz.prog 136 #[.slice (some ⟨b, 0, none⟩) n c, .int .i64 (i : Int), .slice (some ⟨g, 0, none⟩) 1 1] w fun e w' => e = .returned (.slice (some ⟨b, 0, none⟩) (n + 1) c) ∧ w'.heap[b]? = some (.cells (xs.take i ++ x :: xs.drop i ++ cur.drop (n + 1)).toArray 141 (0, 0)) ∧ Kept (fun k => k = b) w w' := by
  simp only [maxLen] at hc
  have hov : ∀ lb cb, (callFunc 145 #[.slice (some ⟨g, 0, none⟩) 1 1, .slice (some ⟨b, i + 1, none⟩) lb cb]).run Tryz.prog w = .ok (.value (.bool false)) w := fun lb cb => by
    obtain ⟨_, hf⟩ := cells_of hg
    rw [run_callFunc_extern Tryz.func145 (by kernel_rfl) (by kernel_rfl) (by kernel_rfl) (e := Extern.SlicesOverlaps.overlaps #[86, 86] #[4]) (by kernel_rfl),
      Lib.run_overlaps_apart w 86 4 141 tyK.under 1 Tryz.sizeOf141 ⟨g, 0, none⟩ ⟨b, i + 1, none⟩ 1 1 lb cb hgb 141 141 1 c (by simp [World.shape?, hg]) (by simp [World.shape?, hb, hcur]) (by omega) (hf 0) (hf 1)]
    rfl
  have hw1 : IntKind.i64.wrap ((i : Int) + 1) = (i : Int) + 1 := by rw [IntKind.wrap_i64]; omega
  have hw2 : IntKind.i64.wrap ((n : Int) + 1) = (n : Int) + 1 := by rw [IntKind.wrap_i64]; omega
  have hne : ¬ ((i : Int) = (n : Int)) := by omega
  have hb1 : (0 : Int) ≤ (i : Int) + 1 := by omega
  have htn : ((i : Int) + 1).toNat = i + 1 := by omega
  have hb2 : ¬ (c = i + 1) := by omega
  have hb3 : (i : Int) ≤ (n : Int) + 1 := by omega
  have hb4 : ¬ (c = i) := by omega
  have hin : i ≤ n := by omega
  go_enter Tryz.func136, Tryz.ntmps136
  go_wp2_with (simp only [hov])
  refine wp_region_loud (fun _ => True) [0, 1, 2, 3, 4, 5, 6, 7] [8] (by kernel_rfl) (by kernel_rfl) (fun _ _ d _ _ h => by cases d <;> exact h) trivial ?_
  repeat (refine wpPre_cons rfl rfl (fun w' _ => (by go_simp; rfl)) ?_; simp only [Act.put, List.setIfInBounds_toArray, List.set])
  refine wpPre_nil ?_
  refine wpTail_cons rfl rfl (fun K hK => ?_)
  have hxl : xs.length = n := by rw [← hxs, List.length_take]; omega
  have hcell : ∀ j v, (xs.drop i)[j]? = some v → w.drew.cell? ⟨b, i + j, none⟩ = some v := fun j v hj => by
    obtain ⟨hcs, _⟩ := cells_of hb
    show w.cell? _ = _
    rw [hcs, List.getElem?_toArray]
    rw [List.getElem?_drop, ← hxs, List.getElem?_take] at hj
    split at hj
    · exact hj
    · cases hj
  refine wp_copy_row _ _ 86 rfl tyK rfl cur hb rfl (xs.drop i) (by simp; omega) hcell (by simp; omega) (fun v hv => hone v (List.mem_of_mem_drop hv)) (fun w1 h1 => hK _ _ ⟨trivial, ?_⟩)
  clear hK
  refine wpTail_nil ?_
  have hg1 : w1.heap[g]? = some (.cells #[x] 141 (0, 0)) := h1.kept.get (w := w.drew) hg hgb
  have hcx : w1.cell? ⟨g, 0, none⟩ = some x := by obtain ⟨hc, _⟩ := cells_of hg1; rw [hc]; rfl
  go_wp2_with (refine wpList_copy_row rfl _ _ 86 rfl tyK rfl _ h1.row rfl [x] (by simp only [List.length_cons, List.length_nil]; omega) (get1 hcx) (by simp only [List.length_append, List.length_take, List.length_drop, List.length_cons, List.length_nil]; omega) (by simpa using hx) (fun w2 h2 => ?_))
  go_ret
  refine ⟨rfl, ?_, (h1.kept.step h2.kept).of_drew⟩
  have e := h2.row
  rw [splice_shift cur xs x i n hi hxs (by omega)] at e
  exact e

set_option maxHeartbeats 4000000 in
set_option maxRecDepth 100000 in
theorem insert_growS (b n c i : Nat) (xs cur : List Value) (x : Value) (g : Nat) (w : World) (hb : w.heap[b]? = some (.cells cur.toArray 9 (0, 0))) (hcur : cur.length = c) (hxs : cur.take n = xs) (hg : w.heap[g]? = some (.cells #[x] 9 (0, 0))) (hx : x.oneCell' = true) (hone : ∀ u ∈ xs, u.oneCell' = true) (hi : i < n) (hnc : n ≤ c) (hroom : c < n + 1) (hn : n ≤ 1000000) :
    Calls Tryz.prog 138 #[.slice (some ⟨b, 0, none⟩) n c, .int .i64 (i : Int), .slice (some ⟨g, 0, none⟩) 1 1] w fun e w' => ∃ c' zs, e = .returned (.slice (some ⟨w.heap.size, 0, none⟩) (n + 1) c') ∧ n + 1 ≤ c' ∧ c' ≤ maxLen ∧ zs.length = c' - (n + 1) ∧ w'.heap[w.heap.size]? = some (.cells (xs.take i ++ x :: xs.drop i ++ zs).toArray 9 (0, 0)) ∧ Kept no w w' := by
  have hcn : c = n := by omega
  subst hcn
  have hbl := lt_of_heap hb
  have hgl := lt_of_heap hg
  have hw1 : IntKind.i64.wrap ((i : Int) + 1) = (i : Int) + 1 := by rw [IntKind.wrap_i64]; omega
  have hw2 : IntKind.i64.wrap ((c : Int) + 1) = (c : Int) + 1 := by rw [IntKind.wrap_i64]; omega
  have hw3 : IntKind.i64.wrap ((c : Int) + 1 - (i : Int)) = ((c + 1 - i : Nat) : Int) := by rw [IntKind.wrap_i64]; omega
  have hne : ¬ ((i : Int) = (c : Int)) := by omega
  have hb1 : (0 : Int) ≤ (i : Int) + 1 := by omega
  have htn : ((i : Int) + 1).toNat = i + 1 := by omega
  have hb4 : ¬ (c = i) := by omega
  have hin : i ≤ c := by omega
  have hxl : xs.length = c := by rw [← hxs, List.length_take]; omega
  have hcell : ∀ j v, (xs.take i)[j]? = some v → w.cell? ⟨b, j, none⟩ = some v := fun j v hj => by
    obtain ⟨hcs, _⟩ := cells_of hb
    rw [hcs, List.getElem?_toArray]
    rw [← hxs, List.getElem?_take, List.getElem?_take] at hj
    split at hj
    · split at hj
      · exact hj
      · cases hj
    · cases hj
  go_enter Tryz.func138, Tryz.ntmps138
  have htl : (xs.take i).length = i := by rw [List.length_take]; omega
  have hdl : (xs.drop i).length = c - i := by rw [List.length_drop, hxl]
  go_wp2_with (first
    | (at_builtin
       refine wpList_zeros rfl _ _ 34 3 rfl tyS Tryz.underlying3 rfl (c + 1 - i) rfl (xs.take i) (by rw [List.length_take]; omega) hcell (by omega) (by omega) (by decide) (by omega) (c + 1) (by omega) (fun w1 c' hc1 hc2 zs hz hh hk hlt => ?_)
       simp only [maxLen] at hc2
       have hb2 : ¬ (c' = i + 1) := by omega
       have hb5 : ¬ (c' = i) := by omega
       have hg1 : w1.heap[g]? = some (.cells #[x] 9 (0, 0)) := hk.get hg (fun h => h)
       have hcx : w1.cell? ⟨g, 0, none⟩ = some x := by obtain ⟨hc, _⟩ := cells_of hg1; rw [hc]; rfl)
    | (refine wpList_copy_row rfl _ _ 34 rfl tyS rfl _ hh rfl [x] (by simp only [List.length_cons, List.length_nil]; omega) (get1 hcx) (by simp only [List.length_append, List.length_cons, List.length_nil]; omega) (by simpa using hx) (fun w2 h2 => ?_)))
  simp only [Act.put, List.setIfInBounds_toArray, List.set]
  refine wp_region_loud (fun _ => True) [0, 1, 2, 3, 4, 5, 6, 7] [8] (by kernel_rfl) (by kernel_rfl) (fun _ _ d _ _ h => by cases d <;> exact h) trivial ?_
  repeat (refine wpPre_cons rfl rfl (fun w' _ => (by go_simp; rfl)) ?_; simp only [Act.put, List.setIfInBounds_toArray, List.set])
  refine wpPre_nil ?_
  refine wpTail_cons rfl rfl (fun K hK => ?_)
  have hb2' : w2.heap[b]? = some (.cells cur.toArray 9 (0, 0)) := (h2.kept.get (hk.get hb (fun h => h)) (fun h => by omega))
  have hcell2 : ∀ j v, (xs.drop i)[j]? = some v → w2.drew.cell? ⟨b, i + j, none⟩ = some v := fun j v hj => by
    obtain ⟨hcs, _⟩ := cells_of hb2'
    show w2.cell? _ = _
    rw [hcs, List.getElem?_toArray]
    rw [List.getElem?_drop, ← hxs, List.getElem?_take] at hj
    split at hj
    · exact hj
    · cases hj
  refine wp_copy_row _ _ 34 rfl tyS rfl _ h2.row rfl (xs.drop i) (by simp; omega) hcell2 (by simp only [List.length_append, List.length_take, List.length_drop, List.length_cons, List.length_nil]; omega) (fun v hv => hone v (List.mem_of_mem_drop hv)) (fun w3 h3 => hK _ _ ⟨trivial, ?_⟩)
  clear hK
  refine wpTail_nil ?_
  go_wp2
  go_ret
  refine ⟨c', zs.drop (c + 1 - i), rfl, by omega, by simp only [maxLen]; omega, by rw [List.length_drop]; omega, ?_, ?_⟩
  · have e := h3.row
    rw [splice_grow xs x i c zs hi hxl (by omega)] at e
    exact e
  · exact (hk.step' h2.kept (fun k hk' hlt => by omega)).step' h3.kept.of_drew (fun k hk' hlt => by omega)
set_option maxHeartbeats 4000000 in
set_option maxRecDepth 100000 in
theorem insert_growK (b n c i : Nat) (xs cur : List Value) (x : Value) (g : Nat) (w : World) (hb : w.heap[b]? = some (.cells cur.toArray 141 (0, 0))) (hcur : cur.length = c) (hxs : cur.take n = xs) (hg : w.heap[g]? = some (.cells #[x] 141 (0, 0))) (hx : x.oneCell' = true) (hone : ∀ u ∈ xs, u.oneCell' = true) (hi : i < n) (hnc : n ≤ c) (hroom : c < n + 1) (hn : n ≤ 1000000) :
    Calls Tryz.prog 136 #[.slice (some ⟨b, 0, none⟩) n c, .int .i64 (i : Int), .slice (some ⟨g, 0, none⟩) 1 1] w fun e w' => ∃ c' zs, e = .returned (.slice (some ⟨w.heap.size, 0, none⟩) (n + 1) c') ∧ n + 1 ≤ c' ∧ c' ≤ maxLen ∧ zs.length = c' - (n + 1) ∧ w'.heap[w.heap.size]? = some (.cells (xs.take i ++ x :: xs.drop i ++ zs).toArray 141 (0, 0)) ∧ Kept no w w' := by
  have hcn : c = n := by omega
  subst hcn
  have hbl := lt_of_heap hb
  have hgl := lt_of_heap hg
  have hw1 : IntKind.i64.wrap ((i : Int) + 1) = (i : Int) + 1 := by rw [IntKind.wrap_i64]; omega
  have hw2 : IntKind.i64.wrap ((c : Int) + 1) = (c : Int) + 1 := by rw [IntKind.wrap_i64]; omega
  have hw3 : IntKind.i64.wrap ((c : Int) + 1 - (i : Int)) = ((c + 1 - i : Nat) : Int) := by rw [IntKind.wrap_i64]; omega
  have hne : ¬ ((i : Int) = (c : Int)) := by omega
  have hb1 : (0 : Int) ≤ (i : Int) + 1 := by omega
  have htn : ((i : Int) + 1).toNat = i + 1 := by omega
  have hb4 : ¬ (c = i) := by omega
  have hin : i ≤ c := by omega
  have hxl : xs.length = c := by rw [← hxs, List.length_take]; omega
  have hcell : ∀ j v, (xs.take i)[j]? = some v → w.cell? ⟨b, j, none⟩ = some v := fun j v hj => by
    obtain ⟨hcs, _⟩ := cells_of hb
    rw [hcs, List.getElem?_toArray]
    rw [← hxs, List.getElem?_take, List.getElem?_take] at hj
    split at hj
    · split at hj
      · exact hj
      · cases hj
    · cases hj
  go_enter Tryz.func136, Tryz.ntmps136
  have htl : (xs.take i).length = i := by rw [List.length_take]; omega
  have hdl : (xs.drop i).length = c - i := by rw [List.length_drop, hxl]
  go_wp2_with (first
    | (at_builtin
       refine wpList_zeros rfl _ _ 86 3 rfl tyK Tryz.underlying3 rfl (c + 1 - i) rfl (xs.take i) (by rw [List.length_take]; omega) hcell (by omega) (by omega) (by decide) (by omega) (c + 1) (by omega) (fun w1 c' hc1 hc2 zs hz hh hk hlt => ?_)
       simp only [maxLen] at hc2
       have hb2 : ¬ (c' = i + 1) := by omega
       have hb5 : ¬ (c' = i) := by omega
       have hg1 : w1.heap[g]? = some (.cells #[x] 141 (0, 0)) := hk.get hg (fun h => h)
       have hcx : w1.cell? ⟨g, 0, none⟩ = some x := by obtain ⟨hc, _⟩ := cells_of hg1; rw [hc]; rfl)
    | (refine wpList_copy_row rfl _ _ 86 rfl tyK rfl _ hh rfl [x] (by simp only [List.length_cons, List.length_nil]; omega) (get1 hcx) (by simp only [List.length_append, List.length_cons, List.length_nil]; omega) (by simpa using hx) (fun w2 h2 => ?_)))
  simp only [Act.put, List.setIfInBounds_toArray, List.set]
  refine wp_region_loud (fun _ => True) [0, 1, 2, 3, 4, 5, 6, 7] [8] (by kernel_rfl) (by kernel_rfl) (fun _ _ d _ _ h => by cases d <;> exact h) trivial ?_
  repeat (refine wpPre_cons rfl rfl (fun w' _ => (by go_simp; rfl)) ?_; simp only [Act.put, List.setIfInBounds_toArray, List.set])
  refine wpPre_nil ?_
  refine wpTail_cons rfl rfl (fun K hK => ?_)
  have hb2' : w2.heap[b]? = some (.cells cur.toArray 141 (0, 0)) := (h2.kept.get (hk.get hb (fun h => h)) (fun h => by omega))
  have hcell2 : ∀ j v, (xs.drop i)[j]? = some v → w2.drew.cell? ⟨b, i + j, none⟩ = some v := fun j v hj => by
    obtain ⟨hcs, _⟩ := cells_of hb2'
    show w2.cell? _ = _
    rw [hcs, List.getElem?_toArray]
    rw [List.getElem?_drop, ← hxs, List.getElem?_take] at hj
    split at hj
    · exact hj
    · cases hj
  refine wp_copy_row _ _ 86 rfl tyK rfl _ h2.row rfl (xs.drop i) (by simp; omega) hcell2 (by simp only [List.length_append, List.length_take, List.length_drop, List.length_cons, List.length_nil]; omega) (fun v hv => hone v (List.mem_of_mem_drop hv)) (fun w3 h3 => hK _ _ ⟨trivial, ?_⟩)
  clear hK
  refine wpTail_nil ?_
  go_wp2
  go_ret
  refine ⟨c', zs.drop (c + 1 - i), rfl, by omega, by simp only [maxLen]; omega, by rw [List.length_drop]; omega, ?_, ?_⟩
  · have e := h3.row
    rw [splice_grow xs x i c zs hi hxl (by omega)] at e
    exact e
  · exact (hk.step' h2.kept (fun k hk' hlt => by omega)).step' h3.kept.of_drew (fun k hk' hlt => by omega)

set_option maxHeartbeats 4000000 in
set_option maxRecDepth 100000 in
theorem delete_rowS (b n c i j : Nat) (xs cur : List Value) (w : World) (hb : w.heap[b]? = some (.cells cur.toArray 9 (0, 0))) (hcur : cur.length = c) (hxs : cur.take n = xs) (hone : ∀ u ∈ xs, u.oneCell' = true) (hij : i < j) (hj : j ≤ n) (hnc : n ≤ c) (hc : c ≤ maxLen) :
    Calls Tryz.prog 108 #[.slice (some ⟨b, 0, none⟩) n c, .int .i64 (i : Int), .int .i64 (j : Int)] w fun e w' => ∃ cur' : List Value, e = .returned (.slice (some ⟨b, 0, none⟩) (i + (n - j)) c) ∧ w'.heap[b]? = some (.cells cur'.toArray 9 (0, 0)) ∧ cur'.length = c ∧ cur'.take (i + (n - j)) = xs.take i ++ xs.drop j ∧ Kept (fun k => k = b) w w' := by
  simp only [maxLen] at hc
  have hne : ¬ ((i : Int) = (j : Int)) := by omega
  have hb2 : ¬ (c = i + (n - j)) := by omega
  have hin : i ≤ n := by omega
  have hic : i ≤ c := by omega
  have hij' : i ≤ j := by omega
  have hjc : j ≤ c := by omega
  have hxl : xs.length = n := by rw [← hxs, List.length_take]; omega
  have hdl : (xs.drop j).length = n - j := by rw [List.length_drop, hxl]
  obtain ⟨A, hA, hA'⟩ : ∃ A : Nat, (if c = j then (some ⟨b, 0, none⟩ : Option Addr) else some ⟨b, j, none⟩) = some ⟨b, A, none⟩ ∧ Hid (∀ t v, (xs.drop j)[t]? = some v → w.drew.cell? ⟨b, A + t, none⟩ = some v) := by
    by_cases h : c = j
    · refine ⟨0, by rw [if_pos h], fun t v ht => ?_⟩
      have := (List.getElem?_eq_some_iff.1 ht).1
      omega
    · refine ⟨j, by rw [if_neg h], fun t v ht => ?_⟩
      obtain ⟨hcs, _⟩ := cells_of hb
      show w.cell? _ = _
      rw [hcs, List.getElem?_toArray]
      rw [List.getElem?_drop, ← hxs, List.getElem?_take] at ht
      split at ht
      · exact ht
      · cases ht
  go_enter Tryz.func108, Tryz.ntmps108
  go_wp2
  refine wp_region_loud (fun _ => True) [0, 1, 2, 3, 4, 5] [6, 7] (by kernel_rfl) (by kernel_rfl) (fun _ _ d _ _ h => by cases d <;> exact h) trivial ?_
  repeat (refine wpPre_cons rfl rfl (fun w' _ => (by go_simp; rfl)) ?_; simp only [Act.put, List.setIfInBounds_toArray, List.set])
  refine wpPre_nil ?_
  refine wpTail_cons rfl rfl (fun K hK => ?_)
  refine wp_app_room _ _ 34 rfl tyS rfl cur hb hcur rfl (xs.drop j) hdl hA'.out (by omega) (fun v hv => hone v (List.mem_of_mem_drop hv)) (fun w1 h1 => hK _ _ ⟨trivial, ?_⟩)
  clear hK
  refine wpTail_read rfl rfl trivial (by go_simp; rfl) ?_
  simp only [Act.put, List.setIfInBounds_toArray, List.set]
  refine wpTail_nil ?_
  go_wp2_with (refine wpList_clear_row rfl _ 34 rfl tyS.under Tryz.zeroValue9 rfl rfl rfl (by omega) _ h1.row (by simp only [List.length_append, List.length_take, List.length_drop]; omega) (fun w2 h2 => ?_))
  go_ret
  refine ⟨_, rfl, h2.row, ?_, ?_, (h1.kept.step h2.kept).of_drew⟩
  · simp only [List.length_append, List.length_take, List.length_drop, List.length_replicate]; omega
  · have e1 : (cur.take i ++ xs.drop j).length = i + (n - j) := by rw [List.length_append, List.length_take, hdl]; omega
    have e2 : cur.take i = xs.take i := by rw [← hxs, List.take_take, show min i n = i by omega]
    rw [List.append_assoc, List.take_append_of_le_length (by simp only [List.length_append, List.length_take, List.length_drop]; omega), List.take_take, Nat.min_self, List.take_left' e1, e2]
set_option maxHeartbeats 4000000 in
set_option maxRecDepth 100000 in
theorem delete_rowK (b n c i j : Nat) (xs cur : List Value) (w : World) (hb : w.heap[b]? = some (.cells cur.toArray 141 (0, 0))) (hcur : cur.length = c) (hxs : cur.take n = xs) (hone : ∀ u ∈ xs, u.oneCell' = true) (hij : i < j) (hj : j ≤ n) (hnc : n ≤ c) (hc : c ≤ maxLen) :
    Calls Tryz.prog 135 #[.slice (some ⟨b, 0, none⟩) n c, .int .i64 (i : Int), .int .i64 (j : Int)] w fun e w' => ∃ cur' : List Value, e = .returned (.slice (some ⟨b, 0, none⟩) (i + (n - j)) c) ∧ w'.heap[b]? = some (.cells cur'.toArray 141 (0, 0)) ∧ cur'.length = c ∧ cur'.take (i + (n - j)) = xs.take i ++ xs.drop j ∧ Kept (fun k => k = b) w w' := by
  simp only [maxLen] at hc
  have hne : ¬ ((i : Int) = (j : Int)) := by omega
  have hb2 : ¬ (c = i + (n - j)) := by omega
  have hin : i ≤ n := by omega
  have hic : i ≤ c := by omega
  have hij' : i ≤ j := by omega
  have hjc : j ≤ c := by omega
  have hxl : xs.length = n := by rw [← hxs, List.length_take]; omega
  have hdl : (xs.drop j).length = n - j := by rw [List.length_drop, hxl]
  obtain ⟨A, hA, hA'⟩ : ∃ A : Nat, (if c = j then (some ⟨b, 0, none⟩ : Option Addr) else some ⟨b, j, none⟩) = some ⟨b, A, none⟩ ∧ Hid (∀ t v, (xs.drop j)[t]? = some v → w.drew.cell? ⟨b, A + t, none⟩ = some v) := by
    by_cases h : c = j
    · refine ⟨0, by rw [if_pos h], fun t v ht => ?_⟩
      have := (List.getElem?_eq_some_iff.1 ht).1
      omega
    · refine ⟨j, by rw [if_neg h], fun t v ht => ?_⟩
      obtain ⟨hcs, _⟩ := cells_of hb
      show w.cell? _ = _
      rw [hcs, List.getElem?_toArray]
      rw [List.getElem?_drop, ← hxs, List.getElem?_take] at ht
      split at ht
      · exact ht
      · cases ht
  go_enter Tryz.func135, Tryz.ntmps135
  go_wp2
  refine wp_region_loud (fun _ => True) [0, 1, 2, 3, 4, 5] [6, 7] (by kernel_rfl) (by kernel_rfl) (fun _ _ d _ _ h => by cases d <;> exact h) trivial ?_
  repeat (refine wpPre_cons rfl rfl (fun w' _ => (by go_simp; rfl)) ?_; simp only [Act.put, List.setIfInBounds_toArray, List.set])
  refine wpPre_nil ?_
  refine wpTail_cons rfl rfl (fun K hK => ?_)
  refine wp_app_room _ _ 86 rfl tyK rfl cur hb hcur rfl (xs.drop j) hdl hA'.out (by omega) (fun v hv => hone v (List.mem_of_mem_drop hv)) (fun w1 h1 => hK _ _ ⟨trivial, ?_⟩)
  clear hK
  refine wpTail_read rfl rfl trivial (by go_simp; rfl) ?_
  simp only [Act.put, List.setIfInBounds_toArray, List.set]
  refine wpTail_nil ?_
  go_wp2_with (refine wpList_clear_row rfl _ 86 rfl tyK.under Tryz.zeroValue141 rfl rfl rfl (by omega) _ h1.row (by simp only [List.length_append, List.length_take, List.length_drop]; omega) (fun w2 h2 => ?_))
  go_ret
  refine ⟨_, rfl, h2.row, ?_, ?_, (h1.kept.step h2.kept).of_drew⟩
  · simp only [List.length_append, List.length_take, List.length_drop, List.length_replicate]; omega
  · have e1 : (cur.take i ++ xs.drop j).length = i + (n - j) := by rw [List.length_append, List.length_take, hdl]; omega
    have e2 : cur.take i = xs.take i := by rw [← hxs, List.take_take, show min i n = i by omega]
    rw [List.append_assoc, List.take_append_of_le_length (by simp only [List.length_append, List.length_take, List.length_drop]; omega), List.take_take, Nat.min_self, List.take_left' e1, e2]

theorem Row.of_block {w : World} {e : TypeId} {g n c : Nat} {cur xs : List Value} (h : w.heap[g]? = some (.cells cur.toArray e (0, 0))) (hl : cur.length = c) (hx : cur.take n = xs) (hn : n ≤ c) (hc : c ≤ maxLen) : Row w e 1 (.slice (some ⟨g, 0, none⟩) n c) n xs := by
  refine ⟨by rw [← hx, List.length_take]; omega, .inr ⟨g, c, _, rfl, Nat.zero_le _, h, hn, hc, by simp [hl], by simpa using hx⟩⟩

theorem Row.block {w : World} {e : TypeId} {g o n c : Nat} {xs : List Value} (h : Row w e 1 (.slice (some ⟨g, o, none⟩) n c) n xs) : o = 0 ∧ ∃ cur : List Value, w.heap[g]? = some (.cells cur.toArray e (0, 0)) ∧ cur.length = c ∧ cur.take n = xs ∧ n ≤ c ∧ c ≤ maxLen := by
  rcases h.2 with ⟨h0, _⟩ | ⟨g', cap, cur, hv, _, hh, h1, h2, h3, h4⟩
  · cases h0
  · simp only [Value.slice.injEq, Option.some.injEq, Addr.mk.injEq, and_true, true_and] at hv
    obtain ⟨⟨rfl, rfl⟩, rfl⟩ := hv
    exact ⟨rfl, cur.toList, hh, by simpa using h3, by simpa using h4, h1, h2⟩

/-- Insert of one element. -/
theorem insertS (v : Value) (n i : Nat) (iI : Int) (xs : List Value) (x : Value) (g : Nat) (w : World) (hr : Row w 9 1 v n xs) (hiI : iI = (i : Int)) (hi : i ≤ n) (hg : w.heap[g]? = some (.cells #[x] 9 (0, 0))) (hgv : g ∉ fpv v) (hx : x.oneCell' = true) (hone : ∀ u ∈ xs, u.oneCell' = true) (hn : n ≤ 1000000) :
    Calls Tryz.prog 138 #[v, .int .i64 iI, .slice (some ⟨g, 0, none⟩) 1 1] w fun e w' => ∃ v', e = .returned v' ∧ Row w' 9 1 v' (n + 1) (xs.take i ++ x :: xs.drop i) ∧ Grew w w' v v' := by
  subst hiI
  have hxl := hr.len
  rcases Nat.lt_or_ge i n with hlt | hge
  · rcases hr.shape with ⟨rfl, rfl, rfl⟩ | ⟨gv, c, rfl, _, _⟩
    · omega
    obtain ⟨_, cur, hb, hcl, hct, hnc, hcm⟩ := hr.block
    have hne : g ≠ gv := fun e => hgv (by rw [e]; simp [fpv_some])
    rcases Nat.lt_or_ge n c with h1 | h1
    · refine (insert_shiftS gv n c i xs cur x g w hb hcl hct hne hg hx hone hlt h1 hn hcm).mono fun e w' ⟨he, hw, hk⟩ => ⟨_, he, ?_, hk.mono fun k hk' _ => by rw [hk']; simp [fpv_some], fun k hk' => .inl hk'⟩
      have hl : (xs.take i ++ x :: xs.drop i).length = n + 1 := by simp; omega
      refine Row.of_block hw ?_ (List.take_left' hl) h1 hcm
      rw [List.length_append, hl, List.length_drop]; omega
    · refine (insert_growS gv n c i xs cur x g w hb hcl hct hg hx hone hlt hnc (by omega) hn).mono fun e w' ⟨c', zs, he, h2, h3, h4, hw, hk⟩ => ⟨_, he, ?_, hk.mono fun k hk' _ => hk'.elim, fun k hk' => .inr (by simp [fpv_some] at hk'; omega)⟩
      have hl : (xs.take i ++ x :: xs.drop i).length = n + 1 := by simp; omega
      exact Row.of_block hw (by rw [List.length_append, hl]; omega) (List.take_left' hl) h2 h3
  · have hin : i = n := by omega
    subst hin
    rw [List.take_of_length_le (by omega), List.drop_eq_nil_of_le (by omega)]
    exact insert_endS v i xs x g w hr hg hx hn

/-- Delete. -/
theorem deleteS (v : Value) (n i j : Nat) (iI jI : Int) (xs : List Value) (w : World) (hr : Row w 9 1 v n xs) (hiI : iI = (i : Int)) (hjI : jI = (j : Int)) (hij : i ≤ j) (hj : j ≤ n) (hone : ∀ u ∈ xs, u.oneCell' = true) :
    Calls Tryz.prog 108 #[v, .int .i64 iI, .int .i64 jI] w fun e w' => ∃ v', e = .returned v' ∧ Row w' 9 1 v' (i + (n - j)) (xs.take i ++ xs.drop j) ∧ Grew w w' v v' ∧ fpv v' = fpv v ∧ (v = .slice none 0 0 → v' = .slice none 0 0) := by
  subst hiI hjI
  rcases Nat.lt_or_ge i j with hlt | hge
  · rcases hr.shape with ⟨rfl, rfl, rfl⟩ | ⟨gv, c, rfl, _, _⟩
    · omega
    obtain ⟨_, cur, hb, hcl, hct, hnc, hcm⟩ := hr.block
    refine (delete_rowS gv n c i j xs cur w hb hcl hct hone hlt hj hnc hcm).mono fun e w' ⟨cur', he, hw, h1, h2, hk⟩ => ⟨_, he, Row.of_block hw h1 h2 (by omega) hcm, ⟨hk.mono fun k hk' _ => by rw [hk']; simp [fpv_some], fun k hk' => .inl hk'⟩, rfl, fun h => by cases h⟩
  · have hji : j = i := by omega
    subst hji
    have h0 : Calls Tryz.prog 108 #[v, .int .i64 (j : Int), .int .i64 (j : Int)] w fun e w' => e = .returned v ∧ w' = w := by
      have hxl := hr.len
      rcases hr.shape with ⟨rfl, rfl, rfl⟩ | ⟨gv, c, rfl, h1, h2⟩
      · have hj0 : j = 0 := by omega
        subst hj0
        go_enter Tryz.func108, Tryz.ntmps108
        go_wp2
        go_ret
        exact ⟨rfl, rfl⟩
      · simp only [maxLen] at h2
        have hjc : j ≤ c := by omega
        clear hr
        go_enter Tryz.func108, Tryz.ntmps108
        go_wp2
        all_goals (go_ret; exact ⟨rfl, rfl⟩)
    refine h0.mono ?_
    rintro e w' ⟨rfl, rfl⟩
    refine ⟨v, rfl, ?_, Grew.refl _ _, rfl, fun h => h⟩
    rw [show j + (n - j) = n by omega, List.take_append_drop]
    exact hr
/-- Insert of one element. -/
theorem insertK (v : Value) (n i : Nat) (iI : Int) (xs : List Value) (x : Value) (g : Nat) (w : World) (hr : Row w 141 1 v n xs) (hiI : iI = (i : Int)) (hi : i ≤ n) (hg : w.heap[g]? = some (.cells #[x] 141 (0, 0))) (hgv : g ∉ fpv v) (hx : x.oneCell' = true) (hone : ∀ u ∈ xs, u.oneCell' = true) (hn : n ≤ 1000000) :
    Calls Tryz.prog 136 #[v, .int .i64 iI, .slice (some ⟨g, 0, none⟩) 1 1] w fun e w' => ∃ v', e = .returned v' ∧ Row w' 141 1 v' (n + 1) (xs.take i ++ x :: xs.drop i) ∧ Grew w w' v v' := by
  subst hiI
  have hxl := hr.len
  rcases Nat.lt_or_ge i n with hlt | hge
  · rcases hr.shape with ⟨rfl, rfl, rfl⟩ | ⟨gv, c, rfl, _, _⟩
    · omega
    obtain ⟨_, cur, hb, hcl, hct, hnc, hcm⟩ := hr.block
    have hne : g ≠ gv := fun e => hgv (by rw [e]; simp [fpv_some])
    rcases Nat.lt_or_ge n c with h1 | h1
    · refine (insert_shiftK gv n c i xs cur x g w hb hcl hct hne hg hx hone hlt h1 hn hcm).mono fun e w' ⟨he, hw, hk⟩ => ⟨_, he, ?_, hk.mono fun k hk' _ => by rw [hk']; simp [fpv_some], fun k hk' => .inl hk'⟩
      have hl : (xs.take i ++ x :: xs.drop i).length = n + 1 := by simp; omega
      refine Row.of_block hw ?_ (List.take_left' hl) h1 hcm
      rw [List.length_append, hl, List.length_drop]; omega
    · refine (insert_growK gv n c i xs cur x g w hb hcl hct hg hx hone hlt hnc (by omega) hn).mono fun e w' ⟨c', zs, he, h2, h3, h4, hw, hk⟩ => ⟨_, he, ?_, hk.mono fun k hk' _ => hk'.elim, fun k hk' => .inr (by simp [fpv_some] at hk'; omega)⟩
      have hl : (xs.take i ++ x :: xs.drop i).length = n + 1 := by simp; omega
      exact Row.of_block hw (by rw [List.length_append, hl]; omega) (List.take_left' hl) h2 h3
  · have hin : i = n := by omega
    subst hin
    rw [List.take_of_length_le (by omega), List.drop_eq_nil_of_le (by omega)]
    exact insert_endK v i xs x g w hr hg hx hn

/-- Delete. -/
theorem deleteK (v : Value) (n i j : Nat) (iI jI : Int) (xs : List Value) (w : World) (hr : Row w 141 1 v n xs) (hiI : iI = (i : Int)) (hjI : jI = (j : Int)) (hij : i ≤ j) (hj : j ≤ n) (hone : ∀ u ∈ xs, u.oneCell' = true) :
    Calls Tryz.prog 135 #[v, .int .i64 iI, .int .i64 jI] w fun e w' => ∃ v', e = .returned v' ∧ Row w' 141 1 v' (i + (n - j)) (xs.take i ++ xs.drop j) ∧ Grew w w' v v' ∧ fpv v' = fpv v ∧ (v = .slice none 0 0 → v' = .slice none 0 0) := by
  subst hiI hjI
  rcases Nat.lt_or_ge i j with hlt | hge
  · rcases hr.shape with ⟨rfl, rfl, rfl⟩ | ⟨gv, c, rfl, _, _⟩
    · omega
    obtain ⟨_, cur, hb, hcl, hct, hnc, hcm⟩ := hr.block
    refine (delete_rowK gv n c i j xs cur w hb hcl hct hone hlt hj hnc hcm).mono fun e w' ⟨cur', he, hw, h1, h2, hk⟩ => ⟨_, he, Row.of_block hw h1 h2 (by omega) hcm, ⟨hk.mono fun k hk' _ => by rw [hk']; simp [fpv_some], fun k hk' => .inl hk'⟩, rfl, fun h => by cases h⟩
  · have hji : j = i := by omega
    subst hji
    have h0 : Calls Tryz.prog 135 #[v, .int .i64 (j : Int), .int .i64 (j : Int)] w fun e w' => e = .returned v ∧ w' = w := by
      have hxl := hr.len
      rcases hr.shape with ⟨rfl, rfl, rfl⟩ | ⟨gv, c, rfl, h1, h2⟩
      · have hj0 : j = 0 := by omega
        subst hj0
        go_enter Tryz.func135, Tryz.ntmps135
        go_wp2
        go_ret
        exact ⟨rfl, rfl⟩
      · simp only [maxLen] at h2
        have hjc : j ≤ c := by omega
        clear hr
        go_enter Tryz.func135, Tryz.ntmps135
        go_wp2
        all_goals (go_ret; exact ⟨rfl, rfl⟩)
    refine h0.mono ?_
    rintro e w' ⟨rfl, rfl⟩
    refine ⟨v, rfl, ?_, Grew.refl _ _, rfl, fun h => h⟩
    rw [show j + (n - j) = n by omega, List.take_append_drop]
    exact hr
end Go.Proofs.YtdpfohgkikjeaaaGreat
/- Clone of both kinds of row; append of a slice that may be nil. -/
namespace Go.Proofs.YtdpfohgkikjeaaaGreat
open Go.RowKit
set_option linter.unusedVariables false
set_option linter.unusedSimpArgs false

theorem run_append_none {P : Program} {t e : TypeId} {bytes : Nat} (T : SliceTy P t e 1 bytes) (ty : TypeId) (w : World) (v : Value) (n : Nat) (xs : List Value) (hown : Row w e 1 v n xs) :
    (Builtin.append_ #[t, t] ty #[v, .slice none 0 0]).run P w = .ok v w := by
  obtain ⟨i, z, hi, hz, hs, hb, hzs⟩ := T.info
  rcases hown.shape with ⟨rfl, rfl, rfl⟩ | ⟨g, c, rfl, h1, h2⟩
  · simp [Builtin.append_, run_underlying T.under, sizeOf, typeInfo, hi, hs, Builtin.lenOf, Builtin.firstCells]
  · simp [Builtin.append_, run_underlying T.under, sizeOf, typeInfo, hi, hs, Builtin.lenOf, Builtin.firstCells, h1, storeCells]

/-- append(v, u..): u may be nil. -/
theorem wp_app_any {P : Program} {w : World} {o : Oper} {a : Act} {Q : Exit → Act → World → Prop} {K : Act → World → Prop} (s x : Operand) (t : TypeId) (ho : o.op = .call { callee := .builtin .append, args := #[s, x], argTypes := #[t, t] })
    {e : TypeId} {bytes : Nat} (T : SliceTy P t e 1 bytes) (v : Value) (n : Nat) (xs : List Value) (hs : a.eval s = v) (hown : Row w e 1 v n xs)
    (u : Value) (m : Nat) (ys : List Value) (hx : a.eval x = u) (hu : Row w e 1 u m ys) (h1 : ∀ y ∈ ys, y.oneCell' = true)
    (hb : bytes ≤ 64) (hn : n + m ≤ 1099511627776)
    (h : ∀ v' w', Row w' e 1 v' (n + m) (xs ++ ys) → Grew w w' v v' → (v' = .slice none 0 0 ↔ v = .slice none 0 0 ∧ m = 0) → K (a.put o.dst v') w') : o.wp P a w K Q := by
  unfold Oper.wp execOp
  rcases hu.shape with ⟨rfl, rfl, rfl⟩ | ⟨g, c, rfl, h2, h3⟩
  · have hr := fun ty => run_append_none T ty w v n xs hown
    simp only [ho, resolve, invoke, builtin, Sem.run_bind, Sem.run_pure, Result.andThen_ok, List.map_toArray, List.map_cons, List.map_nil, hs, hx, hr]
    exact h v w (by simpa using hown) (Grew.refl _ _) (by simp)
  · obtain ⟨_, _, _, hcell⟩ := hu.cell
    obtain ⟨v', w', hr, h4, h5, h6⟩ := run_app T o.type w v n xs hown g 0 m c ys (by have := hu.len; omega) (fun j y hj => by rw [Nat.zero_add]; exact hcell j y hj) h1 (by
      have : (n + m) * bytes ≤ 1099511627776 * 64 := Nat.mul_le_mul hn hb
      omega) (by omega)
    simp only [ho, resolve, invoke, builtin, Sem.run_bind, Sem.run_pure, Result.andThen_ok, List.map_toArray, List.map_cons, List.map_nil, hs, hx, hr]
    exact h v' w' h4 h5 h6

set_option maxHeartbeats 2000000 in
theorem clone_someS (g o n c : Nat) (xs : List Value) (w : World) (hl : xs.length = n) (hc : ∀ j u, xs[j]? = some u → w.cell? ⟨g, o + j, none⟩ = some u) (hone : ∀ u ∈ xs, u.oneCell' = true) (hn : n ≤ 1000000) :
    Calls Tryz.prog 139 #[.slice (some ⟨g, o, none⟩) n c] w fun e w' => ∃ v', e = .returned v' ∧ Row w' 9 1 v' n xs ∧ Kept no w w' ∧ (∀ k, k ∈ fpv v' → w.heap.size ≤ k) := by
  have q22 : ∀ (w : World) (a : Option Addr) (n c n' c' : Nat), (binOp .eql 34 (.slice a n c) (.slice none n' c')).run Tryz.prog w = .ok (.bool a.isNone) w := fun w a n c n' c' => Lib.run_eql_slice_nil w _ _ a n c n' c' tyS.under
  have A : Hid (∀ j u, xs[j]? = some u → w.cell? ⟨g, o + j, none⟩ = some u) := hc
  clear hc
  go_enter Tryz.func139, Tryz.ntmps139
  go_wp2_with (at_builtin; refine wpList_app rfl _ _ 34 rfl tyS _ 0 [] rfl ?q1 g o n c xs rfl (by omega) ?q2 hone ?q4 (by omega) ?_)
  case q1 => exact ⟨rfl, .inr ⟨w.heap.size, 0, #[], rfl, Nat.zero_le _, heap_alloc_same, Nat.le_refl _, by simp only [maxLen]; omega, rfl, rfl⟩⟩
  case q2 =>
    intro j u hj
    have := A.out j u hj
    rw [World.cell?_alloc_lt _ _ _ (World.block_lt_of_cell? _ _ this)]
    exact this
  case q4 => omega
  intro v' w1 hr hg
  go_wp2
  go_ret
  obtain ⟨h1, h2, h3⟩ := hg.above (B := w.heap.size) (fun k hk => by simp [fpv_some] at hk; omega) (by simp)
  exact ⟨v', rfl, by simpa using hr, h3 w ((Kept.refl _ _).alloc _) (Nat.le_refl _), h1⟩

set_option maxHeartbeats 2000000 in
theorem clone_nilS (n c : Nat) (w : World) : Calls Tryz.prog 139 #[.slice none n c] w fun e w' => e = .returned (.slice none 0 0) ∧ w' = w := by
  have q22 : ∀ (w : World) (a : Option Addr) (n c n' c' : Nat), (binOp .eql 34 (.slice a n c) (.slice none n' c')).run Tryz.prog w = .ok (.bool a.isNone) w := fun w a n c n' c' => Lib.run_eql_slice_nil w _ _ a n c n' c' tyS.under
  go_enter Tryz.func139, Tryz.ntmps139
  go_wp2
  go_ret
  exact ⟨rfl, rfl⟩
set_option maxHeartbeats 2000000 in
theorem clone_someK (g o n c : Nat) (xs : List Value) (w : World) (hl : xs.length = n) (hc : ∀ j u, xs[j]? = some u → w.cell? ⟨g, o + j, none⟩ = some u) (hone : ∀ u ∈ xs, u.oneCell' = true) (hn : n ≤ 1000000) :
    Calls Tryz.prog 140 #[.slice (some ⟨g, o, none⟩) n c] w fun e w' => ∃ v', e = .returned v' ∧ Row w' 141 1 v' n xs ∧ Kept no w w' ∧ (∀ k, k ∈ fpv v' → w.heap.size ≤ k) := by
  have q22 : ∀ (w : World) (a : Option Addr) (n c n' c' : Nat), (binOp .eql 86 (.slice a n c) (.slice none n' c')).run Tryz.prog w = .ok (.bool a.isNone) w := fun w a n c n' c' => Lib.run_eql_slice_nil w _ _ a n c n' c' tyK.under
  have A : Hid (∀ j u, xs[j]? = some u → w.cell? ⟨g, o + j, none⟩ = some u) := hc
  clear hc
  go_enter Tryz.func140, Tryz.ntmps140
  go_wp2_with (at_builtin; refine wpList_app rfl _ _ 86 rfl tyK _ 0 [] rfl ?q1 g o n c xs rfl (by omega) ?q2 hone ?q4 (by omega) ?_)
  case q1 => exact ⟨rfl, .inr ⟨w.heap.size, 0, #[], rfl, Nat.zero_le _, heap_alloc_same, Nat.le_refl _, by simp only [maxLen]; omega, rfl, rfl⟩⟩
  case q2 =>
    intro j u hj
    have := A.out j u hj
    rw [World.cell?_alloc_lt _ _ _ (World.block_lt_of_cell? _ _ this)]
    exact this
  case q4 => omega
  intro v' w1 hr hg
  go_wp2
  go_ret
  obtain ⟨h1, h2, h3⟩ := hg.above (B := w.heap.size) (fun k hk => by simp [fpv_some] at hk; omega) (by simp)
  exact ⟨v', rfl, by simpa using hr, h3 w ((Kept.refl _ _).alloc _) (Nat.le_refl _), h1⟩

set_option maxHeartbeats 2000000 in
theorem clone_nilK (n c : Nat) (w : World) : Calls Tryz.prog 140 #[.slice none n c] w fun e w' => e = .returned (.slice none 0 0) ∧ w' = w := by
  have q22 : ∀ (w : World) (a : Option Addr) (n c n' c' : Nat), (binOp .eql 86 (.slice a n c) (.slice none n' c')).run Tryz.prog w = .ok (.bool a.isNone) w := fun w a n c n' c' => Lib.run_eql_slice_nil w _ _ a n c n' c' tyK.under
  go_enter Tryz.func140, Tryz.ntmps140
  go_wp2
  go_ret
  exact ⟨rfl, rfl⟩
end Go.Proofs.YtdpfohgkikjeaaaGreat
/- The tree's nodes in memory; contracts of leaf and fill. -/
namespace Go.Proofs.YtdpfohgkikjeaaaGreat
open Go.RowKit
set_option linter.unusedVariables false
set_option linter.unusedSimpArgs false

theorem leaf_any (b : Nat) (vi vk : Value) (cnt : Value) (rest : List Value) (T : TypeId) (w : World) (hb : w.heap[b]? = some (.cells (vi :: vk :: cnt :: rest).toArray T (0, 0))) (p : Option Addr) (n c : Nat) (hk : vk = .slice p n c) :
    Calls Tryz.prog 107 #[.pointer (some ⟨b, 0, none⟩)] w fun e w' => e = .returned (.bool (decide (n = 0))) ∧ w' = w := by
  obtain ⟨hc, _⟩ := cells_of hb
  subst hk
  go_enter Tryz.func107, Tryz.ntmps107
  go_wp2
  go_ret
  refine ⟨?_, rfl⟩
  show Ending.returned (.bool ((n : Int) == 0)) = _
  congr 2
  rw [Bool.eq_iff_iff]; simp

/-- How full a node of so many is: a float64's bits. -/
def fillBits (N : Nat) : Nat := (floatBits .quo .f64 (floatOfInt .f64 (N : Int)) 4620693217682128896).getD 0

theorem fill_table : ((List.range 18).all fun N => (floatBits .quo .f64 (floatOfInt .f64 (N : Int)) 4620693217682128896 == some (fillBits N)) && ((FloatKind.f64.format.order (fillBits N) 4602678819172646912 == some .lt) == decide (N < 4)) && ((FloatKind.f64.format.order (fillBits N) 4607182418800017408 == some .gt) == decide (8 < N))) = true := by kernel_rfl

theorem fill_facts (N : Nat) (h : N ≤ 17) : floatBits .quo .f64 (floatOfInt .f64 (N : Int)) 4620693217682128896 = some (fillBits N) ∧ (FloatKind.f64.format.order (fillBits N) 4602678819172646912 == some .lt) = decide (N < 4) ∧ (FloatKind.f64.format.order (fillBits N) 4607182418800017408 == some .gt) = decide (8 < N) := by
  have := List.all_eq_true.1 fill_table N (List.mem_range.2 (by omega))
  simp only [Bool.and_eq_true, beq_iff_eq] at this
  exact ⟨this.1.1, this.1.2, this.2⟩

theorem fill_any (b : Nat) (vi vk : Value) (cnt : Value) (rest : List Value) (T : TypeId) (w : World) (hb : w.heap[b]? = some (.cells (vi :: vk :: cnt :: rest).toArray T (0, 0))) (p q : Option Addr) (n m c d : Nat) (hi : vi = .slice p n c) (hk : vk = .slice q m d) (hs : n + m ≤ 17) :
    Calls Tryz.prog 113 #[.pointer (some ⟨b, 0, none⟩)] w fun e w' => e = .returned (.float .f64 (fillBits (n + m))) ∧ ∃ k, w' = w.drewN k := by
  go_enter Tryz.func113, Tryz.ntmps113
  go_wp2
  refine wp_region_loud (fun w' => w'.heap[b]? = some (.cells (vi :: vk :: cnt :: rest).toArray T (0, 0))) [0, 1, 2, 3, 4, 5, 6, 7, 8, 9, 10, 11, 12] [13] (by kernel_rfl) (by kernel_rfl) (fun _ _ d _ _ h => by cases d <;> exact h) hb ?_
  subst hi hk
  have hw : IntKind.i64.wrap ((n : Int) + (m : Int)) = ((n + m : Nat) : Int) := by rw [IntKind.wrap_i64]; omega
  iterate 10 (refine wpPre_cons rfl rfl (fun w' hw' => (by obtain ⟨hc, _⟩ := cells_of hw'; go_simp; rfl)) ?_; simp only [Act.put, List.setIfInBounds_toArray, List.set])
  refine wpPre_cons (v := .int .i64 ((n + m : Nat) : Int)) rfl rfl (fun w' hw' => by go_simp) ?_
  simp only [Act.put, List.setIfInBounds_toArray, List.set]
  refine wpPre_cons (v := .float .f64 (floatOfInt .f64 ((n + m : Nat) : Int))) rfl rfl (fun w' hw' => ?_) ?_
  · go_simp
  simp only [Act.put, List.setIfInBounds_toArray, List.set]
  refine wpPre_cons (v := .float .f64 (fillBits (n + m))) rfl rfl (fun w' hw' => ?_) ?_
  · have := run_float_arith (P := Tryz.prog) w' .quo 176 .f64 _ _ _ (fill_facts (n + m) hs).1
    rw [Int.natCast_add] at this
    go_simp
  simp only [Act.put, List.setIfInBounds_toArray, List.set]
  refine wpPre_nil ?_
  refine wpTail_read rfl rfl hb (by go_simp; rfl) ?_
  simp only [Act.put, List.setIfInBounds_toArray, List.set]
  refine wpTail_nil ?_
  go_wp2
  go_ret
  exact ⟨rfl, 1, rfl⟩
end Go.Proofs.YtdpfohgkikjeaaaGreat
/- Plain mathematics, on: texts, acts, the document as it is kept, its calls; nothing of the program. -/
namespace Go.Proofs.YtdpfohgkikjeaaaGreat

/-! ### Lines and texts -/

/-- The bytes of a text: its lines, each with a byte 10 behind it. -/
def textOf (ls : List Str) : Str := (ls.map fun l => l ++ [10]).flatten
theorem textOf_nil : textOf [] = [] := rfl
theorem textOf_cons (l : Str) (ls : List Str) : textOf (l :: ls) = l ++ 10 :: textOf ls := by simp [textOf]
theorem textOf_append (a b : List Str) : textOf (a ++ b) = textOf a ++ textOf b := by simp [textOf]

/-- May it be a line? -/
abbrev LineOk (l : Str) : Prop := l.length ≤ 40 ∧ (10 : UInt8) ∉ l

structure TextOk (ls : List Str) : Prop where
  few : ls.length ≤ 60
  lines : ∀ l ∈ ls, LineOk l

theorem textOf_length {ls : List Str} (h : ∀ l ∈ ls, LineOk l) : (textOf ls).length ≤ 41 * ls.length := by
  induction ls with
  | nil => simp [textOf]
  | cons l ls ih =>
    rw [textOf_cons]
    have h1 := (h l (by simp)).1
    have h2 := ih (fun x hx => h x (by simp [hx]))
    simp only [List.length_append, List.length_cons]
    omega

theorem TextOk.length {ls : List Str} (h : TextOk ls) : (textOf ls).length ≤ 2460 := by
  have := textOf_length h.lines
  have := h.few
  omega

theorem split_unique {a b c d : Str} (h : a ++ 10 :: b = c ++ 10 :: d) (ha : (10 : UInt8) ∉ a) (hc : (10 : UInt8) ∉ c) : a = c ∧ b = d := by
  induction a generalizing c with
  | nil =>
    cases c with
    | nil => simpa using h
    | cons x c => simp only [List.nil_append, List.cons_append, List.cons.injEq] at h; exact absurd h.1 (fun e => hc (by simp [e]))
  | cons x a ih =>
    cases c with
    | nil => simp only [List.nil_append, List.cons_append, List.cons.injEq] at h; exact absurd h.1 (fun e => ha (by simp [e]))
    | cons y c =>
      simp only [List.cons_append, List.cons.injEq] at h
      obtain ⟨h1, h2⟩ := ih h.2 (fun hh => ha (by simp [hh])) (fun hh => hc (by simp [hh]))
      exact ⟨by rw [h.1, h1], h2⟩

/-- A text has one way to be cut. -/
theorem textOf_inj {a b : List Str} (ha : ∀ l ∈ a, (10 : UInt8) ∉ l) (hb : ∀ l ∈ b, (10 : UInt8) ∉ l) (h : textOf a = textOf b) : a = b := by
  induction a generalizing b with
  | nil =>
    cases b with
    | nil => rfl
    | cons x b => rw [textOf_nil, textOf_cons] at h; simp at h
  | cons x a ih =>
    cases b with
    | nil => rw [textOf_nil, textOf_cons] at h; simp at h
    | cons y b =>
      rw [textOf_cons, textOf_cons] at h
      obtain ⟨h1, h2⟩ := split_unique h (ha x (by simp)) (hb y (by simp))
      rw [h1, ih (fun l hl => ha l (by simp [hl])) (fun l hl => hb l (by simp [hl])) h2]

/-! ### Acts -/
structure PAct where
  kind : Nat
  at_ : Nat
  data : Str

def markOf (l : Str) : Mark := ⟨(l.length : Int), crc l⟩
abbrev pSettle : PAct := ⟨2, 0, []⟩
def pWrite (at_ : Nat) (l : Str) : PAct := ⟨1, at_, pad l⟩

def bodyActs (half : Nat) (t : Str) : List PAct := ((List.range ((t.length + 63) / 64)).map fun j => pWrite (40 * half + 1 + j) ((t.drop (64 * j)).take 64))

/-- What knows where in a swap the last text stands. -/
structure Wr where
  known : Bool
  unsettled : Bool
  half : Nat
  number : Nat

def Wr.next (w : Wr) : Nat := (w.number + 1) % 18446744073709551616
def Wr.head (w : Wr) (t : Str) (file : Mark) : Head := ⟨w.next, markOf t, file⟩

def Wr.acts (w : Wr) (t : Str) (file : Mark) : List PAct :=
  (if w.unsettled then [pSettle] else []) ++ pWrite (40 * (1 - w.half)) [] :: (if w.known then [] else [pWrite (40 * w.half) []]) ++ pSettle :: (bodyActs (1 - w.half) t ++ [pSettle, ⟨1, 40 * (1 - w.half), headBytes (w.head t file)⟩, pSettle])

def Wr.written (w : Wr) : Wr := ⟨true, false, 1 - w.half, w.next⟩

def saveActs (t : Str) : List PAct := ⟨3, 0, []⟩ :: (if t = [] then [] else [⟨4, 0, t⟩]) ++ [⟨5, 0, []⟩, ⟨6, 0, []⟩, ⟨7, 0, []⟩]

/-! ### The document as it is kept -/
structure DocS where
  lines : List Str
  file : Mark
  every : Nat
  edits : Nat
  counted : Nat
  wr : Wr
  kind : Nat
  acts : List PAct

namespace DocS
def text (d : DocS) : Str := textOf d.lines
def beginSync (d : DocS) : DocS := { d with counted := 0, kind := 1, acts := d.wr.acts d.text d.file }
def edited (d : DocS) : DocS := if d.counted + 1 = d.every then { d with edits := d.edits + 1, counted := d.counted + 1 }.beginSync else { d with edits := d.edits + 1, counted := d.counted + 1 }
def setLines (d : DocS) (ls : List Str) : DocS := { d with lines := ls }

/-- Is a number of the language's one of these places? -/
def place (at_ : Int) (n : Nat) : Bool := decide (0 ≤ at_ ∧ at_ ≤ (n : Int))

def insert (d : DocS) (at_ : Int) (l : Str) : Nat × DocS :=
  if d.kind ≠ 0 then (5, d) else if at_ < 0 ∨ at_ > (d.lines.length : Int) then (1, d) else if ¬ LineOk l then (3, d) else if d.lines.length = 60 then (4, d)
  else (0, (d.setLines (d.lines.take at_.toNat ++ l :: d.lines.drop at_.toNat)).edited)
def delete (d : DocS) (at_ : Int) : Nat × DocS :=
  if d.kind ≠ 0 then (5, d) else if at_ < 0 ∨ at_ ≥ (d.lines.length : Int) then (1, d)
  else (0, (d.setLines (d.lines.take at_.toNat ++ d.lines.drop (at_.toNat + 1))).edited)
def replace (d : DocS) (at_ : Int) (l : Str) : Nat × DocS :=
  if d.kind ≠ 0 then (5, d) else if at_ < 0 ∨ at_ ≥ (d.lines.length : Int) then (1, d) else if ¬ LineOk l then (3, d)
  else (0, (d.setLines (d.lines.take at_.toNat ++ l :: d.lines.drop (at_.toNat + 1))).edited)
def sync (d : DocS) : Nat × DocS := if d.kind ≠ 0 then (5, d) else if d.edits = 0 ∧ d.wr.known = true then (6, d) else (0, d.beginSync)
def save (d : DocS) : Nat × DocS := if d.kind ≠ 0 then (5, d) else (0, { d with kind := 2, acts := saveActs d.text })
def succeeded (d : DocS) : DocS := if d.kind = 2 then { d with kind := 0, acts := [], file := markOf d.text } else { d with kind := 0, acts := [], wr := d.wr.written, edits := 0 }
/-- Done(ok), with a job. -/
def done (d : DocS) (ok : Bool) : DocS := if ok = true ∧ 1 < d.acts.length then { d with acts := d.acts.tail } else if ok = true then d.succeeded else { d with kind := 0, acts := [] }

/-- What holds of each document, in the midst of a call too. -/
structure Base (d : DocS) : Prop where
  text : TextOk d.lines
  every1 : 1 ≤ d.every
  every2 : d.every ≤ 20
  half : d.wr.half ≤ 1
  number : d.wr.number < 18446744073709551616
  sum : d.file.sum < 4294967296
  len0 : -9223372036854775808 ≤ d.file.len
  len1 : d.file.len < 9223372036854775808

/-- What holds of each document. -/
structure Ok (d : DocS) : Prop extends Base d where
  counted : d.counted < d.every
  kind : d.kind ≤ 2
  acts : d.kind ≠ 0 ↔ d.acts ≠ []
end DocS

end Go.Proofs.YtdpfohgkikjeaaaGreat
