/- Part 3 of the proof: see its parts. -/
import Derived.Lib.SlBytesConst
import Derived.Test.YtdpfohgkikjeaaaGreatU2
/- package swap: numbers as bytes (add, addMark, take, takeMark). -/
namespace Go.Proofs.YtdpfohgkikjeaaaGreat
open Go.RowKit
set_option linter.unusedVariables false
set_option linter.unusedSimpArgs false

theorem sty_bytes : SliceTy Tryz.prog 56 5 1 1 := SliceTy.mk' (z := .int .u8 0) Tryz.underlying56 (by kernel_rfl) rfl (by decide)

theorem le_step {l : Str} {k n : Nat} {m : Int} (h : m = ((n / 256 ^ k : Nat) : Int)) : bcells (l ++ le k n) ++ [Value.int .u8 (m % 256)] = bcells (l ++ le (k + 1) n) := by
  subst h
  simp only [bcells, le, List.map_append, List.map_cons, List.map_nil, List.append_assoc]
  have e : ((UInt8.ofNat (n / 256 ^ k)).toNat : Int) = (((n / 256 ^ k : Nat) : Int) % 256) := by
    rw [UInt8.toNat_ofNat']
    omega
  rw [e]

theorem div_step (n k : Nat) : ((n / 256 ^ k : Nat) : Int) / 256 = ((n / 256 ^ (k + 1) : Nat) : Int) := by
  rw [Nat.pow_succ, ← Nat.div_div_eq_div_mul]
  omega

set_option maxHeartbeats 400000 in
theorem add_any (v : Value) (n : Nat) (l : Str) (num size : Nat) (numI sizeI : Int) (w : World) (hnI : numI = (num : Int)) (hsI : sizeI = (size : Int)) (hrow : RowIn w 5 v n (bcells l)) (hlt : ∀ k, k ∈ fpv v → k < w.heap.size) (hnum : num < 18446744073709551616) (hsize : 0 < size) (hs8 : size ≤ 8) (hn : n ≤ 1000) :
    Calls Tryz.prog 142 #[v, .int .u64 numI, .int .i64 sizeI] w fun e w' => ∃ v', e = .returned v' ∧ Row w' 5 1 v' (n + size) (bcells (l ++ le size num)) ∧ Grew w w' v v' := by
  subst hnI; subst hsI
  go_enter Tryz.func142, Tryz.ntmps142
  go_wp2
  go_loopw [0, 1, 8] (fun u m i wr => ∃ k : Nat, k ≤ size ∧ m = .int .u64 ((num / 256 ^ k : Nat) : Int) ∧ i = .int .i64 k ∧ RowIn wr 5 u (n + k) (bcells (l ++ le k num)) ∧ (0 < k → Row wr 5 1 u (n + k) (bcells (l ++ le k num))) ∧ Grew w wr v u) (fun _ _ i _ => size - (intOf i).toNat)
  case atStart => exact ⟨0, by omega, by simp, rfl, by simpa [le] using hrow, fun h => absurd h (by decide), Grew.refl _ _⟩
  case round =>
    obtain ⟨k, hk, rfl, rfl, hin, hro, hg⟩ := hrel
    have hm := Nat.div_le_self num (256 ^ k)
    generalize hM : num / 256 ^ k = m at hm
    have HM : Hid (num / 256 ^ k = m) := hM
    clear hM
    by_cases hkl : k < size
    · go_wp2_with (at_builtin; refine wpList_push_in rfl _ _ 56 rfl sty_bytes u0 _ _ rfl (hin.alloc _) wr.heap.size 1 (.int .u8 ((m : Int) % 256)) rfl (by simp) rfl (by decide) (by omega) ?_; intro v' w1 hown' hgrow)
      have hr : Row w1 5 1 v' (n + (k + 1)) (bcells (l ++ le (k + 1) num)) := by
        rw [le_step (by rw [HM.out])] at hown'
        exact hown'
      have hgr : Grew wr w1 u0 v' := ⟨((Kept.refl _ _).alloc _).step hgrow.1, fun b hb => (hgrow.2 b hb).imp id (fun h => by simp at h; omega)⟩
      refine ⟨⟨k + 1, by omega, ?_, by go_num, .inl hr, fun _ => hr, hg.trans hgr hlt⟩, by simp [intOf]; omega⟩
      rw [← div_step, HM.out]
    · obtain rfl : k = size := by omega
      go_wp2
      go_ret
      exact ⟨_, rfl, hro hsize, hg⟩

theorem wrap_len {len : Int} : IntKind.u64.wrap len = len % 18446744073709551616 := IntKind.wrap_u64 len
theorem wrap_sum {sum : Nat} (h : sum < 4294967296) : IntKind.u64.wrap (sum : Int) = (sum : Int) := by rw [IntKind.wrap_u64]; omega

set_option maxHeartbeats 400000 in
theorem addMark_any (v : Value) (n : Nat) (l : Str) (len : Int) (sum : Nat) (w : World) (hrow : RowIn w 5 v n (bcells l)) (hlt : ∀ k, k ∈ fpv v → k < w.heap.size) (hsum : sum < 4294967296) (hn : n ≤ 500) :
    Calls Tryz.prog 141 #[v, .agg #[.int .i64 len, .int .u32 sum]] w fun e w' => ∃ v', e = .returned v' ∧ Row w' 5 1 v' (n + 12) (bcells (l ++ leMark ⟨len, sum⟩)) ∧ Grew w w' v v' := by
  go_enter Tryz.func141, Tryz.ntmps141
  go_wp2
  refine wp_region_loud (fun w' => w'.heap[w.heap.size]? = some (.cells #[.int .i64 len, .int .u32 sum] 93 (0, 0))) [0, 1, 2, 3, 5, 6, 7] [4, 8, 9] (by kernel_rfl) (by kernel_rfl) (fun _ _ d _ _ h => by cases d <;> exact h) heap_alloc_same ?_
  repeat (refine wpPre_cons rfl rfl (fun w' hw' => (by obtain ⟨hc, _⟩ := cells_of hw'; go_simp; rfl)) ?_; simp only [Act.put, List.setIfInBounds_toArray, List.set])
  refine wpPre_nil ?_
  rw [wrap_len, wrap_sum hsum]
  refine wpTail_cons rfl rfl (fun K hK => ?_)
  go_wp2_with fail
  refine (add_any _ n l (len % 18446744073709551616).toNat 8 _ _ _ (by omega) rfl (hrow.alloc _).drew (fun k hk => by have := hlt k hk; simp; omega) (by omega) (by decide) (by decide) (by omega)).mono ?_
  rintro e w1 ⟨v1, rfl, hr1, hg1⟩
  have hw0 : w.heap.size < (w.alloc (Obj.cells #[Value.int IntKind.i64 len, Value.int IntKind.u32 (sum : Int)] 93)).drew.heap.size := by simp
  have hbox : w1.heap[w.heap.size]? = some (.cells #[.int .i64 len, .int .u32 sum] 93 (0, 0)) :=
    (hg1.1.block w.heap.size hw0 (fun h => by have := hlt _ h; omega)).trans heap_alloc_same
  refine hK _ _ ⟨hbox, ?_⟩
  clear hK
  refine wpTail_cons rfl rfl (fun K hK => ?_)
  go_wp2_with fail
  refine (add_any _ (n + 8) (l ++ le 8 (len % 18446744073709551616).toNat) sum 4 _ _ _ rfl rfl (.inl hr1) (Row.lt hr1) (by omega) (by decide) (by decide) (by omega)).mono ?_
  rintro e w2 ⟨v2, rfl, hr2, hg2⟩
  have hbox2 : w2.heap[w.heap.size]? = some (.cells #[.int .i64 len, .int .u32 sum] 93 (0, 0)) :=
    (hg2.1.block w.heap.size (lt_of_heap hbox) (fun h => by
      rcases hg1.2 _ h with h | h
      · have := hlt _ h; omega
      · omega)).trans hbox
  refine hK _ _ ⟨hbox2, ?_⟩
  clear hK
  refine wpTail_read rfl rfl hbox2 (by go_simp; rfl) ?_
  simp only [Act.put, List.setIfInBounds_toArray, List.set]
  refine wpTail_nil ?_
  go_wp2
  go_ret
  refine ⟨v2, rfl, ?_, ?_⟩
  · rw [List.append_assoc] at hr2
    exact hr2
  · have g0 : Grew w w1 v v1 := ⟨((Kept.refl _ _).alloc _).drew.step hg1.1, fun k hk => (hg1.2 k hk).imp id (fun h => by omega)⟩
    exact g0.trans hg2 hlt
end Go.Proofs.YtdpfohgkikjeaaaGreat
/- package swap: a head's sector. -/
namespace Go.Proofs.YtdpfohgkikjeaaaGreat
open Go.RowKit
set_option linter.unusedVariables false
set_option linter.unusedSimpArgs false

/-- A head as a value. -/
def Head.val (h : Head) : Value := .agg #[.int .u64 h.number, .int .i64 h.text.len, .int .u32 h.text.sum, .int .i64 h.file.len, .int .u32 h.file.sum]
def Head.cells (h : Head) : Array Value := #[.int .u64 h.number, .int .i64 h.text.len, .int .u32 h.text.sum, .int .i64 h.file.len, .int .u32 h.file.sum]
/-- Its numbers are of their kinds. -/
structure Head.Ok (h : Head) : Prop where
  number : h.number < 18446744073709551616
  text : h.text.sum < 4294967296
  file : h.file.sum < 4294967296

set_option maxRecDepth 100000 in
set_option maxHeartbeats 1000000 in
theorem sector_any (h : Head) (w : World) (ok : h.Ok) :
    Calls Tryz.prog 121 #[.agg #[.int .u64 h.number, .int .i64 h.text.len, .int .u32 h.text.sum, .int .i64 h.file.len, .int .u32 h.file.sum]] w
      fun e w' => e = .returned (.string ⟨(headBytes h).toArray⟩) ∧ Kept no w w' := by
  obtain ⟨number, ⟨tl, ts⟩, ⟨fl, fs⟩⟩ := h
  obtain ⟨ok1, ok2, ok3⟩ := ok
  dsimp only at *
  go_enter Tryz.func121, Tryz.ntmps121
  go_wp2
  rw [lit64]
  generalize hW : ((w.alloc (Obj.cells #[.int .u64 number, .int .i64 tl, .int .u32 ts, .int .i64 fl, .int .u32 fs] 164)).alloc (Obj.cells zeros64 202)) = W
  have hb1 : W.heap[w.heap.size]? = some (.cells #[.int .u64 number, .int .i64 tl, .int .u32 ts, .int .i64 fl, .int .u32 fs] 164 (0, 0)) := by
    rw [← hW, heap_alloc_lt (by simp), heap_alloc_same]
  have hb2 : W.heap[w.heap.size + 1]? = some (.cells zeros64 202 (0, 0)) := by
    rw [← hW]; have := heap_alloc_same (w := w.alloc (Obj.cells #[.int .u64 number, .int .i64 tl, .int .u32 ts, .int .i64 fl, .int .u32 fs] 164)) (o := Obj.cells zeros64 202); simpa using this
  have hsz : W.heap.size = w.heap.size + 2 := by rw [← hW]; simp
  have hk : Kept no w W := by rw [← hW]; exact ((Kept.refl _ _).alloc _).alloc _
  clear hW
  refine wp_region_loud (fun w' => w'.heap[w.heap.size]? = some (.cells #[.int .u64 number, .int .i64 tl, .int .u32 ts, .int .i64 fl, .int .u32 fs] 164 (0, 0))) [2, 3, 5, 6, 8, 9] [0, 1, 4, 7, 10, 11] (by kernel_rfl) (by kernel_rfl) (fun _ _ d _ _ h => by cases d <;> exact h) hb1 ?_
  repeat (refine wpPre_cons rfl rfl (fun w' hw' => (by obtain ⟨hc, _⟩ := cells_of hw'; go_simp; rfl)) ?_; simp only [Act.put, List.setIfInBounds_toArray, List.set])
  refine wpPre_nil ?_
  refine wpTail_cons rfl rfl (fun K hK => ?_)
  go_wp2_with fail
  refine ⟨(heap_alloc_lt (w := W) (by omega)).trans hb1, ?_⟩
  have hg0 : (W.alloc (Obj.cells #[Value.int IntKind.u8 113, Value.int IntKind.u8 117, Value.int IntKind.u8 105, Value.int IntKind.u8 108, Value.int IntKind.u8 108, Value.int IntKind.u8 116, Value.int IntKind.u8 120, Value.int IntKind.u8 116] 5)).drew.heap[w.heap.size + 2]? = some (.cells (bcells magic).toArray 5 (0, 0)) := by
    have := heap_alloc_same (w := W) (o := Obj.cells #[Value.int IntKind.u8 113, Value.int IntKind.u8 117, Value.int IntKind.u8 105, Value.int IntKind.u8 108, Value.int IntKind.u8 108, Value.int IntKind.u8 116, Value.int IntKind.u8 120, Value.int IntKind.u8 116] 5)
    rw [hsz] at this
    exact this
  have hg1 : (W.alloc (Obj.cells #[Value.int IntKind.u8 113, Value.int IntKind.u8 117, Value.int IntKind.u8 105, Value.int IntKind.u8 108, Value.int IntKind.u8 108, Value.int IntKind.u8 116, Value.int IntKind.u8 120, Value.int IntKind.u8 116] 5)).drew.heap[w.heap.size]? = _ := (heap_alloc_lt (w := W) (by omega)).trans hb1
  have hg2 : (W.alloc (Obj.cells #[Value.int IntKind.u8 113, Value.int IntKind.u8 117, Value.int IntKind.u8 105, Value.int IntKind.u8 108, Value.int IntKind.u8 108, Value.int IntKind.u8 116, Value.int IntKind.u8 120, Value.int IntKind.u8 116] 5)).drew.heap[w.heap.size + 1]? = _ := (heap_alloc_lt (w := W) (by omega)).trans hb2
  have hgk : Kept no w (W.alloc (Obj.cells #[Value.int IntKind.u8 113, Value.int IntKind.u8 117, Value.int IntKind.u8 105, Value.int IntKind.u8 108, Value.int IntKind.u8 108, Value.int IntKind.u8 116, Value.int IntKind.u8 120, Value.int IntKind.u8 116] 5)).drew := (hk.alloc _).drew
  generalize (W.alloc (Obj.cells #[Value.int IntKind.u8 113, Value.int IntKind.u8 117, Value.int IntKind.u8 105, Value.int IntKind.u8 108, Value.int IntKind.u8 108, Value.int IntKind.u8 116, Value.int IntKind.u8 120, Value.int IntKind.u8 116] 5)).drew = V at *
  refine wpTail_cons rfl rfl (fun K hK => ?_)
  have hm := run_mark (P := Tryz.prog) V 56 5 _ 8 8 _ Tryz.underlying56 Tryz.underlying5 hg0
  go_wp2_with fail
  have hf0 := heap_mark hg0
  have hf1 : (V.freeze ⟨w.heap.size + 2, (bcells magic).toArray.size, none⟩ 1).heap[w.heap.size]? = _ := (heap_freeze_other (by omega)).trans hg1
  have hf2 : (V.freeze ⟨w.heap.size + 2, (bcells magic).toArray.size, none⟩ 1).heap[w.heap.size + 1]? = _ := (heap_freeze_other (by omega)).trans hg2
  have hfk : Kept no w (V.freeze ⟨w.heap.size + 2, (bcells magic).toArray.size, none⟩ 1) := hgk.freeze (by dsimp only; omega) rfl _
  have hfs : w.heap.size + 3 ≤ (V.freeze ⟨w.heap.size + 2, (bcells magic).toArray.size, none⟩ 1).heap.size := by have := lt_of_heap hf0; omega
  have es : (bcells magic).toArray.size = (bcells magic).length := by simp
  rw [es] at hf0 hf1 hf2 hfk hfs
  generalize V.freeze ⟨w.heap.size + 2, (bcells magic).length, none⟩ 1 = U at *
  clear hm hg0 hg1 hg2 hgk
  refine ⟨hf1, ?_⟩
  -- the number
  refine wpTail_cons rfl rfl (fun K hK => ?_)
  go_wp2_with fail
  have hin : RowIn U 5 (.slice (some ⟨w.heap.size + 2, 0, none⟩) 8 8) 8 (bcells magic) := .inr ⟨rfl, _, rfl, fun j u hu => by rw [cells_of' hf0]; simpa using hu⟩
  refine (add_any _ 8 magic number 8 _ _ _ rfl rfl hin (fun k hk => by simp [fpv_some] at hk; omega) ok1 (by decide) (by decide) (by decide)).mono ?_
  rintro e w1 ⟨v1, rfl, hr1, hgr1⟩
  obtain ⟨ha1, hp1, hq1⟩ := hgr1.above (B := w.heap.size + 2) (fun k hk => by simp [fpv_some] at hk; omega) (by omega)
  refine hK _ _ ⟨hp1 _ _ (by omega) hf1, ?_⟩
  clear hK
  -- the text's mark
  refine wpTail_cons rfl rfl (fun K hK => ?_)
  go_wp2_with fail
  have hs1 : w.heap.size + 2 ≤ w1.heap.size := by have := hgr1.1.size; omega
  refine (addMark_any _ 16 (magic ++ le 8 number) tl ts _ (.inl hr1) (Row.lt hr1) ok2 (by decide)).mono ?_
  rintro e w2 ⟨v2, rfl, hr2, hgr2⟩
  obtain ⟨ha2, hp2, hq2⟩ := hgr2.above (B := w.heap.size + 2) ha1 hs1
  refine hK _ _ ⟨hp2 _ _ (by omega) (hp1 _ _ (by omega) hf1), ?_⟩
  clear hK
  -- the file's mark
  refine wpTail_cons rfl rfl (fun K hK => ?_)
  go_wp2_with fail
  have hs2 : w.heap.size + 2 ≤ w2.heap.size := by have := hgr2.1.size; omega
  refine (addMark_any _ 28 (magic ++ le 8 number ++ leMark ⟨tl, ts⟩) fl fs _ (.inl hr2) (Row.lt hr2) ok3 (by decide)).mono ?_
  rintro e w3 ⟨v3, rfl, hr3, hgr3⟩
  obtain ⟨ha3, hp3, hq3⟩ := hgr3.above (B := w.heap.size + 2) ha2 hs2
  have hb13 := hp3 _ _ (by omega) (hp2 _ _ (by omega) (hp1 _ _ (by omega) hf1))
  have hb23 := hp3 _ _ (by omega) (hp2 _ _ (by omega) (hp1 _ _ (by omega) hf2))
  have hk3 := hq3 w (hq2 w (hq1 w hfk (by omega)) (by omega)) (by omega)
  have hs3 : w.heap.size + 2 ≤ w3.heap.size := by have := hgr3.1.size; omega
  refine hK _ _ ⟨hb13, ?_⟩
  clear hK hq1 hq2 hq3 hp1 hp2 hp3 ha1 ha2 hgr1 hgr2 hgr3 hr1 hr2 hin hf0 hf1 hf2 hfk hs1 hs2 hfs
  refine wpTail_read rfl rfl hb13 (by go_simp; rfl) ?_
  simp only [Act.put, List.setIfInBounds_toArray, List.set]
  refine wpTail_nil ?_
  obtain ⟨hr0, ⟨he, hn0, _⟩ | ⟨g, cap, hv3, hcap, hmax⟩⟩ := And.intro hr3 (Row.shape hr3)
  · exact absurd hn0 (by decide)
  subst hv3
  obtain ⟨_, _, _, hcell⟩ := Row.cell hr3
  go_wp2_with fail
  have hlen : (bcells (magic ++ le 8 number ++ leMark ⟨tl, ts⟩ ++ leMark ⟨fl, fs⟩)).length = 40 := by rw [bcells_length]; exact headTold_length ⟨number, ⟨tl, ts⟩, ⟨fl, fs⟩⟩
  generalize htold : magic ++ le 8 number ++ leMark ⟨tl, ts⟩ ++ leMark ⟨fl, fs⟩ = told at hlen hcell hr3 hr0
  have Htold : Hid (headTold ⟨number, ⟨tl, ts⟩, ⟨fl, fs⟩⟩ = told) := htold
  clear htold hr3 hr0
  rw [run_copy_row Tryz.prog w3 56 56 3 5 (w.heap.size + 1) 0 64 64 ⟨g, 0, none⟩ 40 cap zeros64 202 (bcells told) Tryz.underlying56 elem8 hb23 (by rw [hlen]; rfl) (fun j v h => by rw [add_at, Nat.zero_add]; exact hcell j v h) (by rw [hlen]; simp [zeros64]) (bcells_one _)]
  have hrow2 := heap_setRow_same (cs := (zeros64.toList.take 0 ++ bcells told ++ zeros64.toList.drop (0 + (bcells told).length)).toArray) hb23
  have hk4 := hk3.setRow (g := w.heap.size + 1) (by omega) (zeros64.toList.take 0 ++ bcells told ++ zeros64.toList.drop (0 + (bcells told).length)).toArray
  have hs4 : w.heap.size + 2 ≤ (w3.setRow (w.heap.size + 1) (zeros64.toList.take 0 ++ bcells told ++ zeros64.toList.drop (0 + (bcells told).length)).toArray).heap.size := by simpa using hs3
  generalize w3.setRow (w.heap.size + 1) (zeros64.toList.take 0 ++ bcells told ++ zeros64.toList.drop (0 + (bcells told).length)).toArray = w4 at *
  have hl40 : told.length = 40 := by rw [bcells_length] at hlen; exact hlen
  have hrow4 : w4.heap[w.heap.size + 1]? = some (.cells (bcells (told ++ zs 24)).toArray 202 (0, 0)) := by
    rw [zeros64_list] at hrow2
    simp only [List.take_zero, List.nil_append, Nat.zero_add, hlen] at hrow2
    rw [hrow2, bcells_append, ← bcells_drop, zs_drop]
  clear hrow2 hb23 hcell hb13 hb1 hb2
  go_wp2
  refine wp_region_loud (fun _ => True) [0, 1] [2, 3, 4, 5, 6] (by kernel_rfl) (by kernel_rfl) (fun _ _ d _ _ h => by cases d <;> exact h) trivial ?_
  repeat (refine wpPre_cons rfl rfl (fun w' hw' => (by go_simp; rfl)) ?_; simp only [Act.put, List.setIfInBounds_toArray, List.set])
  refine wpPre_nil ?_
  have hbl : (told ++ zs 20).length = 60 := by simp [hl40, zs_length]
  have hcv := run_bytes_str (P := Tryz.prog) w4.drew 56 9 5 (w.heap.size + 1) 0 64 (told ++ zs 20) Tryz.underlying56 Tryz.underlying5 Tryz.underlying9
    (BytesAt.of_row (w := w4.drew) hrow4 (fun j v h => by
      rw [show told ++ zs 24 = (told ++ zs 20) ++ zs 4 from by rw [List.append_assoc, ← zs_add], bcells_append, Nat.zero_add]
      rw [List.getElem?_append_left (by have := List.getElem?_eq_some_iff.1 h; exact this.1)]; exact h))
  rw [hbl] at hcv
  refine wpTail_read rfl rfl trivial (by go_simp; rfl) ?_
  simp only [Act.put, List.setIfInBounds_toArray, List.set]
  clear hcv
  refine wpTail_cons rfl rfl (fun K hK => ?_)
  go_wp2_with fail
  refine (sum_any _ _ (by show ((told ++ zs 20).toArray).size ≤ _; simp [hl40, zs_length])).mono ?_
  rintro e w5 ⟨rfl, rfl⟩
  refine hK _ _ ⟨trivial, ?_⟩
  clear hK
  have hcrc := crc_lt (told ++ zs 20)
  have ecrc : crc (ByteArray.mk (told ++ zs 20).toArray).data.toList = crc (told ++ zs 20) := rfl
  rw [ecrc]
  refine wpTail_read rfl rfl trivial (by go_simp; rw [wrap_sum hcrc]) ?_
  simp only [Act.put, List.setIfInBounds_toArray, List.set]
  refine wpTail_cons rfl rfl (fun K hK => ?_)
  go_wp2_with fail
  refine (add_any _ 0 [] (crc (told ++ zs 20)) 4 _ _ _ rfl rfl (.inl (World.ownsRow_nil _ _ _ _)) (fun k hk => by simp [fpv_nil] at hk) (by omega) (by decide) (by decide) (by decide)).mono ?_
  rintro e w5 ⟨v5, rfl, hr5, hgr5⟩
  have hrow5 : w5.heap[w.heap.size + 1]? = some (.cells (bcells (told ++ zs 24)).toArray 202 (0, 0)) := hgr5.1.get hrow4 (by simp [fpv_nil])
  have hk5 : Kept no w w5 := hk4.drew.step' hgr5.1 (by simp [fpv_nil])
  refine hK _ _ ⟨trivial, ?_⟩
  clear hK
  obtain ⟨he, hn0, _⟩ | ⟨g5, cap5, hv5, hcap5, hmax5⟩ := Row.shape hr5
  · exact absurd hn0 (by decide)
  subst hv5
  obtain ⟨_, _, _, hcell5⟩ := Row.cell hr5
  have hl4 : (bcells ([] ++ le 4 (crc (told ++ zs 20)))).length = 4 := by rw [bcells_length]; simp [le_length]
  have hcp := run_copy_row Tryz.prog w5 56 56 3 5 (w.heap.size + 1) 60 4 4 ⟨g5, 0, none⟩ 4 cap5 _ 202 _ Tryz.underlying56 elem8 hrow5 (by rw [hl4]; rfl) (fun j v h => by rw [add_at, Nat.zero_add]; exact hcell5 j v h) (by rw [hl4]; simp [bcells, hl40, zs_length]) (bcells_one _)
  have hrow6 := heap_setRow_same (cs := ((bcells (told ++ zs 24)).toArray.toList.take 60 ++ bcells ([] ++ le 4 (crc (told ++ zs 20))) ++ (bcells (told ++ zs 24)).toArray.toList.drop (60 + (bcells ([] ++ le 4 (crc (told ++ zs 20)))).length)).toArray) hrow5
  have hk6 := hk5.setRow (g := w.heap.size + 1) (by omega) ((bcells (told ++ zs 24)).toArray.toList.take 60 ++ bcells ([] ++ le 4 (crc (told ++ zs 20))) ++ (bcells (told ++ zs 24)).toArray.toList.drop (60 + (bcells ([] ++ le 4 (crc (told ++ zs 20)))).length)).toArray
  generalize w5.setRow (w.heap.size + 1) ((bcells (told ++ zs 24)).toArray.toList.take 60 ++ bcells ([] ++ le 4 (crc (told ++ zs 20))) ++ (bcells (told ++ zs 24)).toArray.toList.drop (60 + (bcells ([] ++ le 4 (crc (told ++ zs 20)))).length)).toArray = w6 at *
  have hfin : w6.heap[w.heap.size + 1]? = some (.cells (bcells (headBytes ⟨number, ⟨tl, ts⟩, ⟨fl, fs⟩⟩)).toArray 202 (0, 0)) := by
    rw [hrow6, hl4]
    congr 2
    have h60 : (told ++ zs 24).take 60 = told ++ zs 20 := by
      rw [show told ++ zs 24 = (told ++ zs 20) ++ zs 4 from by rw [List.append_assoc, ← zs_add], ← hbl]
      exact List.take_left
    have h64 : (told ++ zs 24).drop (60 + 4) = [] := List.drop_eq_nil_of_le (by simp [hl40, zs_length])
    have e1 : (bcells (told ++ zs 24)).toArray.toList = bcells (told ++ zs 24) := rfl
    rw [e1, ← bcells_take, ← bcells_drop, h60, h64, ← bcells_append, ← bcells_append]
    rw [headBytes, headBody, Htold.out]
    simp
  clear hrow6 hrow5 hcell5
  refine wpTail_cons rfl rfl (fun K hK => ?_)
  go_wp2_with fail
  have hbl2 := headBytes_length ⟨number, ⟨tl, ts⟩, ⟨fl, fs⟩⟩
  have hcv2 := run_bytes_str (P := Tryz.prog) w6 56 9 5 (w.heap.size + 1) 0 64 (headBytes ⟨number, ⟨tl, ts⟩, ⟨fl, fs⟩⟩) Tryz.underlying56 Tryz.underlying5 Tryz.underlying9
    (BytesAt.of_row hfin (fun j v h => by rw [Nat.zero_add]; exact h))
  rw [hbl2] at hcv2
  clear hbl2 hbl hl4 hcp
  refine wpTail_nil ?_
  go_wp2
  go_ret
  exact ⟨rfl, hk6⟩
end Go.Proofs.YtdpfohgkikjeaaaGreat
/- package swap: numbers read back, heads read back. -/
namespace Go.Proofs.YtdpfohgkikjeaaaGreat
open Go.RowKit
set_option linter.unusedVariables false
set_option linter.unusedSimpArgs false

theorem or_step {v b k : Nat} (hv : v < 256 ^ k) (hb : b < 256) (hk : k < 8) : bits BinOp.or IntKind.u64 (v : Int) (IntKind.u64.wrap (IntKind.u64.wrap (b : Int) * 2 ^ (8 * k))) = ((v + 256 ^ k * b : Nat) : Int) := by
  have hp : (2 : Nat) ^ (8 * k) = 256 ^ k := by rw [Nat.pow_mul]
  have hp' : (2 : Int) ^ (8 * k) = ((256 ^ k : Nat) : Int) := by rw [← hp]; simp
  have h7 : 256 ^ k ≤ 256 ^ 7 := Nat.pow_le_pow_right (by decide) (by omega)
  have hx : b * 256 ^ k < 18446744073709551616 := by
    have : b * 256 ^ k ≤ 255 * 256 ^ 7 := Nat.mul_le_mul (by omega) h7
    omega
  rw [IntKind.wrap_u64 (b : Int), show ((b : Int) % 18446744073709551616) = (b : Int) from by omega, hp', IntKind.wrap_u64]
  rw [show (((b : Int) * ((256 ^ k : Nat) : Int)) % 18446744073709551616) = ((b * 256 ^ k : Nat) : Int) from by
    rw [← Int.natCast_mul]; omega]
  rw [u64_or_nat _ _ (by omega) hx, Nat.or_comm, ← hp]
  have h := Nat.shiftLeft_add_eq_or_of_lt (i := 8 * k) (b := v) (by rw [hp]; exact hv) b
  rw [Nat.shiftLeft_eq] at h
  rw [← h, Nat.add_comm, Nat.mul_comm]

set_option maxHeartbeats 400000 in
theorem take_any (s : ByteArray) (size : Nat) (sizeI : Int) (w : World) (hsI : sizeI = (size : Int)) (hs : size ≤ s.size) (h8 : size ≤ 8) (hb : s.size ≤ 64) :
    Calls Tryz.prog 131 #[.string s, .int .i64 sizeI] w fun e w' => e = .returned (.tuple #[.int .u64 (unle (s.data.toList.take size) : Nat), .string ⟨(s.data.toList.drop size).toArray⟩]) ∧ Kept no w w' := by
  subst hsI
  go_enter Tryz.func131, Tryz.ntmps131
  go_wp2
  go_loop [6, 7, 9] (fun v j i => ∃ k : Nat, k ≤ size ∧ v = .int .u64 (unle (s.data.toList.take k) : Nat) ∧ i = .int .i64 k) (fun _ _ i => size - (intOf i).toNat)
  case atStart => exact ⟨0, by omega, rfl, rfl⟩
  case round =>
    obtain ⟨k, hk, rfl, rfl⟩ := hrel
    have hv := unle_lt (s.data.toList.take k)
    have hl : (s.data.toList.take k).length = k := by rw [List.length_take, Array.length_toList]; show min k s.size = k; omega
    rw [hl] at hv
    generalize hV : unle (s.data.toList.take k) = v at hv
    have HV : Hid (unle (s.data.toList.take k) = v) := hV
    clear hV hl
    by_cases hlt : k < size
    · have hlt' : k < s.size := by omega
      go_wp2
      refine ⟨⟨k + 1, by omega, ?_, by go_num⟩, by simp [intOf]; omega⟩
      have hb := s[k].toNat_lt
      rw [or_step hv hb (by omega), take_snoc s k hlt', unle_append, HV.out]
      have hl : (s.data.toList.take k).length = k := by rw [List.length_take, Array.length_toList]; show min k s.size = k; omega
      rw [hl]
      simp [unle]
    · obtain rfl : k = size := by omega
      go_wp2
      go_quiet (fail)
      go_wp2
      go_ret2
      refine ⟨?_, (Kept.refl _ _).drewN _⟩
      rw [HV.out, extract_list, List.take_of_length_le (by rw [Array.length_toList]; exact Nat.le_refl _)]
      rfl
theorem wrap_i64 (n : Nat) (h : n < 18446744073709551616) : IntKind.i64.wrap (n : Int) = i64 n := by
  rw [IntKind.wrap_i64]
  unfold i64
  split <;> omega

theorem take_len (s : ByteArray) (k : Nat) (h : k ≤ s.size) : (s.data.toList.take k).length = k := by
  rw [List.length_take, Array.length_toList]; show min k s.size = k; omega

theorem unle_lt' {l : Str} {n : Nat} (h : l.length ≤ n) : unle l < 256 ^ n :=
  Nat.lt_of_lt_of_le (unle_lt l) (Nat.pow_le_pow_right (by decide) h)

set_option maxHeartbeats 400000 in
theorem takeMark_any (s : ByteArray) (w : World) (hs : 12 ≤ s.size) (hb : s.size ≤ 64) :
    Calls Tryz.prog 132 #[.string s] w fun e w' => e = .returned (.tuple #[.agg #[.int .i64 (parseMark s.data.toList).len, .int .u32 (parseMark s.data.toList).sum], .string ⟨(s.data.toList.drop 12).toArray⟩]) ∧ Kept no w w' := by
  have hl : s.data.toList.length = s.size := by rw [Array.length_toList]; rfl
  go_enter Tryz.func132, Tryz.ntmps132
  go_wp2_with fail
  refine (take_any s 8 _ _ rfl (by omega) (by decide) hb).mono ?_
  rintro e w1 ⟨rfl, hk1⟩
  go_wp2_with fail
  refine (take_any _ 4 _ _ rfl (by show _ ≤ (s.data.toList.drop 8).toArray.size; simp; omega) (by decide) (by show (s.data.toList.drop 8).toArray.size ≤ _; simp; omega)).mono ?_
  rintro e w2 ⟨rfl, hk2⟩
  have h8 := unle_lt' (l := s.data.toList.take 8) (n := 8) (by simp; omega)
  have h4 := unle_lt' (l := (s.data.toList.drop 8).take 4) (n := 4) (by simp; omega)
  have e4 : unle (List.take 4 (ByteArray.mk (s.data.toList.drop 8).toArray).data.toList) = (parseMark s.data.toList).sum := rfl
  have el : (parseMark s.data.toList).len = i64 (unle (s.data.toList.take 8)) := rfl
  have ed : (ByteArray.mk (s.data.toList.drop 8).toArray).data.toList.drop 4 = s.data.toList.drop 12 := by
    show (s.data.toList.drop 8).drop 4 = _
    rw [List.drop_drop]
  have h4' : (parseMark s.data.toList).sum < 4294967296 := h4
  rw [e4, ed]
  have hw8 := wrap_i64 _ h8
  rw [← el] at hw8
  have hr := (hk2.block w.heap.size (by have := hk1.size; simp at this; omega) (fun h => h)).trans ((hk1.block w.heap.size (by simp) (fun h => h)).trans heap_alloc_same)
  obtain ⟨hc, hf⟩ := cells_of hr
  have HR := hr; clear hr
  go_wp2
  refine bodyPost_ret (v := .tuple #[.agg #[.int .i64 (parseMark s.data.toList).len, .int .u32 (parseMark s.data.toList).sum], .string ⟨(s.data.toList.drop 12).toArray⟩]) (by simp [results, Tryz.results132, go_sem, hc, el]) rfl ⟨rfl, ?_⟩
  exact (((((Kept.refl _ _).alloc _).step hk1).step hk2).setNew (Nat.le_refl _) _).setNew (Nat.le_refl _) _

theorem parseHead_ok (s : Str) : (parseHead s).Ok := by
  have h := fun (l : Str) (n : Nat) (hl : l.length ≤ n) => unle_lt' hl
  refine ⟨?_, ?_, ?_⟩
  · exact h ((s.drop 8).take 8) 8 (by simp; omega)
  · exact h (((s.drop 16).drop 8).take 4) 4 (by simp; omega)
  · exact h (((s.drop 28).drop 8).take 4) 4 (by simp; omega)

set_option maxHeartbeats 800000 in
theorem readHead_any (s : ByteArray) (w : World) (hs : s.size = 64) :
    Calls Tryz.prog 103 #[.string s] w fun e w' => e = .returned (.tuple #[((readHead s.data.toList).getD ⟨0, ⟨0, 0⟩, ⟨0, 0⟩⟩).val, .bool (readHead s.data.toList).isSome]) ∧ Kept no w w' := by
  have hl : s.data.toList.length = 64 := by rw [Array.length_toList]; exact hs
  go_enter Tryz.func103, Tryz.ntmps103
  go_wp2_with fail
  obtain ⟨hr0, hh0, hsz, hk0⟩ := new2 w (Obj.cells #[.int .u64 0, .int .i64 0, .int .u32 0, .int .i64 0, .int .u32 0] 164) (Obj.cells #[.int .u64 0, .int .i64 0, .int .u32 0, .int .i64 0, .int .u32 0] 164)
  generalize (w.alloc (Obj.cells #[.int .u64 0, .int .i64 0, .int .u32 0, .int .i64 0, .int .u32 0] 164)).alloc (Obj.cells #[.int .u64 0, .int .i64 0, .int .u32 0, .int .i64 0, .int .u32 0] 164) = W at *
  have e8 : s.extract 8 64 = ⟨(s.data.toList.drop 8).toArray⟩ := by rw [extract_list, List.take_of_length_le (by omega)]
  rw [e8]
  clear e8
  refine (take_any _ 8 _ _ rfl (by show 8 ≤ (s.data.toList.drop 8).toArray.size; simp; omega) (by decide) (by show (s.data.toList.drop 8).toArray.size ≤ 64; simp; omega)).mono ?_
  rintro e w1 ⟨rfl, hk1⟩
  have ed1 : (ByteArray.mk (s.data.toList.drop 8).toArray).data.toList.drop 8 = s.data.toList.drop 16 := by
    show (s.data.toList.drop 8).drop 8 = _
    rw [List.drop_drop]
  have en1 : unle ((ByteArray.mk (s.data.toList.drop 8).toArray).data.toList.take 8) = (parseHead s.data.toList).number := rfl
  rw [ed1, en1]
  clear ed1 en1
  have hr1 := hk1.get hr0 (fun h => h)
  have hh1 := hk1.get hh0 (fun h => h)
  have hkk1 := hk0.step hk1
  clear hr0 hh0 hk0 hk1
  obtain ⟨hc, hf⟩ := cells_of hh1
  have HR : Hid _ := hr1; clear hr1
  have HH : Hid _ := hh1; clear hh1
  go_wp2_with fail
  refine (takeMark_any _ _ (by show 12 ≤ (s.data.toList.drop 16).toArray.size; simp; omega) (by show (s.data.toList.drop 16).toArray.size ≤ 64; simp; omega)).mono ?_
  rintro e w2 ⟨rfl, hk2⟩
  have ed1 : (ByteArray.mk (s.data.toList.drop 16).toArray).data.toList.drop 12 = s.data.toList.drop 28 := by
    show (s.data.toList.drop 16).drop 12 = _
    rw [List.drop_drop]
  have en1 : parseMark ((ByteArray.mk (s.data.toList.drop 16).toArray).data.toList) = (parseHead s.data.toList).text := rfl
  rw [ed1, en1]
  clear ed1 en1
  have hr2 := hk2.get ((heap_set_other (by omega)).trans HR.out) (fun h => h)
  have hh2 := hk2.get (heap_set_same HH.out) (fun h => h)
  have hkk2 := (hkk1.setNew (by dsimp only; omega) _).step hk2
  simp only [List.setIfInBounds_toArray, List.set] at hh2
  clear hk2 HR HH hc hf hkk1
  obtain ⟨hc, hf⟩ := cells_of hh2
  have HR : Hid _ := hr2; clear hr2
  have HH : Hid _ := hh2; clear hh2
  go_wp2_with fail
  refine (takeMark_any _ _ (by show 12 ≤ (s.data.toList.drop 28).toArray.size; simp; omega) (by show (s.data.toList.drop 28).toArray.size ≤ 64; simp; omega)).mono ?_
  rintro e w3 ⟨rfl, hk3⟩
  have en1 : parseMark ((ByteArray.mk (s.data.toList.drop 28).toArray).data.toList) = (parseHead s.data.toList).file := rfl
  rw [en1]
  clear en1
  have hr3 := hk3.get ((heap_set_other (by omega)).trans ((heap_set_other (by omega)).trans HR.out)) (fun h => h)
  have hh3 := hk3.get (heap_set_same (heap_set_same HH.out)) (fun h => h)
  have hkk3 := ((hkk2.setNew (by dsimp only; omega) _).setNew (by dsimp only; omega) _).step hk3
  simp only [List.setIfInBounds_toArray, List.set] at hh3
  clear hk3 HR HH hc hf hkk2
  obtain ⟨hc, hf⟩ := cells_of hh3
  have HR : Hid _ := hr3; clear hr3
  have HH : Hid _ := hh3; clear hh3
  go_wp2_with fail
  refine (sector_any (parseHead s.data.toList) _ (parseHead_ok _)).mono ?_
  rintro e w4 ⟨rfl, hk4⟩
  have hr4 := hk4.get ((heap_set_other (by omega)).trans ((heap_set_other (by omega)).trans HR.out)) (fun h => h)
  have hh4 := hk4.get (heap_set_same (heap_set_same HH.out)) (fun h => h)
  have hkk4 := ((hkk3.setNew (by dsimp only; omega) _).setNew (by dsimp only; omega) _).step hk4
  simp only [List.setIfInBounds_toArray, List.set] at hh4
  clear hk4 HR HH hc hf hkk3
  obtain ⟨hc, hf⟩ := cells_of hh4
  obtain ⟨hc', hf'⟩ := cells_of hr4
  have HR : Hid _ := hr4; clear hr4
  have HH : Hid _ := hh4; clear hh4
  have hb : (headBytes (parseHead s.data.toList) == s.toList) = (readHead s.data.toList).isSome := by
    rw [ByteArray.toList_eq, readHead]
    show (headBytes (parseHead s.data.toList) == s.data.toList) = _
    by_cases h : headBytes (parseHead s.data.toList) = s.data.toList
    · rw [if_pos h, h]; simp
    · rw [if_neg h]; simpa using h
  cases hs : readHead s.data.toList with
  | none =>
    rw [hs] at hb
    simp only [Option.isSome_none] at hb
    go_wp2
    refine bodyPost_ret (v := .tuple #[Head.val ⟨0, ⟨0, 0⟩, ⟨0, 0⟩⟩, .bool false]) (by simp [results, Tryz.results103, go_sem, hc', Head.val]) rfl ⟨by rw [hs]; rfl, ?_⟩
    exact ((((hkk4.setNew (Nat.le_refl _) _).setNew (Nat.le_refl _) _).setNew (Nat.le_refl _) _).setNew (Nat.le_refl _) _).setNew (Nat.le_refl _) _
  | some h =>
    rw [hs] at hb
    simp only [Option.isSome_some] at hb
    have hh : Hid (parseHead s.data.toList = h) := by
      show parseHead s.data.toList = h
      unfold readHead at hs
      split at hs
      · exact Option.some.inj hs
      · cases hs
    go_wp2
    refine bodyPost_ret (v := .tuple #[Head.val (parseHead s.data.toList), .bool true]) (by simp [results, Tryz.results103, go_sem, hc', Head.val]) rfl ⟨by rw [hs, hh.out]; rfl, ?_⟩
    exact ((((hkk4.setNew (Nat.le_refl _) _).setNew (Nat.le_refl _) _).setNew (Nat.le_refl _) _).setNew (Nat.le_refl _) _).setNew (Nat.le_refl _) _

end Go.Proofs.YtdpfohgkikjeaaaGreat
/- package swap: the Writer, the halves. -/
namespace Go.Proofs.YtdpfohgkikjeaaaGreat
open Go.RowKit
set_option linter.unusedVariables false
set_option linter.unusedSimpArgs false

set_option maxHeartbeats 400000 in
theorem later_any (a b : Nat) (w : World) (ha : a < 18446744073709551616) (hb : b < 18446744073709551616) :
    Calls Tryz.prog 130 #[.int .u64 a, .int .u64 b] w fun e w' => e = .returned (.bool (isLater a b)) ∧ w' = w := by
  go_enter Tryz.func130, Tryz.ntmps130
  go_wp2
  go_ret
  refine ⟨?_, rfl⟩
  have e : IntKind.i64.wrap (IntKind.u64.wrap ((a : Int) - b)) = i64 ((a + 18446744073709551616 - b) % 18446744073709551616) := by
    rw [IntKind.wrap_u64, ← wrap_i64 _ (Nat.mod_lt _ (by decide))]
    congr 1
    omega
  have e2 : wrap64 (IntKind.u64.wrap ((a : Int) - b)) = i64 ((a + 18446744073709551616 - b) % 18446744073709551616) := by
    rw [← e, IntKind.wrap_i64]
    unfold wrap64
    rfl
  show Ending.returned (.bool (decide (0 < wrap64 (IntKind.u64.wrap ((a : Int) - b))))) = _
  rw [e2]
  rfl

set_option maxHeartbeats 400000 in
theorem fresh_any (b o : Nat) (known : Bool) (w : World) (h : w.cell? ⟨b, o, none⟩ = some (.bool known)) :
    Calls Tryz.prog 58 #[.pointer (some ⟨b, o, none⟩)] w fun e w' => e = .returned (.bool (!known)) ∧ w' = w := by
  go_enter Tryz.func58, Tryz.ntmps58
  go_wp2
  go_ret
  exact ⟨rfl, rfl⟩

set_option maxHeartbeats 400000 in
theorem next_any (b o : Nat) (half : Int) (number : Nat) (w : World) (h2 : w.cell? ⟨b, o + 2, none⟩ = some (.int .i64 half)) (h3 : w.cell? ⟨b, o + 3, none⟩ = some (.int .u64 number)) (hh0 : 0 ≤ half) (hh1 : half ≤ 1) (hn : number < 18446744073709551616) :
    Calls Tryz.prog 116 #[.pointer (some ⟨b, o, none⟩)] w fun e w' => e = .returned (.tuple #[.int .i64 (1 - half), .int .u64 ((number + 1) % 18446744073709551616 : Nat)]) ∧ ∃ n, w' = w.drewN n := by
  go_enter Tryz.func116, Tryz.ntmps116
  go_wp2
  go_quiet (fail)
  go_wp2
  go_ret2
  refine ⟨?_, _, rfl⟩
  have e : IntKind.u64.wrap ((number : Int) + 1) = (((number + 1) % 18446744073709551616 : Nat) : Int) := by rw [IntKind.wrap_u64]; omega
  rw [← e]
  rfl

/-- The writer at ⟨b, o⟩: its four cells. -/
def WriterCells (known unsettled : Bool) (half : Int) (number : Nat) : List Value := [.bool known, .bool unsettled, .int .i64 half, .int .u64 number]

set_option maxHeartbeats 400000 in
theorem written_any (b o : Nat) (half : Int) (number : Nat) (w : World) (c0 c1 : Value) (h0 : w.cell? ⟨b, o, none⟩ = some c0) (h1 : w.cell? ⟨b, o + 1, none⟩ = some c1)
    (h2 : w.cell? ⟨b, o + 2, none⟩ = some (.int .i64 half)) (h3 : w.cell? ⟨b, o + 3, none⟩ = some (.int .u64 number)) (hf : ∀ k, w.frozen? ⟨b, k, none⟩ = false) (hh0 : 0 ≤ half) (hh1 : half ≤ 1) (hn : number < 18446744073709551616) :
    Calls Tryz.prog 101 #[.pointer (some ⟨b, o, none⟩)] w fun e w' => e = .returned (.tuple #[]) ∧
      ∃ n, w' = ((((w.drewN n).setCell ⟨b, o, none⟩ (.bool true)).setCell ⟨b, o + 1, none⟩ (.bool false)).setCell ⟨b, o + 2, none⟩ (.int .i64 (1 - half))).setCell ⟨b, o + 3, none⟩ (.int .u64 ((number + 1) % 18446744073709551616 : Nat)) := by
  go_enter Tryz.func101, Tryz.ntmps101
  go_wp2_with fail
  refine (next_any b o half number w h2 h3 hh0 hh1 hn).mono ?_
  rintro e w' ⟨rfl, n, rfl⟩
  go_wp2
  go_end0
  exact ⟨rfl, n, rfl⟩

/-- The block b bears these texts from o on. -/
def StrsAt (w : World) (b o : Nat) (l : List Str) : Prop := ∀ j s, l[j]? = some s → w.cell? ⟨b, o + j, none⟩ = some (.string ⟨s.toArray⟩)

theorem StrsAt.kept {w w' : World} {b o : Nat} {l : List Str} {S : Blocks} (h : StrsAt w b o l) (k : Kept S w w') (hn : ¬ S b) : StrsAt w' b o l := by
  intro j s hs
  have hc := h j s hs
  have hlt := World.block_lt_of_cell? _ _ hc
  rw [World.cell?_of_block (w := w) (k.block b hlt hn)]
  exact hc

set_option maxHeartbeats 800000 in
theorem laterHalf_any (b o cap : Nat) (secs : List Str) (w : World) (hs : StrsAt w b o secs) (hl : secs.length = 400) (h64 : ∀ s ∈ secs, s.length = 64) (hcap : 400 ≤ cap) :
    Calls Tryz.prog 102 #[.slice (some ⟨b, o, none⟩) 400 cap] w fun e w' => e = .returned (.int .i64 (laterHalf (secs.getD 0 []) (secs.getD 40 []) : Nat)) ∧ Kept no w w' := by
  obtain ⟨s0, hs0⟩ : ∃ s, secs[0]? = some s := ⟨_, List.getElem?_eq_getElem (by omega)⟩
  obtain ⟨s1, hs1⟩ : ∃ s, secs[40]? = some s := ⟨_, List.getElem?_eq_getElem (by omega)⟩
  have e0 : secs.getD 0 [] = s0 := by simp [hs0]
  have e1 : secs.getD 40 [] = s1 := by simp [hs1]
  rw [e0, e1]
  have hc0 : w.cell? ⟨b, o, none⟩ = _ := hs 0 s0 hs0
  have l0 := h64 s0 (List.mem_of_getElem? hs0)
  have l1 := h64 s1 (List.mem_of_getElem? hs1)
  go_enter Tryz.func102, Tryz.ntmps102
  go_wp2_with fail
  refine (headAt_any _ _ (by decide) (by decide)).mono ?_
  rintro e w' ⟨rfl, rfl⟩
  go_wp2_with fail
  refine (readHead_any _ _ (show (ByteArray.mk s0.toArray).size = 64 from l0)).mono ?_
  rintro e w1 ⟨rfl, hk1⟩
  have hs1' := (hs.kept hk1 (fun h => h)) 40 s1 hs1
  have ee : (ByteArray.mk s0.toArray).data.toList = s0 := rfl
  rw [ee]
  clear ee
  generalize hv0 : ((readHead s0).getD ⟨0, ⟨0, 0⟩, ⟨0, 0⟩⟩) = v0
  simp only [Head.val]
  clear hc0
  have hs1'' := fun o' => (World.cell?_alloc_lt w1 o' _ (World.block_lt_of_cell? _ _ hs1')).trans hs1'
  go_wp2_with fail
  refine (headAt_any _ _ (by decide) (by decide)).mono ?_
  rintro e w' ⟨rfl, rfl⟩
  go_wp2_with fail
  refine (readHead_any _ _ (show (ByteArray.mk s1.toArray).size = 64 from l1)).mono ?_
  rintro e w2 ⟨rfl, hk2⟩
  have ee : (ByteArray.mk s1.toArray).data.toList = s1 := rfl
  rw [ee]
  clear ee hs1'' hs1'
  have hb0 := hk2.get (heap_alloc_same (w := w1) (o := Obj.cells #[.int .u64 v0.number, .int .i64 v0.text.len, .int .u32 v0.text.sum, .int .i64 v0.file.len, .int .u32 v0.file.sum] 164)) (fun h => h)
  generalize hv1 : ((readHead s1).getD ⟨0, ⟨0, 0⟩, ⟨0, 0⟩⟩) = v1
  simp only [Head.val]
  have hlt := lt_of_heap hb0
  have hc0 := fun o' k => (World.cell?_alloc_lt w2 o' ⟨w1.heap.size, k, none⟩ hlt).trans (cells_of' hb0 k)
  have hkk : Kept no w' w2 := (hk1.alloc _).step hk2
  have ok0 : v0.number < 18446744073709551616 := by
    rw [← hv0]
    cases hx : readHead s0 with
    | none => decide
    | some h => simp only [Option.getD_some]; unfold readHead at hx; split at hx <;> cases hx; exact (parseHead_ok s0).number
  have ok1 : v1.number < 18446744073709551616 := by
    rw [← hv1]
    cases hx : readHead s1 with
    | none => decide
    | some h => simp only [Option.getD_some]; unfold readHead at hx; split at hx <;> cases hx; exact (parseHead_ok s1).number
  have HB : Hid _ := hb0; clear hb0
  cases hx1 : readHead s1 with
  | none =>
    simp only [hx1, Option.isSome_none, Option.isSome_some]
    clear hv0 hv1
    go_wp2
    go_ret
    refine ⟨?_, ?_⟩
    · simp only [laterHalf, hx1]
      rfl
    · exact hkk.alloc _
  | some h1 =>
    have e1 : v1 = h1 := by rw [← hv1, hx1]; rfl
    subst e1
    cases hx0 : readHead s0 with
    | none =>
      simp only [hx1, hx0, Option.isSome_none, Option.isSome_some]
      clear hv0 hv1
      go_wp2
      go_ret
      refine ⟨?_, ?_⟩
      · simp only [laterHalf, hx0, hx1]
        rfl
      · exact hkk.alloc _
    | some h0 =>
      have e0' : v0 = h0 := by rw [← hv0, hx0]; rfl
      subst e0'
      simp only [hx1, hx0, Option.isSome_none, Option.isSome_some]
      clear hv0 hv1
      cases hlat : isLater v1.number v0.number
      all_goals go_wp2_with (go_at_call 130; refine (later_any _ _ _ ok1 ok0).mono ?_; rintro e w' ⟨rfl, rfl⟩)
      all_goals go_ret
      · refine ⟨?_, ?_⟩
        · simp only [laterHalf, hx0, hx1, hlat]
          rfl
        · exact hkk.alloc _
      · refine ⟨?_, ?_⟩
        · simp only [laterHalf, hx0, hx1, hlat]
          rfl
        · exact hkk.alloc _

end Go.Proofs.YtdpfohgkikjeaaaGreat
