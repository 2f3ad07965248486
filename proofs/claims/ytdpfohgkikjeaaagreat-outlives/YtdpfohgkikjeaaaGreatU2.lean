/- Part 2 of the proof: see its parts. -/
import Derived.Laws.BitsAllLaws
import Derived.Still
import Derived.KernelRfl
import Derived.Test.YtdpfohgkikjeaaaGreatU1
/- append onto rows that are owned, with what becomes of memory in the word of Kept. -/
namespace Go.Proofs.YtdpfohgkikjeaaaGreat
open Go.RowKit
set_option linter.unusedVariables false
set_option linter.unusedSimpArgs false

/-- What a slice's type is, as far as append asks. -/
structure SliceTy (P : Program) (t e : TypeId) (size bytes : Nat) : Prop where
  under : P.underlying t = some (.slice e)
  info : ∃ i z, P.info? e = some i ∧ i.zero = some z ∧ i.size = size ∧ i.bytes = bytes ∧ z.cells.size = size
  pos : 0 < size

theorem SliceTy.mk' {P : Program} {t e : TypeId} {size bytes : Nat} {z : Value} (h : P.underlying t = some (.slice e)) (hi : (P.info? e).map (fun i => (i.zero, i.size, i.bytes)) = some (some z, size, bytes)) (hz : z.cells.size = size) (hp : 0 < size) : SliceTy P t e size bytes := by
  obtain ⟨i, h1, h2, h3, h4⟩ := info_parts hi
  exact ⟨h, ⟨i, z, h1, h2, h3, h4, hz⟩, hp⟩

/-- The slice v has become v': of what was there its own block alone may have turned; v' lies in it or is new. -/
def Grew (w w' : World) (v v' : Value) : Prop := Kept (fun k => k ∈ fpv v) w w' ∧ ∀ k, k ∈ fpv v' → k ∈ fpv v ∨ w.heap.size ≤ k

theorem run_app {P : Program} {t e : TypeId} {size bytes : Nat} (T : SliceTy P t e size bytes) (ty : TypeId) (w : World) (v : Value) (n : Nat) (xs : List Value) (hown : Row w e size v n xs)
    (g o m c : Nat) (news : List Value) (hl : news.length = m * size) (hnews : ∀ j u, news[j]? = some u → w.cell? ⟨g, o + j, none⟩ = some u) (h1 : ∀ u ∈ news, u.oneCell' = true)
    (hbytes : (n + m) * bytes ≤ 140737488355328) (hn : n + m ≤ 140737488355328) :
    ∃ v' w', (Builtin.append_ #[t, t] ty #[v, .slice (some ⟨g, o, none⟩) m c]).run P w = .ok v' w' ∧ Row w' e size v' (n + m) (xs ++ news) ∧ Grew w w' v v' ∧ (v' = .slice none 0 0 ↔ v = .slice none 0 0 ∧ m = 0) := by
  obtain ⟨i, z, hi, hz, hs, hb, hzs⟩ := T.info
  obtain ⟨v', w', hr, h2, h3, h4, h5⟩ := run_append_own_at (P := P) w 0 t ty e i z size bytes T.under hi hz hs hb hzs T.pos v n xs hown ⟨g, o, none⟩ m c news hl (fun j u h => by rw [add_at]; exact hnews j u h) h1 (by simp only [maxLen]; omega) hbytes (Nat.zero_le _)
  refine ⟨v', w', hr, h2, ⟨Kept.of_grown h3 (fun k hk _ => mem_fpv.2 hk), fun k hk => ?_⟩, h4⟩
  rw [mem_fpv] at hk
  rcases h5 with h5 | h5
  · exact .inl (mem_fpv.2 (h5 ▸ hk))
  · rw [h5] at hk; cases hk; exact .inr (Nat.le_refl _)

section
variable {P : Program} {w : World} {ops : Array Oper} {rest : List Oper} {o : Oper} {a : Act} {Q : Exit → Act → World → Prop}

/-- At the operation: append(v, x..). -/
theorem wpList_app (hgd : o.guard = none) (s x : Operand) (t : TypeId) (ho : o.op = .call { callee := .builtin .append, args := #[s, x], argTypes := #[t, t] })
    {e : TypeId} {size bytes : Nat} (T : SliceTy P t e size bytes) (v : Value) (n : Nat) (xs : List Value) (hs : a.eval s = v) (hown : Row w e size v n xs)
    (g off m c : Nat) (news : List Value) (hx : a.eval x = .slice (some ⟨g, off, none⟩) m c) (hl : news.length = m * size) (hnews : ∀ j u, news[j]? = some u → w.cell? ⟨g, off + j, none⟩ = some u) (h1 : ∀ u ∈ news, u.oneCell' = true)
    (hbytes : (n + m) * bytes ≤ 140737488355328) (hn : n + m ≤ 140737488355328)
    (h : ∀ v' w', Row w' e size v' (n + m) (xs ++ news) → Grew w w' v v' → wpList P ops Q rest (a.put o.dst v') w') : wpList P ops Q (o :: rest) a w := by
  refine wpList_plain hgd fun K hK => ?_
  obtain ⟨v', w', hr, h2, h3, _⟩ := run_app T o.type w v n xs hown g off m c news hl hnews h1 hbytes hn
  unfold Oper.wp execOp
  simp only [ho, resolve, invoke, builtin, Sem.run_bind, Sem.run_pure, Result.andThen_ok, List.map_toArray, List.map_cons, List.map_nil, hs, hx, hr]
  exact hK _ _ (h v' w' h2 h3)

/-- At the operation: append(v, x), x of one cell, laid in a new block just now. -/
theorem wpList_push (hgd : o.guard = none) (s x : Operand) (t : TypeId) (ho : o.op = .call { callee := .builtin .append, args := #[s, x], argTypes := #[t, t] })
    {e : TypeId} {bytes : Nat} (T : SliceTy P t e 1 bytes) (v : Value) (n : Nat) (xs : List Value) (hs : a.eval s = v) (hown : Row w e 1 v n xs)
    (g c : Nat) (u : Value) (hx : a.eval x = .slice (some ⟨g, 0, none⟩) 1 c) (hu : w.cell? ⟨g, 0, none⟩ = some u) (h1 : u.oneCell' = true) (hb : bytes ≤ 64) (hn : n ≤ 1099511627776)
    (h : ∀ v' w', Row w' e 1 v' (n + 1) (xs ++ [u]) → Grew w w' v v' → wpList P ops Q rest (a.put o.dst v') w') : wpList P ops Q (o :: rest) a w := by
  refine wpList_app hgd s x t ho T v n xs hs hown g 0 1 c [u] hx rfl (fun j u' hj => ?_) (fun u' hu' => ?_) ?_ (by omega) h
  · match j, hj with
    | 0, hj => simp at hj; subst hj; simpa using hu
  · simp at hu'; subst hu'; exact h1
  · have : (n + 1) * bytes ≤ 1099511627777 * 64 := Nat.mul_le_mul (by omega) hb
    omega
end

/-- A row to append to: one that is owned, or one that is full and is only read (a constant's bytes). -/
def RowIn (w : World) (e : TypeId) (v : Value) (n : Nat) (xs : List Value) : Prop :=
  Row w e 1 v n xs ∨ (xs.length = n ∧ ∃ g, v = .slice (some ⟨g, 0, none⟩) n n ∧ ∀ j u, xs[j]? = some u → w.cell? ⟨g, j, none⟩ = some u)

theorem run_app_in {P : Program} {t e : TypeId} {bytes : Nat} (T : SliceTy P t e 1 bytes) (ty : TypeId) (w : World) (v : Value) (n : Nat) (xs : List Value) (hown : RowIn w e v n xs)
    (g c : Nat) (u : Value) (hu : w.cell? ⟨g, 0, none⟩ = some u) (h1 : u.oneCell' = true) (hb : bytes ≤ 64) (hn : n ≤ 1099511627776) :
    ∃ v' w', (Builtin.append_ #[t, t] ty #[v, .slice (some ⟨g, 0, none⟩) 1 c]).run P w = .ok v' w' ∧ Row w' e 1 v' (n + 1) (xs ++ [u]) ∧ Grew w w' v v' := by
  have hcell : ∀ j u', [u][j]? = some u' → w.cell? ⟨g, 0 + j, none⟩ = some u' := fun j u' hj => by
    match j, hj with
    | 0, hj => simp at hj; subst hj; simpa using hu
  have hone : ∀ u' ∈ [u], u'.oneCell' = true := fun u' hu' => by simp at hu'; subst hu'; exact h1
  have hbb : (n + 1) * bytes ≤ 140737488355328 := by
    have : (n + 1) * bytes ≤ 1099511627777 * 64 := Nat.mul_le_mul (by omega) hb
    omega
  rcases hown with hown | ⟨hl, gv, rfl, hc⟩
  · obtain ⟨v', w', h1, h2, h3, _⟩ := run_app T ty w v n xs hown g 0 1 c [u] rfl hcell hone hbb (by omega)
    exact ⟨v', w', h1, h2, h3⟩
  · obtain ⟨i, z, hi, hz, hs, hby, hzs⟩ := T.info
    have hr := run_append_grow (P := P) w t ty e i z T.under hi hz ⟨gv, 0, none⟩ n n xs (by rw [hs]; omega) (fun j u' h => by rw [add_at, Nat.zero_add]; exact hc j u' h) ⟨g, 0, none⟩ 1 c [u] (by rw [hs]; rfl) (fun j u' h => by rw [add_at]; exact hcell j u' h) (by omega) (by omega) (growslice_fits (by omega) (by rw [hby]; exact hbb))
    refine ⟨_, _, hr, ?_, (((Kept.refl _ _).drew).alloc _), fun k hk => ?_⟩
    · have hge := grownCap_ge w (n + 1) n e
      refine ⟨by simp [hl], .inr ⟨w.heap.size, _, _, rfl, Nat.zero_le _, heap_alloc_same (w := w.drew), hge, grownCap_le_maxLen w (n + 1) n e (by simp only [maxLen]; omega), ?_, ?_⟩⟩
      · simp only [Array.size_append, List.size_toArray, size_zeroCells, hzs, hl, List.length_cons, List.length_nil]
        omega
      · simp only [Array.toList_append, List.append_assoc]
        have e1 : (n + 1) * 1 = (xs ++ [u]).length := by simp [hl]
        rw [← List.append_assoc, e1]
        exact List.take_left
    · simp [fpv_some] at hk
      exact .inr (by omega)

theorem wpList_push_in {P : Program} {w : World} {ops : Array Oper} {rest : List Oper} {o : Oper} {a : Act} {Q : Exit → Act → World → Prop} (hgd : o.guard = none) (s x : Operand) (t : TypeId) (ho : o.op = .call { callee := .builtin .append, args := #[s, x], argTypes := #[t, t] })
    {e : TypeId} {bytes : Nat} (T : SliceTy P t e 1 bytes) (v : Value) (n : Nat) (xs : List Value) (hs : a.eval s = v) (hown : RowIn w e v n xs)
    (g c : Nat) (u : Value) (hx : a.eval x = .slice (some ⟨g, 0, none⟩) 1 c) (hu : w.cell? ⟨g, 0, none⟩ = some u) (h1 : u.oneCell' = true) (hb : bytes ≤ 64) (hn : n ≤ 1099511627776)
    (h : ∀ v' w', Row w' e 1 v' (n + 1) (xs ++ [u]) → Grew w w' v v' → wpList P ops Q rest (a.put o.dst v') w') : wpList P ops Q (o :: rest) a w := by
  refine wpList_plain hgd fun K hK => ?_
  obtain ⟨v', w', hr, h2, h3⟩ := run_app_in T o.type w v n xs hown g c u hu h1 hb hn
  unfold Oper.wp execOp
  simp only [ho, resolve, invoke, builtin, Sem.run_bind, Sem.run_pure, Result.andThen_ok, List.map_toArray, List.map_cons, List.map_nil, hs, hx, hr]
  exact hK _ _ (h v' w' h2 h3)

theorem Row.alloc {w : World} {e : TypeId} {size n : Nat} {v : Value} {xs : List Value} (h : Row w e size v n xs) (o : Obj) : Row (w.alloc o) e size v n xs := World.ownsRow.alloc h o

theorem RowIn.alloc {w : World} {e : TypeId} {n : Nat} {v : Value} {xs : List Value} (h : RowIn w e v n xs) (o : Obj) : RowIn (w.alloc o) e v n xs := by
  rcases h with h | ⟨hl, g, rfl, hc⟩
  · exact .inl (h.alloc o)
  · refine .inr ⟨hl, g, rfl, fun j u hu => ?_⟩
    have := hc j u hu
    rw [World.cell?_alloc_lt _ _ _ (World.block_lt_of_cell? _ _ this)]
    exact this

theorem RowIn.drew {w : World} {e : TypeId} {n : Nat} {v : Value} {xs : List Value} (h : RowIn w e v n xs) : RowIn w.drew e v n xs := h
theorem Row.drew {w : World} {e : TypeId} {size n : Nat} {v : Value} {xs : List Value} (h : Row w e size v n xs) : Row w.drew e size v n xs := h
theorem Row.drewN {w : World} {e : TypeId} {size n k : Nat} {v : Value} {xs : List Value} (h : Row w e size v n xs) : Row (w.drewN k) e size v n xs := h

theorem Grew.kept {w w' : World} {v v' : Value} (h : Grew w w' v v') : Kept (fun k => k ∈ fpv v) w w' := h.1
theorem Grew.fresh {w w' : World} {v v' : Value} (h : Grew w w' v v') : ∀ k, k ∈ fpv v' → k ∈ fpv v ∨ w.heap.size ≤ k := h.2
theorem Grew.refl (w : World) (v : Value) : Grew w w v v := ⟨Kept.refl _ _, fun _ h => .inl h⟩
theorem Grew.trans {a b c : World} {u v x : Value} (h : Grew a b u v) (k : Grew b c v x) (hlt : ∀ k, k ∈ fpv u → k < a.heap.size) : Grew a c u x := by
  refine ⟨h.1.step' k.1 (fun i hi hlt' => ?_), fun i hi => ?_⟩
  · rcases h.2 i hi with h1 | h1
    · exact h1
    · omega
  · rcases k.2 i hi with h1 | h1
    · exact h.2 i h1
    · exact .inr (Nat.le_trans h.1.size h1)

/-- A slice that lies from B on has grown: what lies below B is as it was. -/
theorem Grew.above {W W' : World} {v v' : Value} {B : Nat} (h : Grew W W' v v') (hv : ∀ k, k ∈ fpv v → B ≤ k) (hB : B ≤ W.heap.size) :
    (∀ k, k ∈ fpv v' → B ≤ k) ∧ (∀ b o, b < B → W.heap[b]? = some o → W'.heap[b]? = some o) ∧ (∀ w : World, Kept no w W → w.heap.size ≤ B → Kept no w W') := by
  refine ⟨fun k hk => ?_, fun b o hb ho => h.1.get ho (fun hh => by have := hv b hh; omega), fun w hk hw => hk.step' h.1 (fun i hi hlt => by have := hv i hi; omega)⟩
  rcases h.2 k hk with h1 | h1
  · exact hv k h1
  · omega

end Go.Proofs.YtdpfohgkikjeaaaGreat
/- The sums' contracts: swap.Sum, swap.MarkOf, and small functions of package swap. -/
namespace Go.Proofs.YtdpfohgkikjeaaaGreat
open Go.RowKit
set_option linter.unusedVariables false
set_option linter.unusedSimpArgs false

theorem take_snoc (s : ByteArray) (k : Nat) (h : k < s.size) : s.data.toList.take (k + 1) = s.data.toList.take k ++ [s[k]] := by
  rw [List.take_succ_eq_append_getElem (by simpa using h)]; rfl

theorem int_of {k : IntKind} {a b : Int} (h : a = b) : Value.int k a = Value.int k b := by rw [h]
theorem ret_int {k : IntKind} {a b : Int} (h : a = b) : Ending.returned (.int k a) = .returned (.int k b) := by rw [h]

theorem xor_byte {v : Nat} (b : UInt8) (hv : v < 4294967296) : bits BinOp.xor IntKind.u32 (v : Int) ((b.toNat : Int) % 4294967296) = ((v ^^^ b.toNat : Nat) : Int) := by
  have hb := b.toNat_lt
  rw [show ((b.toNat : Int) % 4294967296) = (b.toNat : Int) from by omega]
  exact u32_xor_nat _ _ hv (by omega)

theorem low_bit {v : Nat} (hv : v < 4294967296) : bits BinOp.and IntKind.u32 (v : Int) 1 = ((v % 2 : Nat) : Int) := by
  have h := u32_and_nat v 1 hv (by omega)
  rw [Nat.and_one_is_mod] at h
  exact h

theorem bit_odd {v : Nat} (hv : v < 4294967296) (h : (bits BinOp.and IntKind.u32 (v : Int) 1 == 1) = true) : bits BinOp.xor IntKind.u32 ((v : Int) / 2) 2197175160 = ((crcBit v : Nat) : Int) := by
  rw [low_bit hv] at h
  have h1 : v % 2 = 1 := by have := eq_of_beq h; omega
  have hx := u32_xor_nat (v / 2) 2197175160 (by omega) (by omega)
  rw [show ((v : Int) / 2) = ((v / 2 : Nat) : Int) from by omega]
  unfold crcBit
  rw [if_pos h1]
  exact hx

theorem bit_even {v : Nat} (hv : v < 4294967296) (h : (bits BinOp.and IntKind.u32 (v : Int) 1 == 1) = false) : ((v : Int) / 2) = ((crcBit v : Nat) : Int) := by
  rw [low_bit hv] at h
  have h1 : ¬ v % 2 = 1 := by intro e; rw [e] at h; simp at h
  unfold crcBit
  rw [if_neg h1]
  omega

theorem flip_all {v : Nat} (hv : v < 4294967296) : bits BinOp.xor IntKind.u32 IntKind.u32.max (v : Int) = ((4294967295 - v : Nat) : Int) := by
  have h := u32_xor_nat 4294967295 v (by omega) hv
  rw [show IntKind.u32.max = ((4294967295 : Nat) : Int) from by decide]
  rw [h]
  have e : (4294967295 ^^^ v) = 4294967295 - v := by
    have h2 : (BitVec.allOnes 32 ^^^ BitVec.ofNat 32 v).toNat = (~~~ BitVec.ofNat 32 v).toNat := by rw [BitVec.allOnes_xor]
    rw [BitVec.toNat_xor, BitVec.toNat_not, BitVec.toNat_allOnes, BitVec.toNat_ofNat, Nat.mod_eq_of_lt (by omega)] at h2
    exact h2
  rw [e]

set_option maxHeartbeats 400000 in
theorem sum_any (s : ByteArray) (w : World) (hs : s.size ≤ 140737488355328) :
    Calls Tryz.prog 129 #[.string s] w fun e w' => e = .returned (.int .u32 (crc s.data.toList)) ∧ w' = w := by
  go_enter Tryz.func129, Tryz.ntmps129
  go_wp2
  go_loop [3, 4, 7] (fun a b i => ∃ k : Nat, k ≤ s.size ∧ a = .int .u32 (crcFrom 4294967295 (s.data.toList.take k) : Nat) ∧ i = .int .i64 k) (fun _ _ i => s.size - (intOf i).toNat)
  case atStart => exact ⟨0, Nat.zero_le _, rfl, rfl⟩
  case round =>
    obtain ⟨k, hk, rfl, rfl⟩ := hrel
    have hv := crcFrom_lt (s := 4294967295) (s.data.toList.take k) (by omega)
    generalize hV : crcFrom 4294967295 (s.data.toList.take k) = v at hv
    have HV : Hid (crcFrom 4294967295 (s.data.toList.take k) = v) := hV
    clear hV
    by_cases hlt : k < s.size
    · go_wp2
      go_loop [3, 16] (fun a i => ∃ j : Nat, j ≤ 8 ∧ a = .int .u32 (crcBits j (v ^^^ s[k].toNat) : Nat) ∧ i = .int .i64 j) (fun _ i => 8 - (intOf i).toNat)
      case atStart => exact ⟨0, by omega, int_of (xor_byte _ hv), rfl⟩
      case round =>
        obtain ⟨j, hj, rfl, rfl⟩ := hrel
        have hu := crcBits_lt j (xor_lt32 hv (show s[k].toNat < 4294967296 from by have := s[k].toNat_lt; omega))
        generalize hU : crcBits j (v ^^^ s[k].toNat) = u at hu
        have HU : Hid (crcBits j (v ^^^ s[k].toNat) = u) := hU
        clear hU
        by_cases hl8 : j < 8
        · go_wp2
          · rename_i hb
            exact ⟨⟨j + 1, by omega, by rw [show crcBits (j + 1) (v ^^^ s[k].toNat) = crcBit u from by rw [crcBits, HU.out]]; exact int_of (bit_odd hu hb), by go_num⟩, by simp [intOf]; omega⟩
          · rename_i hb
            exact ⟨⟨j + 1, by omega, by rw [show crcBits (j + 1) (v ^^^ s[k].toNat) = crcBit u from by rw [crcBits, HU.out]]; exact int_of (bit_even hu hb), by go_num⟩, by simp [intOf]; omega⟩
        · obtain rfl : j = 8 := by omega
          go_wp2
          refine ⟨⟨k + 1, by omega, ?_, by go_num⟩, by simp [intOf]; omega⟩
          rw [take_snoc s k hlt, crcFrom_snoc, HV.out, crcByte, HU.out]
    · go_wp2
      go_ret
      refine ⟨ret_int ?_, rfl⟩
      rw [flip_all hv, crc]
      have e : s.data.toList.take k = s.data.toList := List.take_of_length_le (by simp; omega)
      rw [e] at HV
      rw [HV.out]
end Go.Proofs.YtdpfohgkikjeaaaGreat
/- package swap: acts of one sector, numbers as bytes. -/
namespace Go.Proofs.YtdpfohgkikjeaaaGreat
open Go.RowKit
set_option linter.unusedVariables false
set_option linter.unusedSimpArgs false

def zeros64 : Array Value := Array.replicate 64 (.int .u8 0)

theorem lit64 : (#[Value.int IntKind.u8 0, Value.int IntKind.u8 0, Value.int IntKind.u8 0, Value.int IntKind.u8 0, Value.int IntKind.u8 0, Value.int IntKind.u8 0, Value.int IntKind.u8 0, Value.int IntKind.u8 0,
  Value.int IntKind.u8 0, Value.int IntKind.u8 0, Value.int IntKind.u8 0, Value.int IntKind.u8 0, Value.int IntKind.u8 0, Value.int IntKind.u8 0, Value.int IntKind.u8 0, Value.int IntKind.u8 0,
  Value.int IntKind.u8 0, Value.int IntKind.u8 0, Value.int IntKind.u8 0, Value.int IntKind.u8 0, Value.int IntKind.u8 0, Value.int IntKind.u8 0, Value.int IntKind.u8 0, Value.int IntKind.u8 0,
  Value.int IntKind.u8 0, Value.int IntKind.u8 0, Value.int IntKind.u8 0, Value.int IntKind.u8 0, Value.int IntKind.u8 0, Value.int IntKind.u8 0, Value.int IntKind.u8 0, Value.int IntKind.u8 0,
  Value.int IntKind.u8 0, Value.int IntKind.u8 0, Value.int IntKind.u8 0, Value.int IntKind.u8 0, Value.int IntKind.u8 0, Value.int IntKind.u8 0, Value.int IntKind.u8 0, Value.int IntKind.u8 0,
  Value.int IntKind.u8 0, Value.int IntKind.u8 0, Value.int IntKind.u8 0, Value.int IntKind.u8 0, Value.int IntKind.u8 0, Value.int IntKind.u8 0, Value.int IntKind.u8 0, Value.int IntKind.u8 0,
  Value.int IntKind.u8 0, Value.int IntKind.u8 0, Value.int IntKind.u8 0, Value.int IntKind.u8 0, Value.int IntKind.u8 0, Value.int IntKind.u8 0, Value.int IntKind.u8 0, Value.int IntKind.u8 0,
  Value.int IntKind.u8 0, Value.int IntKind.u8 0, Value.int IntKind.u8 0, Value.int IntKind.u8 0, Value.int IntKind.u8 0, Value.int IntKind.u8 0, Value.int IntKind.u8 0, Value.int IntKind.u8 0] : Array Value) = zeros64 := by rfl

theorem zeros64_list : zeros64.toList = bcells (zs 64) := by simp [zeros64, bcells, zs]

theorem elem8 : (Tryz.prog.info? 5).map (·.size) = some 1 := by kernel_rfl

theorem pad_cells {l : Str} (h : l.length ≤ 64) : bcells l ++ (bcells (zs 64)).drop l.length = bcells (pad l) := by
  rw [pad, bcells_append, ← bcells_drop, zs_drop]

set_option maxRecDepth 100000 in
set_option maxHeartbeats 400000 in
theorem write_any (at_ : Int) (s : ByteArray) (w : World) (hs : s.size ≤ 64) :
    Calls Tryz.prog 119 #[.int .i64 at_, .string s] w fun e w' => e = .returned (.agg #[.int .i64 1, .int .i64 at_, .string ⟨(pad s.data.toList).toArray⟩]) ∧ Kept no w w' := by
  have hl : s.data.toList.length = s.size := by rw [Array.length_toList]; rfl
  have hpl : (pad s.data.toList).length = 64 := pad_length (by omega)
  go_enter Tryz.func119, Tryz.ntmps119
  go_wp2_with fail
  rw [lit64]
  generalize hW : ((w.alloc (Obj.cells #[Value.int IntKind.i64 0, Value.int IntKind.i64 0, Value.string { data := #[] }] 80)).alloc (Obj.cells zeros64 202)) = W
  have hrow : W.heap[w.heap.size + 1]? = some (.cells zeros64 202 (0, 0)) := by rw [← hW]; have := heap_alloc_same (w := w.alloc (Obj.cells #[Value.int IntKind.i64 0, Value.int IntKind.i64 0, Value.string { data := #[] }] 80)) (o := Obj.cells zeros64 202); simpa using this
  have hres : W.heap[w.heap.size]? = some (.cells #[Value.int IntKind.i64 0, Value.int IntKind.i64 0, Value.string { data := #[] }] 80 (0, 0)) := by rw [← hW, heap_alloc_lt (by simp), heap_alloc_same]
  have hk : Kept no w W := by rw [← hW]; exact ((Kept.refl _ _).alloc _).alloc _
  clear hW
  rw [run_copy_str W 56 9 3 5 _ _ _ _ _ _ _ Tryz.underlying56 elem8 hrow (by omega) (by simp [zeros64]; omega)]
  have hrow2 := heap_setRow_same (cs := (zeros64.toList.take 0 ++ bcells s.data.toList ++ zeros64.toList.drop (0 + s.size)).toArray) hrow
  have hres2 : (W.setRow (w.heap.size + 1) (zeros64.toList.take 0 ++ bcells s.data.toList ++ zeros64.toList.drop (0 + s.size)).toArray).heap[w.heap.size]? = _ := (setRow_other W _ _ _ (by omega)).trans hres
  have hk2 := hk.setRow (g := w.heap.size + 1) (by omega) (zeros64.toList.take 0 ++ bcells s.data.toList ++ zeros64.toList.drop (0 + s.size)).toArray
  generalize W.setRow (w.heap.size + 1) (zeros64.toList.take 0 ++ bcells s.data.toList ++ zeros64.toList.drop (0 + s.size)).toArray = V at *
  rw [zeros64_list] at hrow2
  simp only [List.take_zero, List.nil_append, Nat.zero_add] at hrow2
  rw [← hl, pad_cells (by omega)] at hrow2
  have hb : BytesAt V (w.heap.size + 1) 0 (pad s.data.toList) := BytesAt.of_row hrow2 (fun j v h => by simpa using h)
  have hcv := run_bytes_str (P := Tryz.prog) V 56 9 5 _ _ 64 _ Tryz.underlying56 Tryz.underlying5 Tryz.underlying9 hb
  rw [hpl] at hcv
  have hc := cells_of hres2
  obtain ⟨hc1, hc2⟩ := hc
  clear hrow hrow2 hres hb hk
  have HR := hres2; clear hres2
  go_wp2
  refine bodyPost_ret (v := .agg #[.int .i64 1, .int .i64 at_, .string ⟨(pad s.data.toList).toArray⟩]) (by simp [results, Tryz.results119, go_sem, hc1]) rfl ⟨rfl, ?_⟩
  exact ((hk2.setNew (Nat.le_refl _) _).setNew (Nat.le_refl _) _).setNew (Nat.le_refl _) _

set_option maxHeartbeats 400000 in
theorem markOf_any (s : ByteArray) (w : World) (hs : s.size ≤ 140737488355328) :
    Calls Tryz.prog 98 #[.string s] w fun e w' => e = .returned (.agg #[.int .i64 s.size, .int .u32 (crc s.data.toList)]) ∧ Kept no w w' := by
  go_enter Tryz.func98, Tryz.ntmps98
  go_wp2_with (go_at_call 129; refine (sum_any _ _ hs).mono ?_; rintro e w' ⟨rfl, rfl⟩)
  refine bodyPost_ret (v := .agg #[.int .i64 s.size, .int .u32 (crc s.data.toList)]) (by simp [results, Tryz.results98, go_sem]) rfl ⟨rfl, ?_⟩
  exact (Kept.refl _ _).alloc _

set_option maxHeartbeats 400000 in
theorem settle_any (w : World) :
    Calls Tryz.prog 117 #[] w fun e w' => e = .returned (.agg #[.int .i64 2, .int .i64 0, .string ⟨#[]⟩]) ∧ Kept no w w' := by
  go_enter Tryz.func117, Tryz.ntmps117
  go_wp2
  refine bodyPost_ret (v := .agg #[.int .i64 2, .int .i64 0, .string ⟨#[]⟩]) (by simp [results, Tryz.results117, go_sem]) rfl ⟨rfl, ?_⟩
  exact (Kept.refl _ _).alloc _

set_option maxHeartbeats 400000 in
theorem headAt_any (h : Int) (w : World) (h0 : 0 ≤ h) (h1 : h ≤ 1) :
    Calls Tryz.prog 104 #[.int .i64 h] w fun e w' => e = .returned (.int .i64 (h * 40)) ∧ w' = w := by
  go_enter Tryz.func104, Tryz.ntmps104
  go_wp2
  go_ret
  exact ⟨rfl, rfl⟩

set_option maxHeartbeats 400000 in
theorem bodyAt_any (h : Int) (w : World) (h0 : 0 ≤ h) (h1 : h ≤ 1) :
    Calls Tryz.prog 120 #[.int .i64 h] w fun e w' => e = .returned (.int .i64 (h * 40 + 1)) ∧ w' = w := by
  go_enter Tryz.func120, Tryz.ntmps120
  go_wp2_with (go_at_call 104; refine (headAt_any _ _ h0 h1).mono ?_; rintro e w' ⟨rfl, rfl⟩)
  go_ret
  exact ⟨rfl, rfl⟩

set_option maxHeartbeats 400000 in
theorem blot_any (h : Int) (w : World) (h0 : 0 ≤ h) (h1 : h ≤ 1) :
    Calls Tryz.prog 118 #[.int .i64 h] w fun e w' => e = .returned (.agg #[.int .i64 1, .int .i64 (h * 40), .string ⟨(pad []).toArray⟩]) ∧ Kept no w w' := by
  go_enter Tryz.func118, Tryz.ntmps118
  go_wp2_with fail
  refine (headAt_any _ _ h0 h1).mono ?_
  rintro e w' ⟨rfl, rfl⟩
  go_wp2_with fail
  refine (write_any _ _ _ (by decide)).mono ?_
  rintro e w1 ⟨rfl, hk⟩
  have hr : w1.heap[w.heap.size]? = _ := (hk.block w.heap.size (by simp) (fun h => h)).trans heap_alloc_same
  obtain ⟨hc, hf⟩ := cells_of hr
  go_wp2
  refine bodyPost_ret (v := .agg #[.int .i64 1, .int .i64 (h * 40), .string ⟨(pad []).toArray⟩]) (by simp [results, Tryz.results118, go_sem, hc]) rfl ⟨rfl, ?_⟩
  exact (((((Kept.refl no w).alloc _).step hk).setNew (Nat.le_refl _) _).setNew (Nat.le_refl _) _).setNew (Nat.le_refl _) _

end Go.Proofs.YtdpfohgkikjeaaaGreat
/- A region that draws its order: what only reads (in whatever world of a class) comes first, whatever the order; the rest has one order. -/
namespace Go.Proofs.YtdpfohgkikjeaaaGreat
open Go.RowKit
set_option linter.unusedVariables false
set_option linter.unusedSimpArgs false

section
variable {P : Program} {ops : Array Oper} {Q : Exit → Act → World → Prop} {md : Region.Mode} {C : World → Prop}

/-- In every world of the class the operation yields v, and leaves the world. -/
def Reads (P : Program) (ops : Array Oper) (C : World → Prop) (o : Oper) (v : Value) (a : Act) : Prop :=
  (Region.wanted o (yielded ops a.tmps) = true ∧ ∀ w, C w → (execOp a.eval o).run P w = .ok (.value v) w) ∨
  (Region.wanted o (yielded ops a.tmps) = false ∧ v = undef)

theorem Reads.wpOp {i : Nat} {o : Oper} {v : Value} {a : Act} (hi : ops[i]? = some o) (hy : Reads P ops C o v a)
    {K : Act → World → Prop} {w : World} (hw : C w) (h : K (a.put o.dst v) w) : wpOp P ops Q i K a w := by
  unfold Go.wpOp
  simp only [hi]
  rcases hy with ⟨hwn, hv⟩ | ⟨hwn, rfl⟩
  · simp only [hwn, if_true, Oper.wp, hv w hw, Oper.upon]; exact .inl h
  · simp only [hwn, Bool.false_eq_true, if_false]; exact h

/-- What an operation leaves of the frame: its own slot, and what is put off. -/
theorem wpOp_shape {j : Nat} {oj : Oper} (hj : ops[j]? = some oj) {K : Act → World → Prop} {a : Act} {w : World} (h : wpOp P ops Q j K a w) :
    wpOp P ops Q j (fun a' w' => (∃ ds u, a' = Act.put { a with defers := ds } oj.dst u) ∧ K a' w') a w := by
  unfold wpOp at h ⊢
  simp only [hj] at h ⊢
  by_cases hw : Region.wanted oj (yielded ops a.tmps) = true
  · rw [if_pos hw] at h ⊢
    refine h.imp (fun h => ?_) id
    unfold Oper.wp at h ⊢
    cases hr : (execOp a.eval oj).run P w with
    | halt x w' => rw [hr] at h; cases x <;> exact h
    | ok n w' =>
      rw [hr] at h
      cases n with
      | value u => exact ⟨⟨_, u, rfl⟩, h⟩
      | skip => exact ⟨⟨_, undef, rfl⟩, h⟩
      | defer d => exact ⟨⟨_, undef, rfl⟩, h⟩
      | enter f args => exact Calls.mono h fun e w'' he => by cases e with | returned u => exact ⟨⟨_, u, rfl⟩, he⟩ | panicked c => exact he | outgrown => exact he
      | row r args => exact Rows.mono h fun u w'' he => ⟨⟨_, u, rfl⟩, he⟩
      | _ => exact h
  · rw [if_neg hw] at h ⊢
    exact ⟨⟨_, undef, rfl⟩, h⟩

/-- An operation that is apart from oi reads the same, whether oi's slot is filled or not; and oi does too behind it. -/
theorem reads_put {j : Nat} {oi oj : Oper} {v : Value} (hj : ops[j]? = some oj) (hap : oi.apart ops oj = true)
    (hsi : ∀ cs b, oi.op ≠ .select cs b) (hsj : ∀ cs b, oj.op ≠ .select cs b)
    (hQ : ∀ c a w, Q (.panic c) (a.put oi.dst v) w → Q (.panic c) a w) {K : Act → World → Prop} {a : Act} {w : World}
    (hy : Reads P ops C oi v a) (h : wpOp P ops Q j K (a.put oi.dst v) w) :
    wpOp P ops Q j (fun a' w' => Reads P ops C oi v a' ∧ K (a'.put oi.dst v) w') a w := by
  obtain ⟨h1, h2, h3⟩ := Oper.apart_spec hap
  -- a move of the value itself stands for oi: it reads nothing
  let om : Oper := { dst := oi.dst, op := .move (.const v), type := oi.type, pos := oi.pos, after := oi.after, guard := none }
  have hm : om.apart ops oj = true := by
    unfold Oper.apart at hap ⊢
    simp only [Bool.and_eq_true] at hap ⊢
    exact ⟨hap.1, by cases hd : oj.dst <;> simp [om, Oper.looksAt, Op.operands]⟩
  have hy' : Yields P ops om v a := .inl ⟨by simp [Region.wanted, om], fun w => by simp [om, execOp, Act.eval, Sem.run_pure]⟩
  refine wpOp_mono (fun a' w' hh => ?_) (wpOp_shape hj (wpOp_put hj hm (fun _ _ e => by cases e) hsj hQ hy' h))
  obtain ⟨⟨ds, u, rfl⟩, _, hk⟩ := hh
  refine ⟨?_, hk⟩
  unfold Reads at hy ⊢
  rw [execOp_put oi hsi { a with defers := ds } oj.dst u h3, wanted_put oi { a with defers := ds } oj.dst u h3]
  exact hy

/-- Whatever order is picked; every operation leaves a world of the class. -/
def wpGo (P : Program) (md : Region.Mode) (ops : Array Oper) (C : World → Prop) (Q : Exit → Act → World → Prop) : Nat → Array Bool → Act → World → Prop
  | 0, listed, a, w => Region.ready md ops listed = [] ∧ Q .normal a w
  | fuel + 1, listed, a, w =>
    (Region.ready md ops listed = [] → Q .normal a w) ∧
    ∀ i ∈ Region.ready md ops listed, wpOp P ops Q i (fun a' w' => C w' ∧ wpGo P md ops C Q fuel (listed.setIfInBounds i true) a' w') a w

theorem wpAny_of_go : ∀ (fuel : Nat) (listed : Array Bool) (a : Act) (w : World), wpGo P md ops C Q fuel listed a w → wpAny P md ops Q fuel listed a w
  | 0, _, _, _, h => h
  | fuel + 1, _, _, _, h => ⟨h.1, fun i hi => wpOp_mono (fun a' w' h' => wpAny_of_go fuel _ a' w' h'.2) (h.2 i hi)⟩

/-- Whoever is still to come waits for i, or is apart from it. -/
def Free (md : Region.Mode) (ops : Array Oper) (i : Nat) (oi : Oper) (listed : Array Bool) : Prop :=
  ∀ j oj, ops[j]? = some oj → j ≠ i → listed.getD j true = false → (∀ e ∈ oj.after, Region.binds md e = true → e.on ≠ i) → oi.apart ops oj = true

theorem Free.step {i j : Nat} {oi : Oper} {listed : Array Bool} (h : Free md ops i oi listed) (hj : listed.getD j true = false) : Free md ops i oi (listed.setIfInBounds j true) := by
  intro k ok hk hki hun
  by_cases hjk : j = k
  · subst hjk; exact h j ok hk hki hj
  · rw [getD_set_ne true hjk] at hun; exact h k ok hk hki hun

/-- Whoever may come up beside i is apart from it. -/
theorem Free.beside {i j : Nat} {oi oj : Oper} {listed : Array Bool} (h : Free md ops i oi listed) (hi : i ∈ Region.ready md ops listed) (hj : j ∈ Region.ready md ops listed) (hoj : ops[j]? = some oj) (hne : j ≠ i) : oi.apart ops oj = true := by
  obtain ⟨hun, o, ho, hall⟩ := mem_ready.1 hj
  obtain rfl : o = oj := Option.some.inj (ho.symm.trans hoj)
  have hiun := (mem_ready.1 hi).1
  refine h j o hoj hne hun fun e he hb hei => ?_
  have := hall e he hb
  rw [hei] at this
  by_cases hs : i < listed.size
  · rw [Array.getD_eq_getD_getElem?, Array.getElem?_eq_getElem hs] at this hiun
    simp only [Option.getD_some] at this hiun
    rw [this] at hiun; cases hiun
  · rw [Array.getD_eq_getD_getElem?, Array.getElem?_eq_none (by omega)] at this
    cases this

theorem wpGo_first {i : Nat} {oi : Oper} {v : Value} (hi : ops[i]? = some oi) (hsel : ∀ (j : Nat) (o : Oper) cs b, ops[j]? = some o → o.op ≠ .select cs b)
    (hQ : ∀ c a w, Q (.panic c) (a.put oi.dst v) w → Q (.panic c) a w) :
    ∀ (fuel : Nat) (listed : Array Bool) (a : Act) (w : World), C w → Free md ops i oi listed → i ∈ Region.ready md ops listed → Reads P ops C oi v a →
      wpGo P md ops C Q fuel (listed.setIfInBounds i true) (a.put oi.dst v) w → wpGo P md ops C Q (fuel + 1) listed a w
  | 0, listed, a, w, hC, _, hr, hy, H => by
    refine ⟨fun h0 => (by rw [h0] at hr; cases hr), fun j hj => ?_⟩
    rcases Nat.decEq j i with hne | rfl
    · exact absurd (ready_mono hj hne) (by rw [H.1]; exact List.not_mem_nil)
    · exact hy.wpOp hi hC ⟨hC, H⟩
  | n + 1, listed, a, w, hC, hf, hr, hy, H => by
    refine ⟨fun h0 => (by rw [h0] at hr; cases hr), fun j hj => ?_⟩
    rcases Nat.decEq j i with hne | rfl
    · obtain ⟨hjun, oj, hoj, _⟩ := mem_ready.1 hj
      have hput := reads_put hoj (hf.beside hr hj hoj hne) (fun cs b => hsel i oi cs b hi) (fun cs b => hsel j oj cs b hoj) hQ hy (H.2 j (ready_mono hj hne))
      refine wpOp_mono (fun a' w' hh => ⟨hh.2.1, ?_⟩) hput
      refine wpGo_first hi hsel hQ n _ a' w' hh.2.1 (hf.step hjun) (ready_mono hr (Ne.symm hne)) hh.1 ?_
      rw [Array.setIfInBounds_comm _ _ hne]
      exact hh.2.2
    · exact hy.wpOp hi hC ⟨hC, H⟩

/-- What only reads, one by one. -/
def wpPre (P : Program) (ops : Array Oper) (C : World → Prop) (R : Act → Prop) : List Nat → Act → Prop
  | [], a => R a
  | i :: l, a => ∃ o v, ops[i]? = some o ∧ Reads P ops C o v a ∧ wpPre P ops C R l (a.put o.dst v)

/-- The rest, in its one order; each leaves a world of the class. -/
def wpTail (P : Program) (ops : Array Oper) (C : World → Prop) (Q : Exit → Act → World → Prop) : List Nat → Act → World → Prop
  | [], a, w => Q .normal a w
  | i :: l, a, w => wpOp P ops Q i (fun a' w' => C w' ∧ wpTail P ops C Q l a' w') a w

def tailB (md : Region.Mode) (ops : Array Oper) : List Nat → Array Bool → Bool
  | [], listed => (Region.ready md ops listed).isEmpty
  | i :: l, listed => (Region.ready md ops listed == [i]) && tailB md ops l (listed.setIfInBounds i true)

def preB (md : Region.Mode) (ops : Array Oper) (t : List Nat) : List Nat → Array Bool → Bool
  | [], listed => tailB md ops t listed
  | i :: l, listed => (Region.ready md ops listed).contains i && Region.free md ops listed i && preB md ops t l (listed.setIfInBounds i true)

def drawB (ops : Array Oper) (p t : List Nat) : Bool := Region.noSelect ops && (p.length + t.length == ops.size) && preB .any ops t p (Array.replicate ops.size false)

theorem wpGo_tail : ∀ (t : List Nat) (listed : Array Bool) (a : Act) (w : World), tailB md ops t listed = true → wpTail P ops C Q t a w → wpGo P md ops C Q t.length listed a w
  | [], _, _, _, hB, h => ⟨by simpa [tailB] using hB, h⟩
  | i :: t, listed, a, w, hB, h => by
    simp only [tailB, Bool.and_eq_true, beq_iff_eq] at hB
    refine ⟨fun h0 => (by rw [hB.1] at h0; cases h0), fun j hj => ?_⟩
    rw [hB.1] at hj
    simp only [List.mem_cons, List.not_mem_nil, or_false] at hj
    subst hj
    exact wpOp_mono (fun a' w' h' => ⟨h'.1, wpGo_tail t _ a' w' hB.2 h'.2⟩) h

theorem wpGo_pre (hs : Region.noSelect ops = true) (hQ : ∀ c a d v w, Q (.panic c) (Act.put a d v) w → Q (.panic c) a w) (t : List Nat) : ∀ (p : List Nat) (listed : Array Bool) (a : Act) (w : World), C w →
    preB md ops t p listed = true → wpPre P ops C (fun a' => wpTail P ops C Q t a' w) p a → wpGo P md ops C Q (p.length + t.length) listed a w
  | [], listed, a, w, hC, hB, h => by
    simp only [List.length_nil, Nat.zero_add]
    exact wpGo_tail t listed a w hB h
  | i :: p, listed, a, w, hC, hB, h => by
    simp only [preB, Bool.and_eq_true] at hB
    obtain ⟨⟨hr, hf⟩, hB'⟩ := hB
    obtain ⟨o, v, ho, hy, hK⟩ := h
    have e : (i :: p).length + t.length = (p.length + t.length) + 1 := by simp; omega
    rw [e]
    exact wpGo_first ho (Region.noSelect_spec hs) (fun c a w => hQ c a _ _ w) _ listed a w hC (Region.free_spec ho hf) (by simpa using hr) hy
      (wpGo_pre hs hQ t p _ _ w hC hB' hK)

theorem wp_region_loud {id : Nat} {a : Act} {w : World} (C : World → Prop) (p t : List Nat) (hm : P.follows .mixedOrders = true) (hB : drawB ops p t = true)
    (hQ : ∀ c a d v w, Q (.panic c) (Act.put a d v) w → Q (.panic c) a w) (hC : C w.drew)
    (h : wpPre P ops C (fun a' => wpTail P ops C Q t a' w.drew) p a) : (Code.region id ops true).wp P Q a w := by
  simp only [drawB, Bool.and_eq_true, beq_iff_eq] at hB
  obtain ⟨⟨hs, hl⟩, hB⟩ := hB
  refine wp_region_any hm (wpAny_of_go (C := C) _ _ _ _ ?_)
  have hg := wpGo_pre hs hQ t p _ a w.drew hC hB h
  rw [hl] at hg
  exact hg

theorem wpPre_nil {R : Act → Prop} {a : Act} (h : R a) : wpPre P ops C R [] a := h
theorem wpPre_cons {R : Act → Prop} {a : Act} {i : Nat} {l : List Nat} {o : Oper} {v : Value} (ho : ops.toList[i]? = some o) (hg : o.guard = none)
    (hr : ∀ w, C w → (execOp a.eval o).run P w = .ok (.value v) w) (h : wpPre P ops C R l (a.put o.dst v)) : wpPre P ops C R (i :: l) a :=
  ⟨o, v, by simpa using ho, .inl ⟨by simp [Region.wanted, hg], hr⟩, h⟩
theorem wpTail_nil {a : Act} {w : World} (h : Q .normal a w) : wpTail P ops C Q [] a w := h
theorem wpTail_cons {a : Act} {w : World} {i : Nat} {l : List Nat} {o : Oper} (ho : ops.toList[i]? = some o) (hg : o.guard = none)
    (h : ∀ K : Act → World → Prop, (∀ a w, C w ∧ wpTail P ops C Q l a w → K a w) → o.wp P a w K Q) : wpTail P ops C Q (i :: l) a w := by
  have ho' : ops[i]? = some o := by simpa using ho
  unfold wpTail wpOp
  simp only [ho']
  rw [if_pos (by simp [Region.wanted, hg])]
  exact .inl (h _ (fun _ _ h => h))
/-- A tail operation that yields a value and leaves the world. -/
theorem wpTail_read {a : Act} {w : World} {i : Nat} {l : List Nat} {o : Oper} {v : Value} (ho : ops.toList[i]? = some o) (hg : o.guard = none) (hC : C w)
    (hr : (execOp a.eval o).run P w = .ok (.value v) w) (h : wpTail P ops C Q l (a.put o.dst v) w) : wpTail P ops C Q (i :: l) a w := by
  refine wpTail_cons ho hg fun K hK => ?_
  unfold Oper.wp
  rw [hr]
  exact hK _ _ ⟨hC, h⟩
end
end Go.Proofs.YtdpfohgkikjeaaaGreat
