/- Part 13 of the proof: see its parts. -/
import Derived.Deep.DeepCutAuto
import Derived.Test.YtdpfohgkikjeaaaGreatU12
/- mend. -/
namespace Go.Proofs.YtdpfohgkikjeaaaGreat
open Go.RowKit
set_option linter.unusedVariables false
set_option linter.unusedSimpArgs false

/-- The cell of a kid. -/
theorem KidsAt.mid {w : World} {v : Value} {A B : List Kid} {c : Kid} (h : KidsAt w v (A ++ c :: B)) : ∃ g c', v = .slice (some ⟨g, 0, none⟩) (A ++ c :: B).length c' ∧ w.cell? ⟨g, A.length, none⟩ = some c.ptr := by
  obtain ⟨g, c', hv, h1, _⟩ := h.at (i := A.length) (by simp)
  refine ⟨g, c', hv, ?_⟩
  simpa using h1

/-- What mend leaves, and what it is in the midst of it: a branch with other kids of the same items. -/
structure Mid (w w' : World) (h : Nat) (rest : List Value) (T : TypeId) (b : Nat) (v cnt : Value) (ks : List Kid) (v' : Value) (ks' : List Kid) : Prop where
  brn : Brn w' h rest T b v' cnt ks'
  items : itemsOf ks' = itemsOf ks
  sub : ∀ x ∈ fpv v' ++ blocksOf ks', x ∈ fpv v ++ blocksOf ks ∨ w.heap.size ≤ x
  kept : Kept (fun x => x = b ∨ x ∈ fpv v ++ blocksOf ks) w w'

theorem Mid.refl {w h rest T b v cnt ks} (hB : Brn w h rest T b v cnt ks) : Mid w w h rest T b v cnt ks v ks := ⟨hB, rfl, fun x hx => .inl hx, Kept.refl _ _⟩

theorem Mid.trans {w w1 w2 h rest T b v cnt ks v1 ks1 v2 ks2} (a : Mid w w1 h rest T b v cnt ks v1 ks1) (c : Mid w1 w2 h rest T b v1 cnt ks1 v2 ks2) : Mid w w2 h rest T b v cnt ks v2 ks2 :=
  ⟨c.brn, c.items.trans a.items, fun x hx => (c.sub x hx).elim (fun h => a.sub x h) (fun h => .inr (Nat.le_trans a.kept.size h)), a.kept.step' c.kept (fun x hx hlt => by
    rcases hx with rfl | hx
    · exact .inl rfl
    · rcases a.sub x hx with h | h
      · exact .inr h
      · omega)⟩

theorem Fam.drewN {w h ks} (f : Fam w h ks) (j : Nat) : Fam (w.drewN j) h ks := by
  refine ⟨fun c hc => ?_, f.nodup⟩
  exact NodeR.kept (S := fun _ => False) ((Kept.refl _ w).drewN j) h (f.each c hc) (fun _ _ h => h)
theorem Brn.drewN {w h rest T b v cnt ks} (a : Brn w h rest T b v cnt ks) (j : Nat) : Brn (w.drewN j) h rest T b v cnt ks := ⟨a.cells, a.row.drewN, a.fam.drewN j, a.nodup⟩
theorem Mid.drewN {w w' h rest T b v cnt ks v' ks'} (a : Mid w w' h rest T b v cnt ks v' ks') (j : Nat) : Mid w (w'.drewN j) h rest T b v cnt ks v' ks' := ⟨a.brn.drewN j, a.items, a.sub, a.kept.drewN j⟩

/-- A store into a branch's own slot for its kids. -/
theorem Brn.store {w w' : World} {h : Nat} {rest : List Value} {T : TypeId} {b : Nat} {v v' cnt : Value} {ks : List Kid} (hb : w.heap[b]? = some (.cells (nilS :: v :: cnt :: rest).toArray T (0, 0))) (hr : Row w 141 1 v' ks.length (ks.map Kid.ptr)) (hf : Fam w h ks) (hnd : (b :: (fpv v' ++ blocksOf ks)).Nodup) (hw : w' = w.setCell ⟨b, 1, none⟩ v') : Brn w' h rest T b v' cnt ks := by
  subst hw
  have h1 := hnd
  simp only [List.nodup_cons, List.mem_append, not_or] at h1
  refine ⟨by rw [heap_set_same hb]; simp, hr.kept Kept.cell1 (fun x hx e => h1.1.1 (e ▸ hx)), ⟨fun c hc => NodeR.kept Kept.cell1 h (hf.each c hc) (fun x hx e => h1.1.2 (e ▸ mem_blocksOf.2 ⟨c, hc, hx⟩)), hf.nodup⟩, hnd⟩

theorem Fam.kept {S : Blocks} {w w' : World} {h : Nat} {ks : List Kid} (f : Fam w h ks) (hk : Kept S w w') (hn : ∀ x ∈ blocksOf ks, ¬ S x) : Fam w' h ks :=
  ⟨fun c hc => NodeR.kept hk h (f.each c hc) (fun x hx => hn x (mem_blocksOf.2 ⟨c, hc, hx⟩)), f.nodup⟩

/-- Two kids have become one: the list of kids has one less. -/
theorem mid_join {w w1 w2 w3 : World} {h : Nat} {rest : List Value} {T : TypeId} {b : Nat} {v v' cnt : Value} {A B : List Kid} {x y x' : Kid} (hB : Brn w h rest T b v cnt (A ++ [x, y] ++ B))
    (hx : NodeR w1 h [] nodeT x') (hxb : x'.b = x.b) (hxl : x'.ls = x.ls ++ y.ls) (hxf : ∀ z ∈ x'.fp, z ∈ x.fp ∨ z ∈ y.fp ∨ w.heap.size ≤ z) (hk1 : Kept (fun z => z ∈ x.fp) w w1)
    (hr : Row w2 141 1 v' (A ++ [x'] ++ B).length ((A ++ [x'] ++ B).map Kid.ptr)) (hk2 : Kept (fun z => z ∈ fpv v) w1 w2) (hv' : ∀ z ∈ fpv v', z ∈ fpv v ∨ w1.heap.size ≤ z) (hw : w3 = w2.setCell ⟨b, 1, none⟩ v') :
    Mid w w3 h rest T b v cnt (A ++ [x, y] ++ B) v' (A ++ [x'] ++ B) := by
  obtain ⟨hbv, hbk, hvk⟩ := hB.apart
  have hlt := hB.lt
  have exy : blocksOf [x, y] = x.fp ++ y.fp := by simp [blocksOf]
  have inM : ∀ z, z ∈ x.fp ∨ z ∈ y.fp → z ∈ blocksOf (A ++ [x, y] ++ B) := fun z hz => by simp only [blocksOf_append, exy, List.mem_append]; exact .inl (.inr hz)
  obtain ⟨f1, hs1⟩ := hB.fam.splice (M' := [x']) hk1 (fun z hz _ => by rw [exy]; simp [hz]) ⟨fun c hc => by simp at hc; subst hc; exact hx, by rw [blocksOf_one]; exact hx.nodup⟩ (fun z hz => by
    rw [blocksOf_one] at hz; rw [exy, List.mem_append]
    rcases hxf z hz with h1 | h1 | h1
    · exact .inl (.inl h1)
    · exact .inl (.inr h1)
    · exact .inr h1)
  have hb1 : w1.heap[b]? = some (.cells (nilS :: v :: cnt :: rest).toArray T (0, 0)) := hk1.get hB.cells (fun hh => hbk (inM _ (.inl hh)))
  have hb2 := hk2.get hb1 hbv
  have ltv : ∀ z ∈ fpv v, z < w.heap.size := fun z hz => hlt z (by simp [hz])
  have f2 : Fam w2 h (A ++ [x'] ++ B) := f1.kept hk2 (fun z hz hh => by
    rcases hs1 z hz with h1 | h1
    · exact hvk z hh h1
    · have := ltv z hh; omega)
  have sz1 := hk1.size
  have hnd : (b :: (fpv v' ++ blocksOf (A ++ [x'] ++ B))).Nodup := by
    refine List.nodup_cons.2 ⟨fun hh => ?_, List.nodup_append.2 ⟨fpv_nodup _, f1.nodup, fun z hz z' hz' e => ?_⟩⟩
    · have hbl := hlt b (by simp)
      rcases List.mem_append.1 hh with hh | hh
      · rcases hv' b hh with h1 | h1
        · exact hbv h1
        · omega
      · rcases hs1 b hh with h1 | h1
        · exact hbk h1
        · omega
    · subst e
      rcases hv' z hz with h1 | h1
      · rcases hs1 z hz' with h2 | h2
        · exact hvk z h1 h2
        · have := ltv z h1; omega
      · have := f1.lt z hz'; omega
  have hB3 := Brn.store hb2 hr f2 hnd hw
  refine ⟨hB3, ?_, fun z hz => ?_, ?_⟩
  · simp [itemsOf, hxl]
  · rcases List.mem_append.1 hz with hz | hz
    · rcases hv' z hz with h1 | h1
      · exact .inl (by simp [h1])
      · exact .inr (by omega)
    · exact (hs1 z hz).imp (fun h => by rw [List.mem_append]; exact .inr h) id
  · subst hw
    refine ((hk1.mono (T := fun z => z = b ∨ z ∈ fpv v ++ blocksOf (A ++ [x, y] ++ B)) (fun z hz _ => .inr ?_)).step' hk2 (fun z hz _ => .inr ?_)).setCell (p := ⟨b, 1, none⟩) (fun _ => .inl rfl) _
    · rw [List.mem_append]; exact .inr (inM z (.inl hz))
    · simp [hz]

/-- A kid has become two. -/
theorem mid_split {w w1 w2 w3 : World} {h : Nat} {rest : List Value} {T : TypeId} {b : Nat} {v v' cnt : Value} {A B : List Kid} {x x1 x2 : Kid} (hB : Brn w h rest T b v cnt (A ++ [x] ++ B))
    (hx1 : NodeR w1 h [] nodeT x1) (hx2 : NodeR w1 h [] nodeT x2) (hxl : x.ls = x1.ls ++ x2.ls) (hxn : (x1.fp ++ x2.fp).Nodup) (hxf : ∀ z ∈ x1.fp ++ x2.fp, z ∈ x.fp ∨ w.heap.size ≤ z) (hk1 : Kept (fun z => z ∈ x.fp) w w1)
    (hr : Row w2 141 1 v' (A ++ [x1, x2] ++ B).length ((A ++ [x1, x2] ++ B).map Kid.ptr)) (hk2 : Kept (fun z => z ∈ fpv v) w1 w2) (hv' : ∀ z ∈ fpv v', z ∈ fpv v ∨ w1.heap.size ≤ z) (hw : w3 = w2.setCell ⟨b, 1, none⟩ v') :
    Mid w w3 h rest T b v cnt (A ++ [x] ++ B) v' (A ++ [x1, x2] ++ B) := by
  obtain ⟨hbv, hbk, hvk⟩ := hB.apart
  have hlt := hB.lt
  have exy : blocksOf [x1, x2] = x1.fp ++ x2.fp := by simp [blocksOf]
  have inM : ∀ z, z ∈ x.fp → z ∈ blocksOf (A ++ [x] ++ B) := fun z hz => by simp only [blocksOf_append, blocksOf_one, List.mem_append]; exact .inl (.inr hz)
  obtain ⟨f1, hs1⟩ := hB.fam.splice (M' := [x1, x2]) hk1 (fun z hz _ => by rw [blocksOf_one]; exact hz) ⟨fun c hc => by simp at hc; rcases hc with rfl | rfl <;> assumption, by rw [exy]; exact hxn⟩ (fun z hz => by
    rw [exy] at hz; rw [blocksOf_one]; exact hxf z hz)
  have hb1 : w1.heap[b]? = some (.cells (nilS :: v :: cnt :: rest).toArray T (0, 0)) := hk1.get hB.cells (fun hh => hbk (inM _ hh))
  have hb2 := hk2.get hb1 hbv
  have ltv : ∀ z ∈ fpv v, z < w.heap.size := fun z hz => hlt z (by simp [hz])
  have f2 : Fam w2 h (A ++ [x1, x2] ++ B) := f1.kept hk2 (fun z hz hh => by
    rcases hs1 z hz with h1 | h1
    · exact hvk z hh h1
    · have := ltv z hh; omega)
  have sz1 := hk1.size
  have hnd : (b :: (fpv v' ++ blocksOf (A ++ [x1, x2] ++ B))).Nodup := by
    refine List.nodup_cons.2 ⟨fun hh => ?_, List.nodup_append.2 ⟨fpv_nodup _, f1.nodup, fun z hz z' hz' e => ?_⟩⟩
    · have hbl := hlt b (by simp)
      rcases List.mem_append.1 hh with hh | hh
      · rcases hv' b hh with h1 | h1
        · exact hbv h1
        · omega
      · rcases hs1 b hh with h1 | h1
        · exact hbk h1
        · omega
    · subst e
      rcases hv' z hz with h1 | h1
      · rcases hs1 z hz' with h2 | h2
        · exact hvk z h1 h2
        · have := ltv z h1; omega
      · have := f1.lt z hz'; omega
  have hB3 := Brn.store hb2 hr f2 hnd hw
  refine ⟨hB3, ?_, fun z hz => ?_, ?_⟩
  · simp [itemsOf, hxl]
  · rcases List.mem_append.1 hz with hz | hz
    · rcases hv' z hz with h1 | h1
      · exact .inl (by simp [h1])
      · exact .inr (by omega)
    · exact (hs1 z hz).imp (fun h => by rw [List.mem_append]; exact .inr h) id
  · subst hw
    refine ((hk1.mono (T := fun z => z = b ∨ z ∈ fpv v ++ blocksOf (A ++ [x] ++ B)) (fun z hz _ => .inr ?_)).step' hk2 (fun z hz _ => .inr ?_)).setCell (p := ⟨b, 1, none⟩) (fun _ => .inl rfl) _
    · rw [List.mem_append]; exact .inr (inM z hz)
    · simp [hz]

end Go.Proofs.YtdpfohgkikjeaaaGreat
/- mend: the walk. -/
namespace Go.Proofs.YtdpfohgkikjeaaaGreat
open Go.RowKit
set_option linter.unusedVariables false
set_option linter.unusedSimpArgs false

abbrev NOk (c : Kid) : Prop := 4 ≤ c.n ∧ c.n ≤ 8

theorem lss_low {N : Nat} (h : N ≤ 17) : (FloatKind.f64.format.order (fillBits N) 4602678819172646912 == some .lt) = decide (N < 4) := (fill_facts N h).2.1
theorem gtr_full {N : Nat} (h : N ≤ 17) : (FloatKind.f64.format.order (fillBits N) 4607182418800017408 == some .gt) = decide (8 < N) := (fill_facts N h).2.2

/-- Of the kid that is too empty and its neighbour. -/
theorem pair_of {A B : List Kid} {c : Kid} (hok : ∀ x ∈ A ++ B, NOk x) (h2 : 2 ≤ (A ++ [c] ++ B).length) (hc : c.n = 3) : ∃ A' x y B', A ++ [c] ++ B = A' ++ [x, y] ++ B' ∧ (∀ z ∈ A' ++ B', NOk z) ∧ 7 ≤ x.n + y.n ∧ x.n + y.n ≤ 11 ∧ 0 < x.n ∧
    ((A'.length = A.length ∧ A.length + 2 ≤ (A ++ [c] ++ B).length) ∨ (A'.length + 1 = A.length ∧ A.length + 1 = (A ++ [c] ++ B).length)) := by
  cases B with
  | cons y B' =>
    have := hok y (by simp)
    refine ⟨A, c, y, B', by simp, fun z hz => hok z ?_, by omega, by omega, by omega, .inl ⟨rfl, by simp⟩⟩
    simp only [List.mem_append, List.mem_cons] at hz ⊢
    rcases hz with hz | hz
    · exact .inl hz
    · exact .inr (.inr hz)
  | nil =>
    obtain ⟨A', x, rfl⟩ : ∃ A' x, A = A' ++ [x] := by
      rcases List.eq_nil_or_concat A with rfl | ⟨A', x, rfl⟩
      · simp at h2
      · exact ⟨A', x, List.concat_eq_append⟩
    have := hok x (by simp)
    exact ⟨A', x, c, [], by simp, fun z hz => hok z (by simp only [List.append_nil] at hz ⊢; simp [hz]), by omega, by omega, by omega, .inr ⟨by simp, by simp⟩⟩

theorem ptrs_join (A B : List Kid) (x y x' : Kid) (e : x'.ptr = x.ptr) : ((A ++ [x, y] ++ B).map Kid.ptr).take (A.length + 1) ++ ((A ++ [x, y] ++ B).map Kid.ptr).drop (A.length + 2) = (A ++ [x'] ++ B).map Kid.ptr := by
  have e1 : (A ++ [x, y] ++ B).map Kid.ptr = (A.map Kid.ptr ++ [x.ptr]) ++ (y.ptr :: B.map Kid.ptr) := by simp
  have e2 : (A ++ [x, y] ++ B).map Kid.ptr = (A.map Kid.ptr ++ [x.ptr, y.ptr]) ++ B.map Kid.ptr := by simp
  have h1 : ((A ++ [x, y] ++ B).map Kid.ptr).take (A.length + 1) = A.map Kid.ptr ++ [x.ptr] := by rw [e1]; exact List.take_left' (by simp)
  have h2 : ((A ++ [x, y] ++ B).map Kid.ptr).drop (A.length + 2) = B.map Kid.ptr := by rw [e2]; exact List.drop_left' (by simp)
  rw [h1, h2]
  simp [e]

theorem ptrs_split (A B : List Kid) (x x1 x2 : Kid) (e : x1.ptr = x.ptr) : ((A ++ [x] ++ B).map Kid.ptr).take (A.length + 1) ++ x2.ptr :: ((A ++ [x] ++ B).map Kid.ptr).drop (A.length + 1) = (A ++ [x1, x2] ++ B).map Kid.ptr := by
  have e1 : (A ++ [x] ++ B).map Kid.ptr = (A.map Kid.ptr ++ [x.ptr]) ++ B.map Kid.ptr := by simp
  have h1 : ((A ++ [x] ++ B).map Kid.ptr).take (A.length + 1) = A.map Kid.ptr ++ [x.ptr] := by rw [e1]; exact List.take_left' (by simp)
  have h2 : ((A ++ [x] ++ B).map Kid.ptr).drop (A.length + 1) = B.map Kid.ptr := by rw [e1]; exact List.drop_left' (by simp)
  rw [h1, h2]
  simp [e]

set_option maxHeartbeats 2000000 in
set_option maxRecDepth 100000 in
theorem mend_any {w : World} {h : Nat} {rest : List Value} {T : TypeId} {b : Nat} {v cnt : Value} {A B : List Kid} {c : Kid} (hB : Brn w h rest T b v cnt (A ++ [c] ++ B)) (hok : ∀ x ∈ A ++ B, NOk x) (hc3 : 3 ≤ c.n) (hc9 : c.n ≤ 9) (h2 : 2 ≤ (A ++ [c] ++ B).length) (h9 : (A ++ [c] ++ B).length ≤ 100) (hl : (itemsOf (A ++ [c] ++ B)).length ≤ 1000000) (iI : Int) (hiI : iI = (A.length : Int)) :
    Calls Tryz.prog 110 #[.pointer (some ⟨b, 0, none⟩), .int .i64 iI] w fun e w' => e = .returned (.tuple #[]) ∧ ∃ v' ks', Mid w w' h rest T b v cnt (A ++ [c] ++ B) v' ks' ∧ (∀ x ∈ ks', NOk x) ∧ (A ++ [c] ++ B).length ≤ ks'.length + 1 ∧ ks'.length ≤ (A ++ [c] ++ B).length + 1 ∧ (4 ≤ c.n → (A ++ [c] ++ B).length ≤ ks'.length) ∧ (c.n ≤ 8 → ks'.length ≤ (A ++ [c] ++ B).length) := by
  subst hiI
  have hK0 : KidsAt w v (A ++ c :: B) := by simpa using hB.kidsAt
  obtain ⟨g, cv, hv, hcell⟩ := hK0.mid
  have hlen : (A ++ c :: B).length = (A ++ [c] ++ B).length := by simp
  rw [hlen] at hv
  clear hK0 hlen
  generalize hN : (A ++ [c] ++ B).length = N at hv h2 h9 ⊢
  have HN : Hid ((A ++ [c] ++ B).length = N) := hN
  clear hN
  subst hv
  have hAN : A.length < N := by rw [← HN.out]; simp
  obtain ⟨hcb, hfb⟩ := cells_of hB.cells
  simp only [Kid.ptr] at hcell
  have hfill := (hB.fam.each c (by simp)).fill (by omega)
  go_enter Tryz.func110, Tryz.ntmps110
  go_upto_if 12 with (go_at_call 113; refine hfill.mono ?_; rintro e w1 ⟨rfl, j, rfl⟩)
  have hlss := lss_low (N := c.n) (by omega)
  go_cut [1] (fun s1 wx => ∃ A' c' B' v', s1 = .int .i64 (A'.length : Int) ∧ Mid w wx h rest T b (.slice (some ⟨g, 0, none⟩) N cv) cnt (A ++ [c] ++ B) v' (A' ++ [c'] ++ B') ∧ (∀ x ∈ A' ++ B', NOk x) ∧ 4 ≤ c'.n ∧ c'.n ≤ 11 ∧ N ≤ (A' ++ [c'] ++ B').length + 1 ∧ (A' ++ [c'] ++ B').length ≤ N ∧ (4 ≤ c.n → N ≤ (A' ++ [c'] ++ B').length) ∧ (c.n ≤ 8 → 8 < c'.n → (A' ++ [c'] ++ B').length + 1 ≤ N))
  case first =>
    by_cases hlow : c.n < 4
    · rw [decide_eq_true hlow] at hlss
      obtain ⟨A', x, y, B', hE, hok', hn1, hn2, hx0, hat⟩ := pair_of hok (by rw [HN.out]; exact h2) (by omega)
      rw [HN.out] at hat
      rw [hE] at hB hl
      have HN' : Hid ((A' ++ [x, y] ++ B').length = N) := by rw [← hE]; exact HN
      have HE : Hid (A ++ [c] ++ B = A' ++ [x, y] ++ B') := hE
      clear hE HN hok
      have hmin : Hid (min (A.length : Int) ((N : Int) - 2) = (A'.length : Int)) := by show min (A.length : Int) ((N : Int) - 2) = (A'.length : Int); omega
      rw [hlss]
      go_wp2
      rw [hmin.out]
      have hx := hB.fam.each x (by simp)
      have hy := hB.fam.each y (by simp)
      have hK1 : KidsAt w (.slice (some ⟨g, 0, none⟩) N cv) (A' ++ x :: ([y] ++ B')) := by simpa using hB.kidsAt
      have hK2 : KidsAt w (.slice (some ⟨g, 0, none⟩) N cv) ((A' ++ [x]) ++ y :: B') := by simpa using hB.kidsAt
      obtain ⟨g1, cv1, he1, hcx⟩ := hK1.mid
      obtain ⟨g2, cv2, he2, hcy⟩ := hK2.mid
      simp only [Value.slice.injEq, Option.some.injEq, Addr.mk.injEq, and_true, true_and] at he1 he2
      obtain rfl := he1.1
      obtain rfl := he2.1
      clear he1 he2 hK1 hK2
      have hcy' : w.cell? ⟨g, A'.length + 1, none⟩ = some y.ptr := by simpa using hcy
      have hA1 : A'.length + 1 < N := by rw [← HN'.out]; simp
      have hA0 : A'.length < N := by omega
      have hi0 : (0 : Int) ≤ (A'.length : Int) + 1 := by omega
      have hi1 : (A'.length : Int) + 1 < (N : Int) := by omega
      have hw1 : IntKind.i64.wrap ((A'.length : Int) + 1) = (A'.length : Int) + 1 := by rw [IntKind.wrap_i64]; omega
      refine wp_region_loud (fun W => W.heap[b]? = some (.cells (nilS :: .slice (some ⟨g, 0, none⟩) N cv :: cnt :: rest).toArray T (0, 0)) ∧ W.cell? ⟨g, A'.length, none⟩ = some x.ptr ∧ W.cell? ⟨g, A'.length + 1, none⟩ = some y.ptr) [0, 1, 2, 3, 4, 5, 6, 7, 8, 9, 10, 11, 12, 13, 14] [15] (by kernel_rfl) (by kernel_rfl) (fun _ _ d _ _ h => by cases d <;> exact h) ⟨hB.cells, hcx, hcy'⟩ ?_
      repeat (refine wpPre_cons rfl rfl (fun W hW => (by obtain ⟨hW1, hW2, hW3⟩ := hW; obtain ⟨hc, _⟩ := cells_of hW1; go_simp; rfl)) ?_; simp only [Act.put, List.setIfInBounds_toArray, List.set])
      refine wpPre_nil ?_
      refine wpTail_cons rfl rfl (fun K hK => ?_)
      have hfm : Fam w h [x, y] := ⟨fun z hz => by simp at hz; rcases hz with rfl | rfl <;> assumption, by
        have := hB.fam.nodup
        simp only [blocksOf_append, List.nodup_append] at this
        exact this.1.2.1⟩
      have hxyl : x.ls.length + y.ls.length ≤ 1000000 := by
        have e : itemsOf (A' ++ [x, y] ++ B') = itemsOf A' ++ (x.ls ++ y.ls) ++ itemsOf B' := by simp [itemsOf]
        rw [e] at hl
        simp only [List.length_append] at hl
        omega
      go_wp2_with fail
      refine (join_node (hfm.drewN (j + 1)) (by omega) hxyl hx0).mono ?_
      rintro e w1 ⟨rfl, x', hx', hxb, hxn, hxl, hxf, hk1'⟩
      have hk1 : Kept (fun z => z ∈ x.fp) w w1 := hk1'.of_drewN
      have hxf' : ∀ z ∈ x'.fp, z ∈ x.fp ∨ z ∈ y.fp ∨ w.heap.size ≤ z := hxf
      obtain ⟨hap1, hap2, hap3⟩ := hB.apart
      have inx : ∀ z ∈ x.fp, z ∈ blocksOf (A' ++ [x, y] ++ B') := fun z hz => by simp [blocksOf, hz]
      have hb1 := hk1.get hB.cells (fun hh => hap2 (inx _ hh))
      have hgx : g ∉ x.fp := fun hh => hap3 g (by simp [fpv_some]) (inx _ hh)
      have hgl : g < w.heap.size := hB.lt g (by simp [fpv_some])
      have hg1 : ∀ o, w1.cell? ⟨g, o, none⟩ = w.cell? ⟨g, o, none⟩ := fun o => World.cell?_of_block (w := w) (hk1.block g hgl hgx)
      refine hK _ _ ⟨⟨hb1, by rw [hg1]; exact hcx, by rw [hg1]; exact hcy'⟩, ?_⟩
      clear hK
      refine wpTail_nil ?_
      have hr1 : Row w1 141 1 (.slice (some ⟨g, 0, none⟩) N cv) N ((A' ++ [x, y] ++ B').map Kid.ptr) := HN'.out ▸ hB.row.kept hk1 (fun z hz hh => hap3 z hz (inx _ hh))
      obtain ⟨hc1, hf1⟩ := cells_of hb1
      have hw2 : IntKind.i64.wrap ((A'.length : Int) + 2) = (A'.length : Int) + 2 := by rw [IntKind.wrap_i64]; omega
      go_wp2_with fail
      refine (deleteK _ N (A'.length + 1) (A'.length + 2) _ _ _ w1 hr1 (by omega) (by omega) (by omega) (by omega) (ptr_one _)).mono ?_
      rintro e w2 ⟨v2, rfl, hr2, hg2, hfp2, _⟩
      obtain ⟨M, HM⟩ : ∃ M, Hid ((A' ++ [x'] ++ B').length = M) := ⟨_, rfl⟩
      have hM1 : M + 1 = N := by rw [← HM.out, ← HN'.out]; simp; omega
      have hr2' : Row w2 141 1 v2 M ((A' ++ [x'] ++ B').map Kid.ptr) := by
        have e1 := ptrs_join A' B' x y x' (by simp [Kid.ptr, hxb])
        have e3 : A'.length + 1 + (N - (A'.length + 2)) = M := by omega
        rw [e1, e3] at hr2
        exact hr2
      clear hr2
      have hb2 := hg2.1.get hb1 (fun hh => hap1 hh)
      obtain ⟨hc2, hf2⟩ := cells_of hb2
      obtain ⟨p2, c2, rfl⟩ := hr2'.slice
      go_wp2
      go_meet
      case rel =>
        rw [HE.out]
        exact ⟨A', x', B', _, rfl, mid_join hB hx' hxb hxl hxf' hk1 (HM.out.symm ▸ hr2') hg2.1 hg2.2 rfl, hok', by omega, by omega, by rw [HM.out]; omega, by rw [HM.out]; omega, by omega, by rw [HM.out]; omega⟩
    · rw [decide_eq_false hlow] at hlss
      rw [hlss]
      go_wp2
      go_meet
      case rel => exact ⟨A, c, B, _, rfl, (Mid.refl hB).drewN j, hok, by omega, by omega, by rw [HN.out]; omega, by rw [HN.out]; omega, by rw [HN.out]; omega, by omega⟩
  case rest =>
    obtain ⟨A', c', B', v', rfl, hM, hok', hn4, hn11, hl1, hl2, hl3, hl4⟩ := hcut
    have hB' := hM.brn
    have hlM : (itemsOf (A' ++ [c'] ++ B')).length ≤ 1000000 := by rw [hM.items]; exact hl
    have hK0 : KidsAt wc v' (A' ++ c' :: B') := by simpa using hB'.kidsAt
    obtain ⟨g', cv', hv, hcell'⟩ := hK0.mid
    have hlen : (A' ++ c' :: B').length = (A' ++ [c'] ++ B').length := by simp
    rw [hlen] at hv
    clear hK0 hlen
    generalize hN' : (A' ++ [c'] ++ B').length = N' at hv hl1 hl2 hl3 hl4
    have HN' : Hid ((A' ++ [c'] ++ B').length = N') := hN'
    clear hN'
    subst hv
    have hAN' : A'.length < N' := by rw [← HN'.out]; simp
    obtain ⟨hcb', hfb'⟩ := cells_of hB'.cells
    have hc' := hB'.fam.each c' (by simp)
    have hfill' := hc'.fill (by omega)
    clear hfill hcb hfb hcell
    simp only [Kid.ptr] at hcell' hfill'
    have hgtr := gtr_full (N := c'.n) (by omega)
    by_cases hful : 8 < c'.n
    · rw [decide_eq_true hful] at hgtr
      go_upto_if 57 with (go_at_call 113; refine hfill'.mono ?_; rintro e w1 ⟨rfl, j2, rfl⟩)
      go_wp2
      have hi1 : (A'.length : Int) < (N' : Int) := by omega
      refine wp_region3 (fun W => W.heap[b]? = some (.cells (nilS :: .slice (some ⟨g', 0, none⟩) N' cv' :: cnt :: rest).toArray T (0, 0)) ∧ W.cell? ⟨g', A'.length, none⟩ = some (.pointer (some ⟨c'.b, 0, none⟩)))
        [(0, true), (1, true), (2, true), (3, true), (4, false), (5, true), (6, true), (7, true), (8, true), (9, true), (10, false), (11, true), (12, true), (13, false)] [14, 15, 16, 17, 18, 19] (by kernel_rfl) (by kernel_rfl) (fun _ _ d _ _ h => by cases d <;> exact h) ⟨hB'.cells, hcell'⟩ ?_
      repeat ((first | refine wpPre3_pure rfl rfl (fun W => (by go_simp; rfl)) ?_ | refine wpPre3_read rfl rfl (fun W hW => (by obtain ⟨hW1, hW2⟩ := hW; obtain ⟨hc, _⟩ := cells_of hW1; go_simp; rfl)) ?_); simp only [Act.put, List.setIfInBounds_toArray, List.set])
      refine wpPre3_nil ?_
      refine wpTail3_cons rfl rfl (fun K hK => ?_)
      go_wp2_with fail
      have hcl : c'.ls.length ≤ 1000000 := by have := itemsOf_mem (ks := A' ++ [c'] ++ B') (c := c') (by simp); omega
      refine (split_node ((hB'.fam.drewN (j2 + 1)).each c' (by simp)) (by omega) (by omega) hcl).mono ?_
      rintro e w1 ⟨x1, x2, rfl, hx1, hx2, hx1b, hx1n, hx2n, hxl, hxnd, hxf, hk1'⟩
      have hk1 : Kept (fun z => z ∈ c'.fp) wc w1 := hk1'.of_drewN
      have hxf' : ∀ z ∈ x1.fp ++ x2.fp, z ∈ c'.fp ∨ wc.heap.size ≤ z := hxf
      clear hk1' hxf
      obtain ⟨hap1, hap2, hap3⟩ := hB'.apart
      have inx : ∀ z ∈ c'.fp, z ∈ blocksOf (A' ++ [c'] ++ B') := fun z hz => by simp only [blocksOf_append, blocksOf_one, List.mem_append]; exact .inl (.inr hz)
      have hb1 := hk1.get hB'.cells (fun hh => hap2 (inx _ hh))
      have hgx : g' ∉ c'.fp := fun hh => hap3 g' (by simp [fpv_some]) (inx _ hh)
      have hgl : g' < wc.heap.size := hB'.lt g' (by simp [fpv_some])
      have hg1 : ∀ o, w1.cell? ⟨g', o, none⟩ = wc.cell? ⟨g', o, none⟩ := fun o => World.cell?_of_block (w := wc) (hk1.block g' hgl hgx)
      refine hK _ _ ⟨fun _ => ⟨hb1, by rw [hg1]; exact hcell'⟩, ?_⟩
      clear hK
      rw [show x2.ptr = .pointer (some ⟨x2.b, 0, none⟩) from rfl]
      refine wpTail3_cons rfl rfl (fun K hK => ?_)
      go_wp2_with fail
      have hbl1 := lt_of_heap hb1
      have hgl1 : g' < w1.heap.size := Nat.lt_of_lt_of_le hgl hk1.size
      obtain ⟨hn2, hsz2, hk2⟩ := new1 w1 (Obj.cells #[.pointer (some ⟨x2.b, 0, none⟩)] 141)
      have hcell1 : (w1.alloc (Obj.cells #[.pointer (some ⟨x2.b, 0, none⟩)] 141)).cell? ⟨g', A'.length, none⟩ = some (.pointer (some ⟨c'.b, 0, none⟩)) := by
        rw [World.cell?_of_block (w := w1) (hk2.block g' hgl1 (fun h => h)), hg1]; exact hcell'
      refine ⟨fun _ => ⟨hk2.get hb1 (fun h => h), hcell1⟩, ?_⟩
      have hb2 := hk2.get hb1 (fun h => h)
      have hr2 : Row (w1.alloc (Obj.cells #[.pointer (some ⟨x2.b, 0, none⟩)] 141)) 141 1 (.slice (some ⟨g', 0, none⟩) N' cv') N' ((A' ++ [c'] ++ B').map Kid.ptr) :=
        (HN'.out ▸ hB'.row.kept hk1 (fun z hz hh => hap3 z hz (inx _ hh))).alloc _
      refine wpTail3_last (by kernel_rfl) rfl rfl (fun K hK => ?_)
      go_wp2_with fail
      generalize hw1s : w1.heap.size = s1 at hn2 hsz2 ⊢
      have hs1 : wc.heap.size ≤ s1 := hw1s ▸ hk1.size
      generalize w1.alloc (Obj.cells #[.pointer (some ⟨x2.b, 0, none⟩)] 141) = w1a at hn2 hsz2 hk2 hb2 hr2 ⊢
      refine (insertK _ N' (A'.length + 1) _ _ (.pointer (some ⟨x2.b, 0, none⟩)) s1 w1a hr2 (by omega) (by omega) hn2 (by rw [fpv_some]; simp; omega) rfl (ptr_one _) (by omega)).mono ?_
      rintro e w3 ⟨v3, rfl, hr3, hg3⟩
      have hb3 := hg3.1.get hb2 (fun hh => hap1 hh)
      obtain ⟨hc3, hf3⟩ := cells_of hb3
      refine hK _ _ ?_
      clear hK
      refine wpTail3_last (by kernel_rfl) rfl rfl (fun K hK => ?_)
      go_wp2_with fail
      refine wpTail3_last (by kernel_rfl) rfl rfl (fun K hK => ?_)
      go_wp2_with fail
      refine wpTail3_last (by kernel_rfl) rfl rfl (fun K hK => ?_)
      obtain ⟨p3, c3, rfl⟩ := hr3.slice
      go_wp2_with fail
      refine wpTail3_nil ?_
      have hMs := mid_split (A := A') (B := B') hB' hx1 hx2 hxl hxnd hxf' hk1 (w2 := w3) (v' := .slice p3 (N' + 1) c3) (by
        have e1 := ptrs_split A' B' c' x1 x2 (by simp [Kid.ptr, hx1b])
        have e3 : (A' ++ [x1, x2] ++ B').length = N' + 1 := by rw [← HN'.out]; simp; omega
        rw [← e1, e3]
        exact hr3) ((hk2.mono (fun _ h _ => h.elim)).step hg3.1) (fun z hz => (hg3.2 z hz).imp id (fun h => by omega)) rfl
      go_wp2
      go_end0
      refine ⟨rfl, _, _, hM.trans hMs, fun x hx => ?_, by have := HN'.out; simp at this ⊢; omega, by have := HN'.out; simp at this ⊢; omega, by have := HN'.out; simp at this ⊢; omega, by have := HN'.out; simp at this ⊢; omega⟩
      simp only [List.mem_append, List.mem_cons, List.not_mem_nil, or_false] at hx
      rcases hx with (hx | rfl | rfl) | hx
      · exact hok' x (by simp [hx])
      · exact ⟨by omega, by omega⟩
      · exact ⟨by omega, by omega⟩
      · exact hok' x (by simp [hx])
    · rw [decide_eq_false hful] at hgtr
      go_upto_if 57 with (go_at_call 113; refine hfill'.mono ?_; rintro e w1 ⟨rfl, j2, rfl⟩)
      go_wp2
      go_end0
      refine ⟨rfl, _, _, hM.drewN j2, fun x hx => ?_, by rw [HN'.out]; omega, by rw [HN'.out]; omega, by rw [HN'.out]; omega, by rw [HN'.out]; omega⟩
      simp only [List.mem_append, List.mem_cons, List.not_mem_nil, or_false] at hx
      rcases hx with (hx | rfl) | hx
      · exact hok' x (by simp [hx])
      · exact ⟨hn4, by omega⟩
      · exact hok' x (by simp [hx])
end Go.Proofs.YtdpfohgkikjeaaaGreat
/- insert and remove, below the root. -/
namespace Go.Proofs.YtdpfohgkikjeaaaGreat
open Go.RowKit
set_option linter.unusedVariables false
set_option linter.unusedSimpArgs false

theorem items_split {A B : List Kid} {c : Kid} {p : Nat} {item : Str} (h : p ≤ c.ls.length) : itemsOf A ++ (c.ls.take p ++ item :: c.ls.drop p) ++ itemsOf B = (itemsOf (A ++ [c] ++ B)).take ((itemsOf A).length + p) ++ item :: (itemsOf (A ++ [c] ++ B)).drop ((itemsOf A).length + p) := by
  have e : itemsOf (A ++ [c] ++ B) = itemsOf A ++ (c.ls ++ itemsOf B) := by simp [itemsOf]
  rw [e, List.take_append, List.drop_append, List.take_of_length_le (l := itemsOf A) (by omega), List.drop_eq_nil_of_le (show (itemsOf A).length ≤ (itemsOf A).length + p by omega), show (itemsOf A).length + p - (itemsOf A).length = p by omega, List.take_append_of_le_length h, List.drop_append_of_le_length h]
  simp

theorem items_cut {A B : List Kid} {c : Kid} {p : Nat} (h : p < c.ls.length) : itemsOf A ++ (c.ls.take p ++ c.ls.drop (p + 1)) ++ itemsOf B = (itemsOf (A ++ [c] ++ B)).take ((itemsOf A).length + p) ++ (itemsOf (A ++ [c] ++ B)).drop ((itemsOf A).length + p + 1) := by
  have e : itemsOf (A ++ [c] ++ B) = itemsOf A ++ (c.ls ++ itemsOf B) := by simp [itemsOf]
  rw [e, List.take_append, List.drop_append, List.take_of_length_le (l := itemsOf A) (by omega), List.drop_eq_nil_of_le (show (itemsOf A).length ≤ (itemsOf A).length + p + 1 by omega), show (itemsOf A).length + p - (itemsOf A).length = p by omega, show (itemsOf A).length + p + 1 - (itemsOf A).length = p + 1 by omega, List.take_append_of_le_length (by omega), List.drop_append_of_le_length (by omega)]
  simp

/-- A store into the count. -/
theorem Brn.count {w : World} {h : Nat} {rest : List Value} {T : TypeId} {b : Nat} {v cnt cnt' : Value} {ks : List Kid} (hB : Brn w h rest T b v cnt ks) : Brn (w.setCell ⟨b, 2, none⟩ cnt') h rest T b v cnt' ks := by
  obtain ⟨h1, h2, h3⟩ := hB.apart
  refine ⟨by rw [heap_set_same hB.cells]; simp, hB.row.kept Kept.cell1 (fun x hx e => h1 (e ▸ hx)), hB.fam.kept Kept.cell1 (fun x hx e => h2 (e ▸ hx)), hB.nodup⟩

/-- What a call leaves of a node. -/
structure Left1 (w w' : World) (h : Nat) (rest : List Value) (T : TypeId) (k k' : Kid) : Prop where
  node : NodeR w' h rest T k'
  b : k'.b = k.b
  sub : ∀ x ∈ k'.fp, x ∈ k.fp ∨ w.heap.size ≤ x
  kept : Kept (fun x => x ∈ k.fp) w w'

theorem NodeR.leaf {w : World} {h : Nat} {rest T k} (hN : NodeR w h rest T k) : Calls Tryz.prog 107 #[k.ptr] w fun e w' => e = .returned (.bool (decide (h = 0))) ∧ w' = w := by
  cases h with
  | zero =>
    obtain ⟨v, hl⟩ := hN
    exact (leaf_any k.b v nilS k.count rest T w hl.cells none 0 0 rfl).mono (fun e w' h => by simpa using h)
  | succ h =>
    obtain ⟨h0, v, ks, hb, _⟩ := hN
    obtain ⟨p, c, rfl⟩ := hb.row.slice
    refine (leaf_any k.b nilS (.slice p k.n c) k.count rest T w hb.cells p k.n c rfl).mono (fun e w' h => ?_)
    rw [decide_eq_false (by omega : ¬ k.n = 0)] at h
    simpa using h

theorem leaf_calls {w : World} {b : Nat} {vi vk cnt : Value} {rest : List Value} {T : TypeId} (hb : w.heap[b]? = some (.cells (vi :: vk :: cnt :: rest).toArray T (0, 0))) {p : Option Addr} {n c : Nat} (hk : vk = .slice p n c) (t : Bool) (ht : t = decide (n = 0)) :
    Calls Tryz.prog 107 #[.pointer (some ⟨b, 0, none⟩)] w fun e w' => e = .returned (.bool t) ∧ w' = w := by
  subst ht
  exact leaf_any b vi vk cnt rest T w hb p n c hk

set_option maxHeartbeats 2000000 in
set_option maxRecDepth 100000 in
theorem insert_leaf {w : World} {rest : List Value} {T : TypeId} {k : Kid} (hN : NodeR w 0 rest T k) (item : Str) (p : Nat) (pI : Int) (hpI : pI = (p : Int)) (hp : p ≤ k.ls.length) (hl : k.ls.length ≤ 1000) :
    Calls Tryz.prog 112 #[.pointer (some ⟨k.b, 0, none⟩), .int .i64 pI, sv item] w fun e w' => e = .returned (.tuple #[]) ∧ ∃ k', Left1 w w' 0 rest T k k' ∧ k'.ls = k.ls.take p ++ item :: k.ls.drop p ∧ k'.n = k.n + 1 := by
  subst hpI
  obtain ⟨v, hL⟩ := hN
  obtain ⟨b, n, ls, fp⟩ := k
  obtain ⟨hb, hr, hfp, hnd⟩ := hL
  simp only at hb hr hfp hnd hp hl
  simp only [Kid.count] at hb
  have hll : ls.length = n := by simpa using hr.len
  subst hll
  obtain ⟨pv, cv, rfl⟩ := hr.slice
  obtain ⟨hc, hf⟩ := cells_of hb
  have hbv : b ∉ fpv (.slice pv ls.length cv) := by rw [hfp, List.nodup_cons] at hnd; exact hnd.1
  have hw : IntKind.i64.wrap ((ls.length : Int) + 1) = (ls.length : Int) + 1 := by rw [IntKind.wrap_i64]; omega
  go_enter Tryz.func112, Tryz.ntmps112
  go_wp2_with fail
  have hb1 : (w.setCell ⟨b, 2, none⟩ (.int .i64 ((ls.length : Int) + 1))).heap[b]? = some (.cells (.slice pv ls.length cv :: nilS :: .int .i64 ((ls.length : Int) + 1) :: rest).toArray T (0, 0)) := by rw [heap_set_same hb]; simp
  have hk1 : Kept (fun x => x = b) w (w.setCell ⟨b, 2, none⟩ (.int .i64 ((ls.length : Int) + 1))) := Kept.cell1
  have hr1 := hr.kept hk1 (fun x hx e => hbv (e ▸ hx))
  generalize w.setCell ⟨b, 2, none⟩ (.int .i64 ((ls.length : Int) + 1)) = w1 at hb1 hk1 hr1 ⊢
  refine (leaf_calls hb1 rfl true rfl).mono ?_
  rintro e w1b ⟨rfl, hw1⟩
  rw [hw1]
  clear hw1
  obtain ⟨hc1, hf1⟩ := cells_of hb1
  go_wp2_with fail
  obtain ⟨hn2, hsz2, hk2⟩ := new1 w1 (Obj.cells #[sv item] 9)
  have hb2 := hk2.get hb1 (fun h => h)
  have hr2 := hr1.alloc (Obj.cells #[sv item] 9)
  have hlt := hr1.lt
  have hsz1 := hk1.size
  have hk2' : Kept (fun x => x = b) w (w1.alloc (Obj.cells #[sv item] 9)) := hk1.step (hk2.mono (fun _ h _ => h.elim))
  have hlt0 := hr.lt
  generalize hs1 : w1.heap.size = s1 at hn2 hsz2 hlt hsz1 ⊢
  generalize w1.alloc (Obj.cells #[sv item] 9) = w2 at hn2 hsz2 hk2' hb2 hr2 ⊢
  refine (insertS _ ls.length p _ _ (sv item) s1 w2 hr2 rfl (by omega) hn2 (fun hh => by have := hlt s1 hh; omega) rfl (sv_one _) (by omega)).mono ?_
  rintro e w3 ⟨v3, rfl, hr3', hg3⟩
  have hr3 : Row w3 9 1 v3 (ls.length + 1) ((ls.take p ++ item :: ls.drop p).map sv) := by
    have e : (ls.map sv).take p ++ sv item :: (ls.map sv).drop p = (ls.take p ++ item :: ls.drop p).map sv := by simp [List.map_take, List.map_drop]
    rw [← e]; exact hr3'
  clear hr3'
  have hb3 := hg3.1.get hb2 hbv
  obtain ⟨hc3, hf3⟩ := cells_of hb3
  obtain ⟨p3, c3, rfl⟩ := hr3.slice
  go_wp2
  refine bodyPost_ret (results_none rfl _ _ _) rfl ?_
  have hb4 : (w3.setCell ⟨b, 0, none⟩ (.slice p3 (ls.length + 1) c3)).heap[b]? = some (.cells (.slice p3 (ls.length + 1) c3 :: nilS :: .int .i64 ((ls.length : Int) + 1) :: rest).toArray T (0, 0)) := by rw [heap_set_same hb3]; simp
  have hbl := lt_of_heap hb
  have hv3 : ∀ x ∈ fpv (.slice p3 (ls.length + 1) c3), x ∈ fpv (.slice pv ls.length cv) ∨ w.heap.size ≤ x := fun x hx => (hg3.2 x hx).imp id (fun h => by omega)
  have hb3n : b ∉ fpv (.slice p3 (ls.length + 1) c3) := fun hh => by
    rcases hv3 b hh with h1 | h1
    · exact hbv h1
    · omega
  refine ⟨rfl, ⟨b, ls.length + 1, ls.take p ++ item :: ls.drop p, b :: fpv (.slice p3 (ls.length + 1) c3)⟩, ⟨⟨_, ⟨?_, hr3.kept Kept.cell1 (fun x hx e => hb3n (e ▸ hx)), rfl, List.nodup_cons.2 ⟨hb3n, fpv_nodup _⟩⟩⟩, rfl, fun x hx => ?_, ?_⟩, rfl, rfl⟩
  · have e : ((ls.take p ++ item :: ls.drop p).length : Int) = (ls.length : Int) + 1 := by simp; omega
    simp only [Kid.count]
    rw [e]; exact hb4
  · show x ∈ fp ∨ _
    rw [hfp]
    rcases List.mem_cons.1 hx with rfl | hx
    · exact .inl (by simp)
    · exact (hv3 x hx).imp (fun h => by simp [h]) id
  · refine ((hk2'.mono (T := fun x => x ∈ fp) (fun x hx _ => by rw [hfp, hx]; simp)).step' hg3.1 (fun x hx _ => by rw [hfp]; simp [hx])).setCell (p := ⟨b, 0, none⟩) (fun _ => by show b ∈ fp; rw [hfp]; simp) _

set_option maxHeartbeats 2000000 in
set_option maxRecDepth 100000 in
theorem remove_leaf {w : World} {rest : List Value} {T : TypeId} {k : Kid} (hN : NodeR w 0 rest T k) (p : Nat) (pI : Int) (hpI : pI = (p : Int)) (hp : p < k.ls.length) (hl : k.ls.length ≤ 1000) :
    Calls Tryz.prog 83 #[.pointer (some ⟨k.b, 0, none⟩), .int .i64 pI] w fun e w' => e = .returned (.tuple #[]) ∧ ∃ k', Left1 w w' 0 rest T k k' ∧ k'.ls = k.ls.take p ++ k.ls.drop (p + 1) ∧ k'.n + 1 = k.n := by
  subst hpI
  obtain ⟨v, hL⟩ := hN
  obtain ⟨b, n, ls, fp⟩ := k
  obtain ⟨hb, hr, hfp, hnd⟩ := hL
  simp only at hb hr hfp hnd hp hl
  simp only [Kid.count] at hb
  have hll : ls.length = n := by simpa using hr.len
  subst hll
  obtain ⟨pv, cv, rfl⟩ := hr.slice
  obtain ⟨hc, hf⟩ := cells_of hb
  have hbv : b ∉ fpv (.slice pv ls.length cv) := by rw [hfp, List.nodup_cons] at hnd; exact hnd.1
  have hw : IntKind.i64.wrap ((ls.length : Int) - 1) = (ls.length : Int) - 1 := by rw [IntKind.wrap_i64]; omega
  have hw2 : IntKind.i64.wrap ((p : Int) + 1) = (p : Int) + 1 := by rw [IntKind.wrap_i64]; omega
  go_enter Tryz.func83, Tryz.ntmps83
  go_wp2_with fail
  have hb1 : (w.setCell ⟨b, 2, none⟩ (.int .i64 ((ls.length : Int) - 1))).heap[b]? = some (.cells (.slice pv ls.length cv :: nilS :: .int .i64 ((ls.length : Int) - 1) :: rest).toArray T (0, 0)) := by rw [heap_set_same hb]; simp
  have hk1 : Kept (fun x => x = b) w (w.setCell ⟨b, 2, none⟩ (.int .i64 ((ls.length : Int) - 1))) := Kept.cell1
  have hr1 := hr.kept hk1 (fun x hx e => hbv (e ▸ hx))
  generalize w.setCell ⟨b, 2, none⟩ (.int .i64 ((ls.length : Int) - 1)) = w1 at hb1 hk1 hr1 ⊢
  refine (leaf_calls hb1 rfl true rfl).mono ?_
  rintro e w1b ⟨rfl, hw1⟩
  rw [hw1]
  clear hw1
  obtain ⟨hc1, hf1⟩ := cells_of hb1
  go_wp2_with fail
  refine (deleteS _ ls.length p (p + 1) _ _ _ w1 hr1 rfl (by omega) (by omega) (by omega) (sv_one _)).mono ?_
  rintro e w3 ⟨v3, rfl, hr3', hg3, hfp3, _⟩
  obtain ⟨M, HM⟩ : ∃ M, M + 1 = ls.length := ⟨ls.length - 1, by omega⟩
  have HM' : Hid (M + 1 = ls.length) := HM
  have hr3 : Row w3 9 1 v3 M ((ls.take p ++ ls.drop (p + 1)).map sv) := by
    have e : (ls.map sv).take p ++ (ls.map sv).drop (p + 1) = (ls.take p ++ ls.drop (p + 1)).map sv := by simp [List.map_take, List.map_drop]
    have e2 : p + (ls.length - (p + 1)) = M := by omega
    rw [e, e2] at hr3'
    exact hr3'
  clear hr3' HM
  have hb3 := hg3.1.get hb1 hbv
  obtain ⟨hc3, hf3⟩ := cells_of hb3
  obtain ⟨p3, c3, rfl⟩ := hr3.slice
  go_wp2
  refine bodyPost_ret (results_none rfl _ _ _) rfl ?_
  have hb4 : (w3.setCell ⟨b, 0, none⟩ (.slice p3 M c3)).heap[b]? = some (.cells (.slice p3 M c3 :: nilS :: .int .i64 ((ls.length : Int) - 1) :: rest).toArray T (0, 0)) := by rw [heap_set_same hb3]; simp
  have hbl := lt_of_heap hb
  have hb3n : b ∉ fpv (.slice p3 M c3) := by rw [hfp3]; exact hbv
  refine ⟨rfl, ⟨b, M, ls.take p ++ ls.drop (p + 1), b :: fpv (.slice p3 M c3)⟩, ⟨⟨_, ⟨?_, hr3.kept Kept.cell1 (fun x hx e => hb3n (e ▸ hx)), rfl, List.nodup_cons.2 ⟨hb3n, fpv_nodup _⟩⟩⟩, rfl, fun x hx => ?_, ?_⟩, rfl, HM'.out⟩
  · have e : ((ls.take p ++ ls.drop (p + 1)).length : Int) = (ls.length : Int) - 1 := by simp; omega
    simp only [Kid.count]
    rw [e]; exact hb4
  · show x ∈ fp ∨ _
    rw [hfp]
    rw [hfp3] at hx
    exact .inl hx
  · refine ((hk1.mono (T := fun x => x ∈ fp) (fun x hx _ => by rw [hfp, hx]; simp)).step' hg3.1 (fun x hx _ => by rw [hfp]; simp [hx])).setCell (p := ⟨b, 0, none⟩) (fun _ => by show b ∈ fp; rw [hfp]; simp) _
end Go.Proofs.YtdpfohgkikjeaaaGreat
