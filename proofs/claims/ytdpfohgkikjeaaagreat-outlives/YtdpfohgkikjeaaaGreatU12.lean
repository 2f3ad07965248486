/- Part 12 of the proof: see its parts. -/
import Derived.Test.YtdpfohgkikjeaaaGreatU10
import Derived.Test.YtdpfohgkikjeaaaGreatU11
/- split of a branch. -/
namespace Go.Proofs.YtdpfohgkikjeaaaGreat
open Go.RowKit
set_option linter.unusedVariables false
set_option linter.unusedSimpArgs false

set_option maxHeartbeats 2000000 in
set_option maxRecDepth 100000 in
theorem split_branch (w : World) (rest : List Value) (T : TypeId) (b n : Nat) (v cnt : Value) (ks : List Kid) (hb : w.heap[b]? = some (.cells (nilS :: v :: cnt :: rest).toArray T (0, 0))) (hks : KidsAt w v ks) (hll : ks.length = n) (hdk : ∀ x ∈ fpv v, x ≠ b ∧ ∀ c ∈ ks, c.b ≠ x) (hkb : ∀ c ∈ ks, c.b ≠ b) (h1 : 1 ≤ n) (h2 : n ≤ 1000) (hil : (itemsOf ks).length ≤ 1099511627776) :
    Calls Tryz.prog 114 #[.pointer (some ⟨b, 0, none⟩)] w fun e w' => ∃ b2 v1 v2, e = .returned (.pointer (some ⟨b2, 0, none⟩)) ∧
      w'.heap[b]? = some (.cells (nilS :: v1 :: .int .i64 ((itemsOf (ks.take (n / 2))).length : Int) :: rest).toArray T (0, 0)) ∧ w'.heap[b2]? = some (.cells #[nilS, v2, .int .i64 ((itemsOf (ks.drop (n / 2))).length : Int)] 88 (0, 0)) ∧
      Row w' 141 1 v1 (n / 2) ((ks.take (n / 2)).map Kid.ptr) ∧ Row w' 141 1 v2 (n - n / 2) ((ks.drop (n / 2)).map Kid.ptr) ∧ fpv v1 = fpv v ∧ (∀ x ∈ fpv v2, w.heap.size ≤ x) ∧ w.heap.size ≤ b2 ∧ b2 ∉ fpv v2 ∧ Kept (fun x => x = b ∨ x ∈ fpv v) w w' := by
  have hr : Row w 141 1 v n (ks.map Kid.ptr) := hll ▸ hks.row
  rcases hr.shape with ⟨rfl, h0, _⟩ | ⟨g, c, rfl, hnc, hcm⟩
  · omega
  simp only [maxLen] at hcm
  have hbg : b ≠ g := fun e => (hdk g (by simp [fpv_some])).1 e.symm
  obtain ⟨hc, hf⟩ := cells_of hb
  go_enter Tryz.func114, Tryz.ntmps114
  go_wp2
  go_quiet (fail)
  go_wp2
  rw [show (n : Int) / 2 = ((n / 2 : Nat) : Int) by omega]
  have hi0 : n / 2 < n := by omega
  generalize hie : n / 2 = i at hi0 ⊢
  have Hi : Hid (n / 2 = i) := hie
  clear hie
  have hi1 : i ≤ n := by omega
  have hi2 : ¬ (c = i) := by omega
  refine wp_region_loud (fun W => W.heap[b]? = some (.cells (nilS :: .slice (some ⟨g, 0, none⟩) n c :: cnt :: rest).toArray T (0, 0))) [0, 1, 2, 3, 4, 5, 7, 8, 9, 10, 11, 12] [6, 13, 14, 15, 16] (by kernel_rfl) (by kernel_rfl) (fun _ _ d _ _ h => by cases d <;> exact h) hb ?_
  repeat (refine wpPre_cons rfl rfl (fun W hW => (by obtain ⟨hc, _⟩ := cells_of hW; go_simp; rfl)) ?_; simp only [Act.put, List.setIfInBounds_toArray, List.set])
  refine wpPre_nil ?_
  refine wpTail_cons rfl rfl (fun K hK => ?_)
  go_wp2_with fail
  refine (clone_nilS 0 0 _).mono ?_
  rintro e w1b ⟨rfl, hw⟩
  rw [hw]
  clear hw
  refine hK _ _ ⟨hb, ?_⟩
  clear hK
  refine wpTail_cons rfl rfl (fun K hK => ?_)
  go_wp2_with fail
  have hcell : ∀ j u, ((ks.drop i).map Kid.ptr)[j]? = some u → (w.drewN (nq + 1)).cell? ⟨g, i + j, none⟩ = some u := fun j u hj => by
    obtain ⟨_, _, _, hcl⟩ := hr.cell
    rw [List.map_drop, List.getElem?_drop] at hj
    exact hcl _ u hj
  have hdl : (ks.drop i).length = n - i := by rw [List.length_drop, hll]
  refine (clone_someK g i (n - i) (c - i) ((ks.drop i).map Kid.ptr) _ (by rw [List.length_map, hdl]) hcell (ptr_one _) (by omega)).mono ?_
  rintro e w1 ⟨v2, rfl, hr1, hk1, hf1⟩
  have hk1' : Kept no w w1 := hk1.of_drewN
  have hb1 := hk1'.get hb (fun h => h)
  refine hK _ _ ⟨hb1, ?_⟩
  clear hK
  obtain ⟨p2, c2, rfl⟩ := hr1.slice
  refine wpTail_cons rfl rfl (fun K hK => ?_)
  go_wp2_with fail
  refine ⟨hb1, ?_⟩
  refine wpTail_cons rfl rfl (fun K hK => ?_)
  go_wp2_with fail
  have hb2 : (w1.alloc (Obj.cells #[.slice none 0 0, .slice p2 (n - i) c2, .int .i64 0] 88)).heap[b]? = some (.cells (nilS :: .slice (some ⟨g, 0, none⟩) n c :: cnt :: rest).toArray T (0, 0)) := by
    rw [heap_alloc_lt (lt_of_heap hb1)]; exact hb1
  obtain ⟨hn2, hsz2, hk2⟩ := new1 w1 (Obj.cells #[.slice none 0 0, .slice p2 (n - i) c2, .int .i64 0] 88)
  have hr2 := hr1.alloc (Obj.cells #[.slice none 0 0, .slice p2 (n - i) c2, .int .i64 0] 88)
  have hsz1 : w.heap.size ≤ w1.heap.size := hk1'.size
  have hlt1 := hr1.lt
  refine ⟨hb2, ?_⟩
  refine wpTail_cons rfl rfl (fun K hK => ?_)
  go_wp2_with fail
  refine ⟨hb2, ?_⟩
  refine wpTail_nil ?_
  have hk2' : Kept no w (w1.alloc (Obj.cells #[.slice none 0 0, .slice p2 (n - i) c2, .int .i64 0] 88)) := hk1'.step hk2
  generalize hb' : w1.heap.size = b2 at hn2 hsz2 hlt1 hsz1 ⊢
  generalize w1.alloc (Obj.cells #[.slice none 0 0, .slice p2 (n - i) c2, .int .i64 0] 88) = w2 at hb2 hn2 hsz2 hr2 hk2' ⊢
  clear hk2 hk1 hb1 hc hf hcell hr1
  have hrg : Row w2 141 1 (.slice (some ⟨g, 0, none⟩) n c) n (ks.map Kid.ptr) := hr.kept hk2' (fun _ _ h => h)
  go_wp2
  have hlen : (ks.map Kid.ptr).length = n := by simp [hll]
  have hbw := lt_of_heap hb
  have hgl : g < w.heap.size := by have := hr.lt g (by simp [fpv_some]); exact this
  have hne2 : b2 ≠ b := by omega
  have hne2g : b2 ≠ g := by omega
  have hcl : ∀ x ∈ ks, x.b < w.heap.size := fun x hx => by obtain ⟨_, _, _, _, hh⟩ := hks.counts x hx; exact lt_of_heap hh
  -- the items: none
  refine wp_region_last (fun W => W.heap[b]? = some (.cells (nilS :: .slice (some ⟨g, 0, none⟩) n c :: cnt :: rest).toArray T (0, 0))) [0, 1, 2, 3, 4, 5, 6, 7, 8, 9, 10] [11, 12, 13, 14] (by kernel_rfl) (by kernel_rfl) (fun _ _ d _ _ h => by cases d <;> exact h) hb2 ?_
  repeat (refine wpPre_cons rfl rfl (fun W hW => (by obtain ⟨hc, _⟩ := cells_of hW; go_simp; rfl)) ?_; simp only [Act.put, List.setIfInBounds_toArray, List.set])
  refine wpPre_nil ?_
  refine wpTail2_cons rfl rfl (fun K hK => ?_)
  go_wp2_with fail
  refine (deleteS nilS 0 0 0 _ _ [] w2.drew ⟨rfl, .inl ⟨rfl, rfl⟩⟩ rfl rfl (Nat.le_refl _) (Nat.le_refl _) (by simp)).mono ?_
  rintro e w3 ⟨v5, rfl, _, hg5, _, hnil⟩
  obtain rfl := hnil rfl
  have hk3 : Kept no w2 w3 := hg5.1.of_drew.mono (fun x hx _ => by simp [fpv_nil] at hx)
  have hb3 := hk3.get hb2 (fun h => h)
  refine hK _ _ ⟨hb3, ?_⟩
  clear hK hnil hg5
  obtain ⟨hc5, hf5⟩ := cells_of hb3
  refine wpTail2_last (by kernel_rfl) rfl rfl (fun K hK => ?_)
  go_wp2_with fail
  refine wpTail2_last (by kernel_rfl) rfl rfl (fun K hK => ?_)
  go_wp2_with fail
  refine wpTail2_last (by kernel_rfl) rfl rfl (fun K hK => ?_)
  go_wp2_with fail
  refine wpTail2_nil ?_
  have hb4 : (w3.setCell ⟨b, 0, none⟩ nilS).heap[b]? = some (.cells (nilS :: .slice (some ⟨g, 0, none⟩) n c :: cnt :: rest).toArray T (0, 0)) := by rw [heap_set_same hb3]; simp
  have hk24 : Kept (fun x => x = b) w2 (w3.setCell ⟨b, 0, none⟩ nilS) := Kept.setCell (S := fun x => x = b) (hk3.mono (fun _ h _ => h.elim)) (p := ⟨b, 0, none⟩) (fun _ => rfl) _
  have hk4 : Kept (fun x => x = b) w (w3.setCell ⟨b, 0, none⟩ nilS) := Kept.step (S := fun x => x = b) (hk2'.mono (fun _ h _ => h.elim)) hk24
  have hbn2 : b ∉ fpv (.slice p2 (n - i) c2) := fun hx => by have := hf1 b hx; have h2 : w.heap.size ≤ b := this; omega
  have hr4 := hrg.kept hk24 (fun x hx e => by subst e; rw [fpv_some] at hx; exact hbg (by simpa using hx))
  have hr24 := hr2.kept hk24 (fun x hx e => hbn2 (e ▸ hx))
  have hn4 := hk24.get hn2 hne2
  have hsz4 : w2.heap.size ≤ (w3.setCell ⟨b, 0, none⟩ nilS).heap.size := hk24.size
  generalize w3.setCell ⟨b, 0, none⟩ nilS = w4 at hb4 hk4 hr4 hr24 hn4 hsz4 ⊢
  clear hc5 hf5 hb3 hk3 hk24 hrg hr2 hn2 hb2
  go_wp2
  -- the kids
  refine wp_region_last (fun W => W.heap[b]? = some (.cells (nilS :: .slice (some ⟨g, 0, none⟩) n c :: cnt :: rest).toArray T (0, 0))) [0, 1, 2, 3, 4, 5, 6, 7, 8, 9, 10] [11, 12, 13, 14] (by kernel_rfl) (by kernel_rfl) (fun _ _ d _ _ h => by cases d <;> exact h) hb4 ?_
  repeat (refine wpPre_cons rfl rfl (fun W hW => (by obtain ⟨hc, _⟩ := cells_of hW; go_simp; rfl)) ?_; simp only [Act.put, List.setIfInBounds_toArray, List.set])
  refine wpPre_nil ?_
  refine wpTail2_cons rfl rfl (fun K hK => ?_)
  go_wp2_with fail
  refine (deleteK _ n i n _ _ (ks.map Kid.ptr) _ hr4.drew rfl rfl hi1 (Nat.le_refl _) (ptr_one _)).mono ?_
  rintro e w5 ⟨v1, rfl, hr5', hg5, hfp5, _⟩
  have hr5 : Row w5 141 1 v1 i ((ks.take i).map Kid.ptr) := by
    have e : (ks.map Kid.ptr).take i ++ (ks.map Kid.ptr).drop n = (ks.take i).map Kid.ptr := by
      rw [List.drop_eq_nil_of_le (by omega), List.append_nil, List.map_take]
    rw [e, Nat.sub_self, Nat.add_zero] at hr5'
    exact hr5'
  clear hr5'
  have hb5 : w5.heap[b]? = some (.cells (nilS :: .slice (some ⟨g, 0, none⟩) n c :: cnt :: rest).toArray T (0, 0)) := hg5.1.get (w := w4.drew) hb4 (fun h => hbg (by simpa [fpv_some] using h))
  refine hK _ _ ⟨hb5, ?_⟩
  clear hK
  obtain ⟨hc5, hf5⟩ := cells_of hb5
  refine wpTail2_last (by kernel_rfl) rfl rfl (fun K hK => ?_)
  go_wp2_with fail
  refine wpTail2_last (by kernel_rfl) rfl rfl (fun K hK => ?_)
  go_wp2_with fail
  refine wpTail2_last (by kernel_rfl) rfl rfl (fun K hK => ?_)
  obtain ⟨p1, c1, rfl⟩ := hr5.slice
  go_wp2_with fail
  refine wpTail2_nil ?_
  have hb6 : (w5.setCell ⟨b, 1, none⟩ (.slice p1 i c1)).heap[b]? = some (.cells (nilS :: .slice p1 i c1 :: cnt :: rest).toArray T (0, 0)) := by rw [heap_set_same hb5]; simp
  have hk46 : Kept (fun x => x = b ∨ x = g) w4 (w5.setCell ⟨b, 1, none⟩ (.slice p1 i c1)) := (hg5.1.of_drew.mono (fun x hx _ => .inr (by simpa [fpv_some] using hx))).setCell (p := ⟨b, 1, none⟩) (fun _ => .inl rfl) _
  have hk6 : Kept (fun x => x = b ∨ x = g) w (w5.setCell ⟨b, 1, none⟩ (.slice p1 i c1)) := (hk4.mono (fun x hx _ => .inl hx)).step hk46
  have hbn : b ∉ fpv (.slice p1 i c1) := by rw [hfp5, fpv_some]; simpa using hbg
  have hr6 : Row (w5.setCell ⟨b, 1, none⟩ (.slice p1 i c1)) 141 1 (.slice p1 i c1) i ((ks.take i).map Kid.ptr) := hr5.kept (S := fun k => k = b) Kept.cell1 (fun x hx e => hbn (e ▸ hx))
  have hr26 := hr24.kept hk46 (fun x hx h => by have := hf1 x hx; have h2 : w.heap.size ≤ x := this; rcases h with h | h <;> omega)
  have hn6 := hk46.get hn4 (by rintro (h | h) <;> omega)
  generalize w5.setCell ⟨b, 1, none⟩ (.slice p1 i c1) = w6 at hb6 hk6 hr6 hn6 hr26 ⊢
  clear hc5 hf5 hb5 hg5 hb4 hk4 hr4 hr24 hn4 hk46 hr5
  have hkn : ∀ x ∈ ks, ¬ (x.b = b ∨ x.b = g) := fun x hx h => h.elim (hkb x hx) ((hdk g (by simp [fpv_some])).2 x hx)
  have hcnt6 : ∀ x ∈ ks, ∃ a b' r T, w6.heap[x.b]? = some (.cells (a :: b' :: x.count :: r).toArray T (0, 0)) := fun x hx => by
    obtain ⟨a, b', r, T', hh⟩ := hks.counts x hx
    exact ⟨a, b', r, T', hk6.get hh (hkn x hx)⟩
  have hl1 : (ks.take i).length = i := by rw [List.length_take]; omega
  have hk1a : KidsAt w6 (.slice p1 i c1) (ks.take i) := ⟨by rw [hl1]; exact hr6, fun x hx => hcnt6 x (List.mem_of_mem_take hx)⟩
  have hi1l : (itemsOf (ks.take i)).length ≤ 1099511627776 ∧ (itemsOf (ks.drop i)).length ≤ 1099511627776 := by
    have e : itemsOf ks = itemsOf (ks.take i) ++ itemsOf (ks.drop i) := by rw [← itemsOf_append, List.take_append_drop]
    rw [e, List.length_append] at hil; omega
  go_wp2_with fail
  refine (tally_any b _ _ _ rest T (ks.take i) none 0 0 rfl w6 hb6 hk1a (fun x hx => hkb x (List.mem_of_mem_take hx)) hbn (by omega) hi1l.1 (by omega)).mono ?_
  rintro e w7 ⟨rfl, hb7, hk7⟩
  have hn7 := hk7.get hn6 hne2
  have hr7 := hr6.kept hk7 (fun x hx e => hbn (e ▸ hx))
  have hr27 := hr26.kept hk7 (fun x hx e => hbn2 (e ▸ hx))
  have hk7' : Kept (fun x => x = b ∨ x = g) w w7 := hk6.step' hk7 (fun x hx _ => .inl hx)
  have hb2n2 : b2 ∉ fpv (.slice p2 (n - i) c2) := fun hx => by have := hlt1 b2 hx; omega
  have hk2a : KidsAt w7 (.slice p2 (n - i) c2) (ks.drop i) := ⟨by rw [hdl]; exact hr27, fun x hx => by
    obtain ⟨a, b', r, T', hh⟩ := hcnt6 x (List.mem_of_mem_drop hx)
    exact ⟨a, b', r, T', hk7.get hh (hkb x (List.mem_of_mem_drop hx))⟩⟩
  clear hk7 hn6 hr6 hr26 hb6 hk6
  go_wp2_with fail
  refine (tally_any b2 _ _ _ [] 88 (ks.drop i) none 0 0 rfl w7 hn7 hk2a (fun x hx => by have := hcl x (List.mem_of_mem_drop hx); omega) hb2n2 (by omega) hi1l.2 (by omega)).mono ?_
  rintro e w8 ⟨rfl, hn8, hk8⟩
  have hb8 := hk8.get hb7 (fun e => hne2 e.symm)
  have hb2n : b2 ∉ fpv (.slice p1 i c1) := by rw [hfp5, fpv_some]; simpa using hne2g
  have hr8 := hr7.kept hk8 (fun x hx e => hb2n (e ▸ hx))
  have hr28 := hr27.kept hk8 (fun x hx e => hb2n2 (e ▸ hx))
  go_wp2
  go_ret
  rw [Hi.out]
  refine ⟨b2, .slice p1 i c1, .slice p2 (n - i) c2, rfl, by simpa using hb8, by simpa using hn8, hr8, hr28, hfp5, hf1, by omega, hb2n2, ?_⟩
  refine (hk7'.step' hk8 (fun x hx hlt => by omega)).mono (fun x hx _ => ?_)
  rw [fpv_some]
  simpa using hx
end Go.Proofs.YtdpfohgkikjeaaaGreat
/- Nodes as wholes: fill, join, split; a family of kids. -/
namespace Go.Proofs.YtdpfohgkikjeaaaGreat
open Go.RowKit
set_option linter.unusedVariables false
set_option linter.unusedSimpArgs false

abbrev nodeT : TypeId := 88

theorem LeafR.kid {w rest T b ls v fp} {n : Nat} (hc : w.heap[b]? = some (.cells (v :: nilS :: .int .i64 (ls.length : Int) :: rest).toArray T (0, 0))) (hr : Row w 9 1 v n (ls.map sv)) (hfp : fp = b :: fpv v) (hnd : fp.Nodup) : NodeR w 0 rest T ⟨b, n, ls, fp⟩ := ⟨v, hc, hr, hfp, hnd⟩

theorem itemsOf_mem {ks : List Kid} {c : Kid} (h : c ∈ ks) : c.ls.length ≤ (itemsOf ks).length := by
  obtain ⟨A, B, rfl⟩ := List.append_of_mem h
  simp only [itemsOf_append, List.length_append]
  have : itemsOf (c :: B) = c.ls ++ itemsOf B := by simp [itemsOf]
  rw [this, List.length_append]; omega

theorem NodeR.fill {w : World} {h : Nat} {rest T k} (hN : NodeR w h rest T k) (hn : k.n ≤ 17) :
    Calls Tryz.prog 113 #[k.ptr] w fun e w' => e = .returned (.float .f64 (fillBits k.n)) ∧ ∃ j, w' = w.drewN j := by
  cases h with
  | zero =>
    obtain ⟨v, hl⟩ := hN
    obtain ⟨p, c, rfl⟩ := hl.row.slice
    have := fill_any k.b (.slice p k.n c) nilS k.count rest T w hl.cells p none k.n 0 c 0 rfl rfl (by omega)
    simpa [Kid.ptr] using this
  | succ h =>
    obtain ⟨_, v, ks, hb, _⟩ := hN
    obtain ⟨p, c, rfl⟩ := hb.row.slice
    have := fill_any k.b nilS (.slice p k.n c) k.count rest T w hb.cells none p 0 k.n 0 c rfl rfl (by omega)
    simpa [Kid.ptr] using this

/-! ### A family of kids -/
structure Fam (w : World) (h : Nat) (ks : List Kid) : Prop where
  each : ∀ c ∈ ks, NodeR w h [] nodeT c
  nodup : (blocksOf ks).Nodup

theorem blocksOf_append (a b : List Kid) : blocksOf (a ++ b) = blocksOf a ++ blocksOf b := by simp [blocksOf]
theorem blocksOf_one (c : Kid) : blocksOf [c] = c.fp := by simp [blocksOf]
theorem Fam.lt {w h ks} (f : Fam w h ks) : ∀ x ∈ blocksOf ks, x < w.heap.size := fun x hx => by
  obtain ⟨c, hc, hx⟩ := mem_blocksOf.1 hx
  exact (f.each c hc).lt h x hx

theorem Fam.splice {w w' : World} {h : Nat} {A M M' B : List Kid} {S : Blocks} (f : Fam w h (A ++ M ++ B)) (hk : Kept S w w') (hS : ∀ x, S x → x < w.heap.size → x ∈ blocksOf M) (g : Fam w' h M') (hsub : ∀ x ∈ blocksOf M', x ∈ blocksOf M ∨ w.heap.size ≤ x) :
    Fam w' h (A ++ M' ++ B) ∧ ∀ x ∈ blocksOf (A ++ M' ++ B), x ∈ blocksOf (A ++ M ++ B) ∨ w.heap.size ≤ x := by
  have hlt := f.lt
  have hnd := f.nodup
  simp only [blocksOf_append, List.nodup_append, List.mem_append] at hnd hlt
  obtain ⟨⟨hA, hM, hAM⟩, hB, hAB⟩ := hnd
  have keep : ∀ c, c ∈ A ∨ c ∈ B → NodeR w' h [] nodeT c := fun c hc => by
    refine NodeR.kept hk h (f.each c (by rcases hc with hc | hc <;> simp [hc])) (fun x hx hs => ?_)
    rcases hc with hc | hc
    · have hx' : x ∈ blocksOf A := mem_blocksOf.2 ⟨c, hc, hx⟩
      exact hAM x hx' x (hS x hs (hlt x (.inl (.inl hx')))) rfl
    · have hx' : x ∈ blocksOf B := mem_blocksOf.2 ⟨c, hc, hx⟩
      exact hAB x (.inr (hS x hs (hlt x (.inr hx')))) x hx' rfl
  refine ⟨⟨fun c hc => ?_, ?_⟩, fun x hx => ?_⟩
  · simp only [List.mem_append] at hc
    rcases hc with (hc | hc) | hc
    · exact keep c (.inl hc)
    · exact g.each c hc
    · exact keep c (.inr hc)
  · simp only [blocksOf_append, List.nodup_append, List.mem_append]
    refine ⟨⟨hA, g.nodup, fun x hx y hy e => ?_⟩, hB, fun x hx y hy e => ?_⟩
    · subst e
      rcases hsub x hy with h1 | h1
      · exact hAM x hx x h1 rfl
      · have := hlt x (.inl (.inl hx)); omega
    · subst e
      rcases hx with hx | hx
      · exact hAB x (.inl hx) x hy rfl
      · rcases hsub x hx with h1 | h1
        · exact hAB x (.inr h1) x hy rfl
        · have := hlt x (.inr hy); omega
  · simp only [blocksOf_append, List.mem_append] at hx ⊢
    rcases hx with (hx | hx) | hx
    · exact .inl (.inl (.inl hx))
    · exact (hsub x hx).imp (fun h => .inl (.inr h)) id
    · exact .inl (.inr hx)

/-- A branch, its count apart. -/
structure Brn (w : World) (h : Nat) (rest : List Value) (T : TypeId) (b : Nat) (v cnt : Value) (ks : List Kid) : Prop where
  cells : w.heap[b]? = some (.cells (nilS :: v :: cnt :: rest).toArray T (0, 0))
  row : Row w 141 1 v ks.length (ks.map Kid.ptr)
  fam : Fam w h ks
  nodup : (b :: (fpv v ++ blocksOf ks)).Nodup

theorem Brn.of_node {w h rest T k} (hN : NodeR w (h + 1) rest T k) : ∃ v ks, Brn w h rest T k.b v k.count ks ∧ k.ls = itemsOf ks ∧ k.fp = k.b :: (fpv v ++ blocksOf ks) ∧ ks.length = k.n ∧ 0 < k.n ∧ ∀ c ∈ ks, 4 ≤ c.n ∧ c.n ≤ 8 := by
  obtain ⟨h0, v, ks, hb, hc⟩ := hN
  refine ⟨v, ks, ⟨hb.cells, hb.len ▸ hb.row, ⟨fun c hm => (hc c hm).1, ?_⟩, hb.fp ▸ hb.nodup⟩, hb.ls, hb.fp, hb.len, h0, fun c hm => (hc c hm).2⟩
  have := hb.nodup
  rw [hb.fp, List.nodup_cons, List.nodup_append] at this
  exact this.2.2.1

theorem Brn.node {w h rest T b v cnt ks} (hB : Brn w h rest T b v cnt ks) (hcnt : cnt = .int .i64 ((itemsOf ks).length : Int)) (h0 : 0 < ks.length) (hn : ∀ c ∈ ks, 4 ≤ c.n ∧ c.n ≤ 8) : NodeR w (h + 1) rest T ⟨b, ks.length, itemsOf ks, b :: (fpv v ++ blocksOf ks)⟩ := by
  subst hcnt
  exact ⟨h0, v, ks, ⟨hB.cells, hB.row, rfl, rfl, hB.nodup⟩, fun c hm => ⟨hB.fam.each c hm, hn c hm⟩⟩

theorem Fam.kidsAt {w h ks v} (f : Fam w h ks) (hr : Row w 141 1 v ks.length (ks.map Kid.ptr)) : KidsAt w v ks :=
  ⟨hr, fun c hm => by obtain ⟨a, b, r, hh⟩ := (f.each c hm).count; exact ⟨a, b, r, _, hh⟩⟩

theorem Brn.kidsAt {w h rest T b v cnt ks} (hB : Brn w h rest T b v cnt ks) : KidsAt w v ks := hB.fam.kidsAt hB.row

theorem Brn.lt {w h rest T b v cnt ks} (hB : Brn w h rest T b v cnt ks) : ∀ x ∈ b :: (fpv v ++ blocksOf ks), x < w.heap.size := fun x hx => by
  rcases List.mem_cons.1 hx with rfl | hx
  · exact lt_of_heap hB.cells
  rcases List.mem_append.1 hx with hx | hx
  · exact hB.row.lt x hx
  · exact hB.fam.lt x hx

theorem Brn.apart {w h rest T b v cnt ks} (hB : Brn w h rest T b v cnt ks) : b ∉ fpv v ∧ b ∉ blocksOf ks ∧ ∀ x ∈ fpv v, x ∉ blocksOf ks := by
  have := hB.nodup
  simp only [List.nodup_cons, List.nodup_append, List.mem_append, not_or] at this
  exact ⟨this.1.1, this.1.2, fun x hx hy => this.2.2.2 x hx x hy rfl⟩

/-- Some kids are turned; the addresses stay. -/
theorem Brn.turn {w w' : World} {h : Nat} {rest : List Value} {T : TypeId} {b : Nat} {v cnt : Value} {A M M' B : List Kid} {S : Blocks} (hB : Brn w h rest T b v cnt (A ++ M ++ B)) (hk : Kept S w w') (hS : ∀ x, S x → x < w.heap.size → x ∈ blocksOf M) (g : Fam w' h M')
    (hsub : ∀ x ∈ blocksOf M', x ∈ blocksOf M ∨ w.heap.size ≤ x) (hp : M'.map Kid.ptr = M.map Kid.ptr) : Brn w' h rest T b v cnt (A ++ M' ++ B) ∧ ∀ x ∈ blocksOf (A ++ M' ++ B), x ∈ blocksOf (A ++ M ++ B) ∨ w.heap.size ≤ x := by
  obtain ⟨hbv, hbk, hvk⟩ := hB.apart
  have hlt := hB.lt
  obtain ⟨f, hs⟩ := hB.fam.splice hk hS g hsub
  have hl : M'.length = M.length := by have := congrArg List.length hp; simpa using this
  have hMsub : ∀ x ∈ blocksOf M, x ∈ blocksOf (A ++ M ++ B) := fun x hx => by simp [blocksOf_append, hx]
  refine ⟨⟨hk.get hB.cells (fun hh => hbk (hMsub _ (hS b hh (hlt b (by simp))))), ?_, f, ?_⟩, hs⟩
  · have := hB.row.kept hk (fun x hx hh => hvk x hx (hMsub _ (hS x hh (hlt x (by simp [hx])))))
    simpa [hl, hp] using this
  · have hnd := hB.nodup
    simp only [List.nodup_cons, List.nodup_append, List.mem_append, not_or] at hnd ⊢
    have hb' : b < w.heap.size := hlt b (by simp)
    refine ⟨⟨hbv, fun hh => ?_⟩, hnd.2.1, f.nodup, fun x hx y hy e => ?_⟩
    · rcases hs b hh with h1 | h1
      · exact hbk h1
      · omega
    · subst e
      rcases hs x hy with h1 | h1
      · exact hvk x hx h1
      · have := hlt x (by simp [hx]); omega
end Go.Proofs.YtdpfohgkikjeaaaGreat
/- join and split of whole nodes. -/
namespace Go.Proofs.YtdpfohgkikjeaaaGreat
open Go.RowKit
set_option linter.unusedVariables false
set_option linter.unusedSimpArgs false

theorem KidsAt.nil (w : World) : KidsAt w nilS [] := ⟨⟨rfl, .inl ⟨rfl, rfl⟩⟩, by simp⟩
theorem Row.nilrow (w : World) (e : TypeId) : Row w e 1 nilS 0 [] := ⟨rfl, .inl ⟨rfl, rfl⟩⟩

/-- What two whole nodes are, side by side. -/
theorem join_node {w : World} {h : Nat} {x y : Kid} (f : Fam w h [x, y]) (hn : x.n + y.n ≤ 1000) (hl : x.ls.length + y.ls.length ≤ 1000000) (hx1 : 0 < x.n) :
    Calls Tryz.prog 134 #[x.ptr, y.ptr] w fun e w' => e = .returned (.tuple #[]) ∧ ∃ x', NodeR w' h [] nodeT x' ∧ x'.b = x.b ∧ x'.n = x.n + y.n ∧ x'.ls = x.ls ++ y.ls ∧ (∀ z ∈ x'.fp, z ∈ x.fp ∨ z ∈ y.fp ∨ w.heap.size ≤ z) ∧ Kept (fun z => z ∈ x.fp) w w' := by
  have hfx := f.each x (by simp)
  have hfy := f.each y (by simp)
  have hnd := f.nodup
  have e1 : blocksOf [x, y] = x.fp ++ y.fp := by simp [blocksOf]
  rw [e1, List.nodup_append] at hnd
  obtain ⟨hndx, hndy, hxy⟩ := hnd
  have hbx := hfx.mem
  have hby := hfy.mem
  cases h with
  | zero =>
    obtain ⟨v, hx⟩ := hfx
    obtain ⟨u, hy⟩ := hfy
    have hvx : ∀ z ∈ fpv v, z ∈ x.fp := fun z hz => by rw [hx.fp]; simp [hz]
    have huy : ∀ z ∈ fpv u, z ∈ y.fp := fun z hz => by rw [hy.fp]; simp [hz]
    have hxb : x.b ∉ fpv v := fun hh => by have := hx.nodup; rw [hx.fp, List.nodup_cons] at this; exact this.1 hh
    have := nodejoin_any x.b y.b v nilS u nilS x.count y.count [] [] nodeT nodeT x.ls y.ls [] [] w hx.cells hy.cells (by rw [hx.len]; exact hx.row) (by rw [hy.len]; exact hy.row) (KidsAt.nil w) (KidsAt.nil w)
      (fun e => hxy _ hbx _ hby e) (fun z hz => ?_) (fun z hz => by simp [fpv_nil]) (by simp) (by simp [fpv_nil]) (by omega) (by simp) (by simp [itemsOf])
    · refine this.mono ?_
      rintro e w' ⟨rfl, vi', vk', hb', hr', hk', hkk, hv1, hv2, hn1, hn2⟩
      obtain rfl := hn2 rfl rfl
      have hll : x.ls.length + y.ls.length = x.n + y.n := by rw [hx.len, hy.len]
      refine ⟨rfl, ⟨x.b, x.n + y.n, x.ls ++ y.ls, x.b :: fpv vi'⟩, ⟨vi', ?_, ?_, rfl, ?_⟩, rfl, rfl, rfl, fun z hz => ?_, hkk.mono (fun z hz _ => ?_)⟩
      · simpa [itemsOf, Kid.count] using hb'
      · rw [hll] at hr'; exact hr'
      · refine List.nodup_cons.2 ⟨fun hh => ?_, fpv_nodup _⟩
        rcases hv1 _ hh with h1 | h1
        · exact hxb h1
        · have := lt_of_heap hx.cells; omega
      · rcases List.mem_cons.1 hz with rfl | hz
        · exact .inl hbx
        · exact (hv1 z hz).imp (hvx z) .inr
      · rcases hz with rfl | hz | hz
        · exact hbx
        · exact hvx z hz
        · simp [fpv_nil] at hz
    · rcases hz with hz | hz
      · exact ⟨fun e => hxb (e ▸ hz), fun e => hxy _ (hvx z hz) _ hby e, fun hh => hxy _ (hvx z hz) _ (huy z hh) rfl, by simp [fpv_nil], by simp⟩
      · simp [fpv_nil] at hz
  | succ h =>
    obtain ⟨v, ks, hx, hxl, hxf, hxn, hx0, hxk⟩ := Brn.of_node hfx
    obtain ⟨u, us, hy, hyl, hyf, hyn, hy0, hyk⟩ := Brn.of_node hfy
    obtain ⟨hxb1, hxb2, hxb3⟩ := hx.apart
    obtain ⟨hyb1, hyb2, hyb3⟩ := hy.apart
    have inx : ∀ z, z ∈ fpv v ∨ z ∈ blocksOf ks → z ∈ x.fp := fun z hz => by rw [hxf]; rcases hz with hz | hz <;> simp [hz]
    have iny : ∀ z, z ∈ fpv u ∨ z ∈ blocksOf us → z ∈ y.fp := fun z hz => by rw [hyf]; rcases hz with hz | hz <;> simp [hz]
    have kb : ∀ (l : List Kid) (hF : Fam w h l) (c : Kid), c ∈ l → c.b ∈ blocksOf l := fun l hF c hc => mem_blocksOf.2 ⟨c, hc, (hF.each c hc).mem⟩
    have hcb : ∀ c ∈ ks ++ us, c.b ∈ blocksOf ks ∨ c.b ∈ blocksOf us := fun c hc => (List.mem_append.1 hc).imp (kb _ hx.fam c) (kb _ hy.fam c)
    have := nodejoin_any x.b y.b nilS v nilS u x.count y.count [] [] nodeT nodeT [] [] ks us w hx.cells hy.cells (Row.nilrow _ _) (Row.nilrow _ _) hx.kidsAt hy.kidsAt
      (fun e => hxy _ hbx _ hby e) (fun z hz => ?_) (fun z hz => by simp [fpv_nil] at hz) (fun c hc e => ?_) (fun hh => hxy _ hbx _ (iny _ (.inl hh)) rfl) (by simp) (by omega) (by rw [itemsOf_append, List.length_append, ← hxl, ← hyl]; omega)
    · refine this.mono ?_
      rintro e w' ⟨rfl, vi', vk', hb', hr', hk', hkk, hv1, hv2, hn1, hn2⟩
      obtain rfl := hn1 rfl rfl
      have hsub : ∀ z, (z = x.b ∨ z ∈ fpv nilS ∨ z ∈ fpv v) → z ∉ blocksOf (ks ++ us) := fun z hz hh => by
        rw [blocksOf_append, List.mem_append] at hh
        rcases hz with rfl | hz | hz
        · rcases hh with hh | hh
          · exact hxb2 hh
          · exact hxy _ hbx _ (iny _ (.inr hh)) rfl
        · simp [fpv_nil] at hz
        · rcases hh with hh | hh
          · exact hxb3 z hz hh
          · exact hxy _ (inx _ (.inl hz)) _ (iny _ (.inr hh)) rfl
      have hfam0 : ∀ c ∈ ks ++ us, NodeR w h [] nodeT c := fun c hc => (List.mem_append.1 hc).elim (hx.fam.each c) (hy.fam.each c)
      have hfam : Fam w' h (ks ++ us) := ⟨fun c hc => NodeR.kept hkk h (hfam0 c hc) (fun z hz hh => hsub z hh (mem_blocksOf.2 ⟨c, hc, hz⟩)), by
        rw [blocksOf_append, List.nodup_append]
        exact ⟨hx.fam.nodup, hy.fam.nodup, fun a ha b' hb' => hxy a (inx _ (.inr ha)) b' (iny _ (.inr hb'))⟩⟩
      have hB : Brn w' h [] nodeT x.b vk' (.int .i64 ((itemsOf (ks ++ us)).length : Int)) (ks ++ us) := by
        refine ⟨by simpa using hb', hk'.row, hfam, List.nodup_cons.2 ⟨fun hh => ?_, List.nodup_append.2 ⟨fpv_nodup _, hfam.nodup, fun a ha b' hb' e => ?_⟩⟩⟩
        · rcases List.mem_append.1 hh with hh | hh
          · rcases hv2 _ hh with h1 | h1
            · exact hxb1 h1
            · have := lt_of_heap hx.cells; omega
          · exact hsub x.b (.inl rfl) hh
        · subst e
          rcases hv2 a ha with h1 | h1
          · exact hsub a (.inr (.inr h1)) hb'
          · rw [blocksOf_append, List.mem_append] at hb'
            have h2 := hx.lt; have h3 := hy.lt
            rcases hb' with hb' | hb'
            · have := h2 a (by simp [hb']); omega
            · have := h3 a (by simp [hb']); omega
      have hN := hB.node rfl (by rw [List.length_append]; omega) (fun c hc => (List.mem_append.1 hc).elim (hxk c) (hyk c))
      refine ⟨rfl, _, hN, rfl, by simp [hxn, hyn], by simp [itemsOf_append, hxl, hyl], fun z hz => ?_, hkk.mono (fun z hz _ => ?_)⟩
      · simp only [blocksOf_append, List.mem_cons, List.mem_append] at hz
        rcases hz with rfl | hz | hz | hz
        · exact .inl hbx
        · exact (hv2 z hz).imp (fun h => inx _ (.inl h)) .inr
        · exact .inl (inx _ (.inr hz))
        · exact .inr (.inl (iny _ (.inr hz)))
      · rcases hz with rfl | hz | hz
        · exact hbx
        · simp [fpv_nil] at hz
        · exact inx _ (.inl hz)
    · rcases hz with hz | hz
      · simp [fpv_nil] at hz
      · refine ⟨fun e => hxb1 (e ▸ hz), fun e => hxy _ (inx _ (.inl hz)) _ hby e, by simp [fpv_nil], fun hh => hxy _ (inx _ (.inl hz)) _ (iny _ (.inl hh)) rfl, fun c hc e => ?_⟩
        rcases hcb c hc with h1 | h1
        · exact hxb3 z hz (e ▸ h1)
        · exact hxy _ (inx _ (.inl hz)) _ (iny _ (.inr (e ▸ h1))) rfl
    · rcases hcb c hc with h1 | h1
      · exact hxb2 (e ▸ h1)
      · exact hxy _ hbx _ (iny _ (.inr (e ▸ h1))) rfl

theorem split_node {w : World} {h : Nat} {rest : List Value} {T : TypeId} {x : Kid} (hN : NodeR w h rest T x) (h2 : 2 ≤ x.n) (hn : x.n ≤ 1000) (hl : x.ls.length ≤ 1000000) :
    Calls Tryz.prog 114 #[x.ptr] w fun e w' => ∃ x1 x2, e = .returned x2.ptr ∧ NodeR w' h rest T x1 ∧ NodeR w' h [] nodeT x2 ∧ x1.b = x.b ∧ x1.n = x.n / 2 ∧ x2.n = x.n - x.n / 2 ∧ x.ls = x1.ls ++ x2.ls ∧ (x1.fp ++ x2.fp).Nodup ∧ (∀ z ∈ x1.fp ++ x2.fp, z ∈ x.fp ∨ w.heap.size ≤ z) ∧ Kept (fun z => z ∈ x.fp) w w' := by
  cases h with
  | zero =>
    obtain ⟨v, hx⟩ := hN
    refine (split_leaf w rest T x v hx (by omega) hn).mono ?_
    rintro e w' ⟨k1, k2, v1, v2, rfl, hL1, hL2, h3, h4, h5, h6, h7, h8, h9⟩
    exact ⟨k1, k2, rfl, ⟨v1, hL1⟩, ⟨v2, hL2⟩, h3, h4, h5, h6, h7, h8, h9⟩
  | succ h =>
    obtain ⟨v, ks, hx, hxl, hxf, hxn, hx0, hxk⟩ := Brn.of_node hN
    obtain ⟨hxb1, hxb2, hxb3⟩ := hx.apart
    have hbx : x.b ∈ x.fp := hN.mem
    have inx : ∀ z, z ∈ fpv v ∨ z ∈ blocksOf ks → z ∈ x.fp := fun z hz => by rw [hxf]; rcases hz with hz | hz <;> simp [hz]
    have kb : ∀ c ∈ ks, c.b ∈ blocksOf ks := fun c hc => mem_blocksOf.2 ⟨c, hc, (hx.fam.each c hc).mem⟩
    refine (split_branch w rest T x.b x.n v x.count ks hx.cells hx.kidsAt hxn (fun z hz => ⟨fun e => hxb1 (e ▸ hz), fun c hc e => hxb3 z hz (e ▸ kb c hc)⟩) (fun c hc e => hxb2 (e ▸ kb c hc)) (by omega) hn (by rw [← hxl]; omega)).mono ?_
    rintro e w' ⟨b2, v1, v2, rfl, hb1, hb2, hr1, hr2, hf1, hf2, hbs, hbn, hk⟩
    have hlt := hx.lt
    have hsplit : ks.take (x.n / 2) ++ ks.drop (x.n / 2) = ks := List.take_append_drop _ _
    have hnd := hx.fam.nodup
    rw [← hsplit, blocksOf_append, List.nodup_append] at hnd
    have hkeep : ∀ c ∈ ks, NodeR w' h [] nodeT c := fun c hc => NodeR.kept hk h (hx.fam.each c hc) (fun z hz hh => by
      have hz' := mem_blocksOf.2 ⟨c, hc, hz⟩
      rcases hh with rfl | hh
      · exact hxb2 hz'
      · exact hxb3 z hh hz')
    have hl1 : (ks.take (x.n / 2)).length = x.n / 2 := by rw [List.length_take]; omega
    have hl2 : (ks.drop (x.n / 2)).length = x.n - x.n / 2 := by rw [List.length_drop]; omega
    have sub1 : ∀ z ∈ blocksOf (ks.take (x.n / 2)), z ∈ blocksOf ks := fun z hz => by rw [← hsplit, blocksOf_append]; simp [hz]
    have sub2 : ∀ z ∈ blocksOf (ks.drop (x.n / 2)), z ∈ blocksOf ks := fun z hz => by rw [← hsplit, blocksOf_append]; simp [hz]
    have hltk : ∀ z ∈ blocksOf ks, z < w.heap.size := fun z hz => hlt z (by simp [hz])
    have hB1 : Brn w' h rest T x.b v1 (.int .i64 ((itemsOf (ks.take (x.n / 2))).length : Int)) (ks.take (x.n / 2)) := by
      refine ⟨hb1, by rw [hl1]; exact hr1, ⟨fun c hc => hkeep c (List.mem_of_mem_take hc), hnd.1⟩, List.nodup_cons.2 ⟨fun hh => ?_, List.nodup_append.2 ⟨fpv_nodup _, hnd.1, fun a ha b' hb' e => ?_⟩⟩⟩
      · rcases List.mem_append.1 hh with hh | hh
        · exact hxb1 (hf1 ▸ hh)
        · exact hxb2 (sub1 _ hh)
      · subst e; exact hxb3 a (hf1 ▸ ha) (sub1 _ hb')
    have hB2 : Brn w' h [] nodeT b2 v2 (.int .i64 ((itemsOf (ks.drop (x.n / 2))).length : Int)) (ks.drop (x.n / 2)) := by
      refine ⟨hb2, by rw [hl2]; exact hr2, ⟨fun c hc => hkeep c (List.mem_of_mem_drop hc), hnd.2.1⟩, List.nodup_cons.2 ⟨fun hh => ?_, List.nodup_append.2 ⟨fpv_nodup _, hnd.2.1, fun a ha b' hb' e => ?_⟩⟩⟩
      · rcases List.mem_append.1 hh with hh | hh
        · exact hbn hh
        · have := hltk _ (sub2 _ hh); omega
      · subst e; have := hf2 a ha; have := hltk _ (sub2 _ hb'); omega
    have hN1 := hB1.node rfl (by omega) (fun c hc => hxk c (List.mem_of_mem_take hc))
    have hN2 := hB2.node rfl (by omega) (fun c hc => hxk c (List.mem_of_mem_drop hc))
    have h01 := hlt x.b (by simp)
    have hv1lt : ∀ z ∈ fpv v1, z < w.heap.size := fun z hz => hlt z (by rw [hf1] at hz; simp [hz])
    refine ⟨_, _, rfl, hN1, hN2, rfl, hl1, hl2, by show x.ls = _ ++ _; rw [hxl, ← itemsOf_append, hsplit], List.nodup_append.2 ⟨hB1.nodup, hB2.nodup, fun a ha b' hb' e => ?_⟩, fun z hz => ?_, hk.mono (fun z hz _ => ?_)⟩
    · subst e
      simp only [List.mem_cons, List.mem_append] at ha hb'
      have ha' : a < w.heap.size := by
        rcases ha with rfl | ha | ha
        · exact h01
        · exact hv1lt a ha
        · exact hltk _ (sub1 _ ha)
      rcases hb' with rfl | hb' | hb'
      · omega
      · have := hf2 a hb'; omega
      · rcases ha with rfl | ha | ha
        · exact hxb2 (sub2 _ hb')
        · exact hxb3 a (hf1 ▸ ha) (sub2 _ hb')
        · exact hnd.2.2 a ha a hb' rfl
    · simp only [List.mem_cons, List.mem_append] at hz
      rcases hz with (rfl | hz | hz) | rfl | hz | hz
      · exact .inl hbx
      · exact .inl (inx _ (.inl (hf1 ▸ hz)))
      · exact .inl (inx _ (.inr (sub1 _ hz)))
      · exact .inr hbs
      · exact .inr (hf2 z hz)
      · exact .inl (inx _ (.inr (sub2 _ hz)))
    · rcases hz with rfl | hz
      · exact hbx
      · exact inx _ (.inl hz)
end Go.Proofs.YtdpfohgkikjeaaaGreat
