/- Part W 5 of the proof: see its parts. -/
import Derived.Deep.DeepCutAuto
import Derived.Test.YtdpfohgkikjeaaaGreatW4
/- split. -/
namespace Go.Proofs.YtdpfohgkikjeaaaGreat
open Go.RowKit
set_option linter.unusedVariables false
set_option linter.unusedSimpArgs false

theorem fpv_nodup (v : Value) : (fpv v).Nodup := by
  unfold fpv
  cases v.ownBlock <;> simp

set_option maxHeartbeats 2000000 in
set_option maxRecDepth 100000 in
theorem split_leaf (w : World) (rest : List Value) (T : TypeId) (k : Kid) (v : Value) (hL : LeafR w rest T k v) (h1 : 1 ≤ k.n) (h2 : k.n ≤ 1000) :
    Calls Tryz.prog 114 #[.pointer (some ⟨k.b, 0, none⟩)] w fun e w' => ∃ k1 k2 v1 v2, e = .returned k2.ptr ∧ LeafR w' rest T k1 v1 ∧ LeafR w' [] 88 k2 v2 ∧ k1.b = k.b ∧ k1.n = k.n / 2 ∧ k2.n = k.n - k.n / 2 ∧ k.ls = k1.ls ++ k2.ls ∧ (k1.fp ++ k2.fp).Nodup ∧ (∀ x ∈ k1.fp ++ k2.fp, x ∈ k.fp ∨ w.heap.size ≤ x) ∧ Kept (fun x => x ∈ k.fp) w w' := by
  obtain ⟨b, n, ls, fp⟩ := k
  simp only at h1 h2
  obtain ⟨hb, hr, hfp, hnd⟩ := hL
  simp only at hb hr hfp hnd
  have hll : ls.length = n := by simpa using hr.len
  rcases hr.shape with ⟨rfl, h0, _⟩ | ⟨g, c, rfl, hnc, hcm⟩
  · omega
  simp only [maxLen] at hcm
  obtain ⟨hc, hf⟩ := cells_of hb
  go_enter Tryz.func114, Tryz.ntmps114
  go_wp2
  go_quiet (fail)
  go_wp2
  rw [show (n : Int) / 2 = ((n / 2 : Nat) : Int) by omega]
  have hi0 : n / 2 < n := by omega
  generalize hie : n / 2 = i at hi0 ⊢
  have Hi : Hid (n / 2 = i) := hie
  clear hie
  have hi1 : i ≤ n := by omega
  have hi2 : ¬ (c = i) := by omega
  refine wp_region_loud (fun W => W.heap[b]? = some (.cells (.slice (some ⟨g, 0, none⟩) n c :: nilS :: (Kid.mk b n ls fp).count :: rest).toArray T (0, 0))) [0, 1, 2, 3, 4, 5, 7, 8, 9, 10, 11, 12] [6, 13, 14, 15, 16] (by kernel_rfl) (by kernel_rfl) (fun _ _ d _ _ h => by cases d <;> exact h) hb ?_
  repeat (refine wpPre_cons rfl rfl (fun W hW => (by obtain ⟨hc, _⟩ := cells_of hW; go_simp; rfl)) ?_; simp only [Act.put, List.setIfInBounds_toArray, List.set])
  refine wpPre_nil ?_
  refine wpTail_cons rfl rfl (fun K hK => ?_)
  go_wp2_with fail
  have hcell : ∀ j u, ((ls.drop i).map sv)[j]? = some u → (w.drewN (nq + 1)).cell? ⟨g, i + j, none⟩ = some u := fun j u hj => by
    obtain ⟨_, _, _, hcl⟩ := hr.cell
    rw [List.map_drop, List.getElem?_drop] at hj
    exact hcl _ u hj
  have hdl : (ls.drop i).length = n - i := by rw [List.length_drop, hll]
  refine (clone_someS g i (n - i) (c - i) ((ls.drop i).map sv) _ (by rw [List.length_map, hdl]) hcell (sv_one _) (by omega)).mono ?_
  rintro e w1 ⟨v2, rfl, hr1, hk1, hf1⟩
  have hk1' : Kept no w w1 := hk1.of_drewN
  have hb1 := hk1'.get hb (fun h => h)
  refine hK _ _ ⟨hb1, ?_⟩
  clear hK
  obtain ⟨p2, c2, rfl⟩ := hr1.slice
  refine wpTail_cons rfl rfl (fun K hK => ?_)
  go_wp2_with fail
  refine (clone_nilK 0 0 w1).mono ?_
  rintro e w1b ⟨rfl, hw⟩
  rw [hw]
  clear hw
  refine hK _ _ ⟨hb1, ?_⟩
  clear hK
  refine wpTail_cons rfl rfl (fun K hK => ?_)
  go_wp2_with fail
  refine ⟨hb1, ?_⟩
  refine wpTail_cons rfl rfl (fun K hK => ?_)
  go_wp2_with fail
  have hb2 : (w1.alloc (Obj.cells #[.slice p2 (n - i) c2, .slice none 0 0, .int .i64 0] 88)).heap[b]? = some (.cells (.slice (some ⟨g, 0, none⟩) n c :: nilS :: (Kid.mk b n ls fp).count :: rest).toArray T (0, 0)) := by
    rw [heap_alloc_lt (lt_of_heap hb1)]; exact hb1
  obtain ⟨hn2, hsz2, hk2⟩ := new1 w1 (Obj.cells #[.slice p2 (n - i) c2, .slice none 0 0, .int .i64 0] 88)
  have hr2 := hr1.alloc (Obj.cells #[.slice p2 (n - i) c2, .slice none 0 0, .int .i64 0] 88)
  have hsz1 : w.heap.size ≤ w1.heap.size := hk1'.size
  have hlt1 := hr1.lt
  refine ⟨hb2, ?_⟩
  refine wpTail_cons rfl rfl (fun K hK => ?_)
  go_wp2_with fail
  refine ⟨hb2, ?_⟩
  refine wpTail_nil ?_
  have hk2' : Kept no w (w1.alloc (Obj.cells #[.slice p2 (n - i) c2, .slice none 0 0, .int .i64 0] 88)) := hk1'.step hk2
  generalize hb' : w1.heap.size = b2 at hn2 hsz2 hlt1 hsz1 ⊢
  generalize w1.alloc (Obj.cells #[.slice p2 (n - i) c2, .slice none 0 0, .int .i64 0] 88) = w2 at hb2 hn2 hsz2 hr2 hk2' ⊢
  clear hk2 hk1 hb1 hc hf hcell hr1
  have hrg : Row w2 9 1 (.slice (some ⟨g, 0, none⟩) n c) n (ls.map sv) := hr.kept hk2' (fun _ _ h => h)
  have hbg : b ≠ g := by
    intro e; subst e
    rw [hfp] at hnd; simp [fpv_some] at hnd
  go_wp2
  have hlen : (ls.map sv).length = n := by simp [hll]
  refine wp_region_last (fun W => W.heap[b]? = some (.cells (.slice (some ⟨g, 0, none⟩) n c :: nilS :: (Kid.mk b n ls fp).count :: rest).toArray T (0, 0))) [0, 1, 2, 3, 4, 5, 6, 7, 8, 9, 10] [11, 12, 13, 14] (by kernel_rfl) (by kernel_rfl) (fun _ _ d _ _ h => by cases d <;> exact h) hb2 ?_
  repeat (refine wpPre_cons rfl rfl (fun W hW => (by obtain ⟨hc, _⟩ := cells_of hW; go_simp; rfl)) ?_; simp only [Act.put, List.setIfInBounds_toArray, List.set])
  refine wpPre_nil ?_
  refine wpTail2_cons rfl rfl (fun K hK => ?_)
  go_wp2_with fail
  refine (deleteS _ n i n _ _ (ls.map sv) _ hrg.drew rfl rfl hi1 (Nat.le_refl _) (sv_one _)).mono ?_
  rintro e w3 ⟨v1, rfl, hr3', hg3, hfp3, _⟩
  have hr3 : Row w3 9 1 v1 i ((ls.take i).map sv) := by
    have e : (ls.map sv).take i ++ (ls.map sv).drop n = (ls.take i).map sv := by
      rw [List.drop_eq_nil_of_le (by omega), List.append_nil, List.map_take]
    rw [e, Nat.sub_self, Nat.add_zero] at hr3'
    exact hr3'
  clear hr3'
  have hb3 : w3.heap[b]? = some (.cells (.slice (some ⟨g, 0, none⟩) n c :: nilS :: (Kid.mk b n ls fp).count :: rest).toArray T (0, 0)) := hg3.1.get (w := w2.drew) hb2 (fun h => hbg (by simpa [fpv_some] using h))
  refine hK _ _ ⟨hb3, ?_⟩
  clear hK
  obtain ⟨hc3, hf3⟩ := cells_of hb3
  refine wpTail2_last (by kernel_rfl) rfl rfl (fun K hK => ?_)
  go_wp2_with fail
  refine wpTail2_last (by kernel_rfl) rfl rfl (fun K hK => ?_)
  go_wp2_with fail
  refine wpTail2_last (by kernel_rfl) rfl rfl (fun K hK => ?_)
  obtain ⟨p1, c1, rfl⟩ := hr3.slice
  go_wp2_with fail
  refine wpTail2_nil ?_
  have hbw := lt_of_heap hb
  have hb4 : (w3.setCell ⟨b, 0, none⟩ (.slice p1 i c1)).heap[b]? = some (.cells (.slice p1 i c1 :: nilS :: (Kid.mk b n ls fp).count :: rest).toArray T (0, 0)) := by rw [heap_set_same hb3]; simp
  have hk4 : Kept (fun x => x = b ∨ x = g) w (w3.setCell ⟨b, 0, none⟩ (.slice p1 i c1)) :=
    ((hk2'.mono (fun _ h _ => h.elim)).step' hg3.1.of_drew (fun x hx _ => .inr (by simpa [fpv_some] using hx))).setCell (p := ⟨b, 0, none⟩) (fun _ => .inl rfl) _
  have hk4' : Kept (fun x => x = b ∨ x = g) w2 (w3.setCell ⟨b, 0, none⟩ (.slice p1 i c1)) :=
    (hg3.1.of_drew.mono (fun x hx _ => .inr (by simpa [fpv_some] using hx))).setCell (p := ⟨b, 0, none⟩) (fun _ => .inl rfl) _
  have hr4 : Row (w3.setCell ⟨b, 0, none⟩ (.slice p1 i c1)) 9 1 (.slice p1 i c1) i ((ls.take i).map sv) :=
    hr3.kept (S := fun k => k = b) Kept.cell1 (fun x hx e => by subst e; rw [hfp3, fpv_some] at hx; exact hbg (by simpa using hx))
  have hgl : g < w.heap.size := by have := hr.lt g (by simp [fpv_some]); exact this
  have hne2 : b2 ≠ b := by omega
  have hne2g : b2 ≠ g := by omega
  have hn4 := hk4'.get hn2 (by rintro (h | h) <;> omega)
  have hr24 : Row (w3.setCell ⟨b, 0, none⟩ (.slice p1 i c1)) 9 1 (.slice p2 (n - i) c2) (n - i) ((ls.drop i).map sv) :=
    hr2.kept hk4' (fun x hx h => by have := hf1 x hx; have h2 : w.heap.size ≤ x := this; rcases h with h | h <;> omega)
  have hsz4 : w2.heap.size ≤ (w3.setCell ⟨b, 0, none⟩ (.slice p1 i c1)).heap.size := hk4'.size
  generalize w3.setCell ⟨b, 0, none⟩ (.slice p1 i c1) = w4 at hb4 hk4 hr4 hn4 hr24 hsz4 ⊢
  clear hc3 hf3 hb3 hr3 hg3 hk4' hr2 hn2 hb2 hrg
  go_wp2
  refine wp_region_last (fun W => W.heap[b]? = some (.cells (.slice p1 i c1 :: nilS :: (Kid.mk b n ls fp).count :: rest).toArray T (0, 0))) [0, 1, 2, 3, 4, 5, 6, 7, 8, 9, 10] [11, 12, 13, 14] (by kernel_rfl) (by kernel_rfl) (fun _ _ d _ _ h => by cases d <;> exact h) hb4 ?_
  repeat (refine wpPre_cons rfl rfl (fun W hW => (by obtain ⟨hc, _⟩ := cells_of hW; go_simp; rfl)) ?_; simp only [Act.put, List.setIfInBounds_toArray, List.set])
  refine wpPre_nil ?_
  refine wpTail2_cons rfl rfl (fun K hK => ?_)
  go_wp2_with fail
  refine (deleteK nilS 0 0 0 _ _ [] w4.drew ⟨rfl, .inl ⟨rfl, rfl⟩⟩ rfl rfl (Nat.le_refl _) (Nat.le_refl _) (by simp)).mono ?_
  rintro e w5 ⟨v5, rfl, _, hg5, _, hnil⟩
  obtain rfl := hnil rfl
  have hk5 : Kept no w4 w5 := hg5.1.of_drew.mono (fun x hx _ => by simp [fpv_nil] at hx)
  have hb5 := hk5.get hb4 (fun h => h)
  refine hK _ _ ⟨hb5, ?_⟩
  clear hK hnil hg5
  obtain ⟨hc5, hf5⟩ := cells_of hb5
  refine wpTail2_last (by kernel_rfl) rfl rfl (fun K hK => ?_)
  go_wp2_with fail
  refine wpTail2_last (by kernel_rfl) rfl rfl (fun K hK => ?_)
  go_wp2_with fail
  refine wpTail2_last (by kernel_rfl) rfl rfl (fun K hK => ?_)
  go_wp2_with fail
  refine wpTail2_nil ?_
  have hb6 : (w5.setCell ⟨b, 1, none⟩ nilS).heap[b]? = some (.cells (.slice p1 i c1 :: nilS :: (Kid.mk b n ls fp).count :: rest).toArray T (0, 0)) := by rw [heap_set_same hb5]; simp
  have hk46 : Kept (fun x => x = b) w4 (w5.setCell ⟨b, 1, none⟩ nilS) := Kept.setCell (S := fun x => x = b) (hk5.mono (fun _ h _ => h.elim)) (p := ⟨b, 1, none⟩) (fun _ => rfl) _
  have hk6 : Kept (fun x => x = b ∨ x = g) w (w5.setCell ⟨b, 1, none⟩ nilS) := hk4.step' hk46 (fun x hx _ => .inl hx)
  have hbn : b ∉ fpv (.slice p1 i c1) := by rw [hfp3, fpv_some]; simpa using hbg
  have hbn2 : b ∉ fpv (.slice p2 (n - i) c2) := fun hx => by have := hf1 b hx; have h2 : w.heap.size ≤ b := this; omega
  have hr6 := hr4.kept hk46 (fun x hx e => hbn (e ▸ hx))
  have hr26 := hr24.kept hk46 (fun x hx e => hbn2 (e ▸ hx))
  have hn6 := hk46.get hn4 hne2
  generalize w5.setCell ⟨b, 1, none⟩ nilS = w6 at hb6 hk6 hr6 hn6 hr26 ⊢
  clear hc5 hf5 hb5 hk5 hb4 hk4 hr4 hr24 hn4 hk46
  have hkn : ∀ w, KidsAt w nilS [] := fun w => ⟨⟨rfl, .inl ⟨rfl, rfl⟩⟩, by simp⟩
  go_wp2_with fail
  refine (tally_any b _ _ _ rest T [] p1 i c1 rfl w6 hb6 (hkn _) (by simp) (by simp [fpv_nil]) (by simp) (by simp [itemsOf]) (by omega)).mono ?_
  rintro e w7 ⟨rfl, hb7, hk7⟩
  have hn7 := hk7.get hn6 hne2
  have hr7 := hr6.kept hk7 (fun x hx e => hbn (e ▸ hx))
  have hr27 := hr26.kept hk7 (fun x hx e => hbn2 (e ▸ hx))
  have hk7' : Kept (fun x => x = b ∨ x = g) w w7 := hk6.step' hk7 (fun x hx _ => .inl hx)
  clear hk7 hn6 hr6 hr26 hb6 hk6
  go_wp2_with fail
  refine (tally_any b2 _ _ _ [] 88 [] p2 (n - i) c2 rfl w7 hn7 (hkn _) (by simp) (by simp [fpv_nil]) (by simp) (by simp [itemsOf]) (by omega)).mono ?_
  rintro e w8 ⟨rfl, hn8, hk8⟩
  have hb8 := hk8.get hb7 (fun e => hne2 e.symm)
  have hb2n : b2 ∉ fpv (.slice p1 i c1) := by rw [hfp3, fpv_some]; simpa using hne2g
  have hb2n2 : b2 ∉ fpv (.slice p2 (n - i) c2) := fun hx => by have := hlt1 b2 hx; omega
  have hr8 := hr7.kept hk8 (fun x hx e => hb2n (e ▸ hx))
  have hr28 := hr27.kept hk8 (fun x hx e => hb2n2 (e ▸ hx))
  go_wp2
  go_ret
  have hl1 : (ls.take i).length = i := by rw [List.length_take]; omega
  refine ⟨⟨b, i, ls.take i, b :: fpv (.slice p1 i c1)⟩, ⟨b2, n - i, ls.drop i, b2 :: fpv (.slice p2 (n - i) c2)⟩, .slice p1 i c1, .slice p2 (n - i) c2, rfl, ⟨?_, hr8, rfl, ?_⟩, ⟨?_, hr28, rfl, ?_⟩, rfl, Hi.out.symm, by rw [Hi.out], (List.take_append_drop i ls).symm, ?_, ?_, ?_⟩
  · simpa [Kid.count, hl1, itemsOf] using hb8
  · rw [hfp3, fpv_some]; simpa using hbg
  · simpa [Kid.count, hdl, itemsOf] using hn8
  · exact List.nodup_cons.2 ⟨hb2n2, fpv_nodup _⟩
  · have hdis : ∀ x ∈ fpv (.slice p2 (n - i) c2), x ≠ b ∧ x ≠ g := fun x hx => by have := hf1 x hx; have h2 : w.heap.size ≤ x := this; omega
    show ((b :: fpv (.slice p1 i c1)) ++ (b2 :: fpv (.slice p2 (n - i) c2))).Nodup
    rw [hfp3, fpv_some, List.nodup_append]
    refine ⟨by simpa using hbg, List.nodup_cons.2 ⟨hb2n2, fpv_nodup _⟩, fun x hx y hy => ?_⟩
    have hx' : x = b ∨ x = g := by simpa using hx
    rcases List.mem_cons.1 hy with rfl | hy
    · rcases hx' with h | h <;> omega
    · have := hdis y hy; rcases hx' with h | h <;> omega
  · intro x hx
    show x ∈ fp ∨ _
    have hx' : x = b ∨ x = g ∨ x = b2 ∨ x ∈ fpv (.slice p2 (n - i) c2) := by
      have : x ∈ (b :: fpv (.slice p1 i c1)) ++ (b2 :: fpv (.slice p2 (n - i) c2)) := hx
      rw [hfp3, fpv_some] at this
      simpa [or_assoc] using this
    rw [hfp, fpv_some]
    rcases hx' with h | h | h | h
    · exact .inl (by simp [h])
    · exact .inl (by simp [h])
    · exact .inr (by omega)
    · exact .inr (hf1 x h)
  · refine (hk7'.step' hk8 (fun x hx hlt => by omega)).mono (fun x hx _ => ?_)
    show x ∈ fp
    rw [hfp, fpv_some]
    simpa using hx
end Go.Proofs.YtdpfohgkikjeaaaGreat
/- split of a branch. -/
namespace Go.Proofs.YtdpfohgkikjeaaaGreat
open Go.RowKit
set_option linter.unusedVariables false
set_option linter.unusedSimpArgs false

set_option maxHeartbeats 2000000 in
set_option maxRecDepth 100000 in
theorem split_branch (w : World) (rest : List Value) (T : TypeId) (b n : Nat) (v cnt : Value) (ks : List Kid) (hb : w.heap[b]? = some (.cells (nilS :: v :: cnt :: rest).toArray T (0, 0))) (hks : KidsAt w v ks) (hll : ks.length = n) (hdk : ∀ x ∈ fpv v, x ≠ b ∧ ∀ c ∈ ks, c.b ≠ x) (hkb : ∀ c ∈ ks, c.b ≠ b) (h1 : 1 ≤ n) (h2 : n ≤ 1000) (hil : (itemsOf ks).length ≤ 1099511627776) :
    Calls Tryz.prog 114 #[.pointer (some ⟨b, 0, none⟩)] w fun e w' => ∃ b2 v1 v2, e = .returned (.pointer (some ⟨b2, 0, none⟩)) ∧
      w'.heap[b]? = some (.cells (nilS :: v1 :: .int .i64 ((itemsOf (ks.take (n / 2))).length : Int) :: rest).toArray T (0, 0)) ∧ w'.heap[b2]? = some (.cells #[nilS, v2, .int .i64 ((itemsOf (ks.drop (n / 2))).length : Int)] 88 (0, 0)) ∧
      Row w' 141 1 v1 (n / 2) ((ks.take (n / 2)).map Kid.ptr) ∧ Row w' 141 1 v2 (n - n / 2) ((ks.drop (n / 2)).map Kid.ptr) ∧ fpv v1 = fpv v ∧ (∀ x ∈ fpv v2, w.heap.size ≤ x) ∧ w.heap.size ≤ b2 ∧ b2 ∉ fpv v2 ∧ Kept (fun x => x = b ∨ x ∈ fpv v) w w' := by
  have hr : Row w 141 1 v n (ks.map Kid.ptr) := hll ▸ hks.row
  rcases hr.shape with ⟨rfl, h0, _⟩ | ⟨g, c, rfl, hnc, hcm⟩
  · omega
  simp only [maxLen] at hcm
  have hbg : b ≠ g := fun e => (hdk g (by simp [fpv_some])).1 e.symm
  obtain ⟨hc, hf⟩ := cells_of hb
  go_enter Tryz.func114, Tryz.ntmps114
  go_wp2
  go_quiet (fail)
  go_wp2
  rw [show (n : Int) / 2 = ((n / 2 : Nat) : Int) by omega]
  have hi0 : n / 2 < n := by omega
  generalize hie : n / 2 = i at hi0 ⊢
  have Hi : Hid (n / 2 = i) := hie
  clear hie
  have hi1 : i ≤ n := by omega
  have hi2 : ¬ (c = i) := by omega
  refine wp_region_loud (fun W => W.heap[b]? = some (.cells (nilS :: .slice (some ⟨g, 0, none⟩) n c :: cnt :: rest).toArray T (0, 0))) [0, 1, 2, 3, 4, 5, 7, 8, 9, 10, 11, 12] [6, 13, 14, 15, 16] (by kernel_rfl) (by kernel_rfl) (fun _ _ d _ _ h => by cases d <;> exact h) hb ?_
  repeat (refine wpPre_cons rfl rfl (fun W hW => (by obtain ⟨hc, _⟩ := cells_of hW; go_simp; rfl)) ?_; simp only [Act.put, List.setIfInBounds_toArray, List.set])
  refine wpPre_nil ?_
  refine wpTail_cons rfl rfl (fun K hK => ?_)
  go_wp2_with fail
  refine (clone_nilS 0 0 _).mono ?_
  rintro e w1b ⟨rfl, hw⟩
  rw [hw]
  clear hw
  refine hK _ _ ⟨hb, ?_⟩
  clear hK
  refine wpTail_cons rfl rfl (fun K hK => ?_)
  go_wp2_with fail
  have hcell : ∀ j u, ((ks.drop i).map Kid.ptr)[j]? = some u → (w.drewN (nq + 1)).cell? ⟨g, i + j, none⟩ = some u := fun j u hj => by
    obtain ⟨_, _, _, hcl⟩ := hr.cell
    rw [List.map_drop, List.getElem?_drop] at hj
    exact hcl _ u hj
  have hdl : (ks.drop i).length = n - i := by rw [List.length_drop, hll]
  refine (clone_someK g i (n - i) (c - i) ((ks.drop i).map Kid.ptr) _ (by rw [List.length_map, hdl]) hcell (ptr_one _) (by omega)).mono ?_
  rintro e w1 ⟨v2, rfl, hr1, hk1, hf1⟩
  have hk1' : Kept no w w1 := hk1.of_drewN
  have hb1 := hk1'.get hb (fun h => h)
  refine hK _ _ ⟨hb1, ?_⟩
  clear hK
  obtain ⟨p2, c2, rfl⟩ := hr1.slice
  refine wpTail_cons rfl rfl (fun K hK => ?_)
  go_wp2_with fail
  refine ⟨hb1, ?_⟩
  refine wpTail_cons rfl rfl (fun K hK => ?_)
  go_wp2_with fail
  have hb2 : (w1.alloc (Obj.cells #[.slice none 0 0, .slice p2 (n - i) c2, .int .i64 0] 88)).heap[b]? = some (.cells (nilS :: .slice (some ⟨g, 0, none⟩) n c :: cnt :: rest).toArray T (0, 0)) := by
    rw [heap_alloc_lt (lt_of_heap hb1)]; exact hb1
  obtain ⟨hn2, hsz2, hk2⟩ := new1 w1 (Obj.cells #[.slice none 0 0, .slice p2 (n - i) c2, .int .i64 0] 88)
  have hr2 := hr1.alloc (Obj.cells #[.slice none 0 0, .slice p2 (n - i) c2, .int .i64 0] 88)
  have hsz1 : w.heap.size ≤ w1.heap.size := hk1'.size
  have hlt1 := hr1.lt
  refine ⟨hb2, ?_⟩
  refine wpTail_cons rfl rfl (fun K hK => ?_)
  go_wp2_with fail
  refine ⟨hb2, ?_⟩
  refine wpTail_nil ?_
  have hk2' : Kept no w (w1.alloc (Obj.cells #[.slice none 0 0, .slice p2 (n - i) c2, .int .i64 0] 88)) := hk1'.step hk2
  generalize hb' : w1.heap.size = b2 at hn2 hsz2 hlt1 hsz1 ⊢
  generalize w1.alloc (Obj.cells #[.slice none 0 0, .slice p2 (n - i) c2, .int .i64 0] 88) = w2 at hb2 hn2 hsz2 hr2 hk2' ⊢
  clear hk2 hk1 hb1 hc hf hcell hr1
  have hrg : Row w2 141 1 (.slice (some ⟨g, 0, none⟩) n c) n (ks.map Kid.ptr) := hr.kept hk2' (fun _ _ h => h)
  go_wp2
  have hlen : (ks.map Kid.ptr).length = n := by simp [hll]
  have hbw := lt_of_heap hb
  have hgl : g < w.heap.size := by have := hr.lt g (by simp [fpv_some]); exact this
  have hne2 : b2 ≠ b := by omega
  have hne2g : b2 ≠ g := by omega
  have hcl : ∀ x ∈ ks, x.b < w.heap.size := fun x hx => by obtain ⟨_, _, _, _, hh⟩ := hks.counts x hx; exact lt_of_heap hh
  -- the items: none
  refine wp_region_last (fun W => W.heap[b]? = some (.cells (nilS :: .slice (some ⟨g, 0, none⟩) n c :: cnt :: rest).toArray T (0, 0))) [0, 1, 2, 3, 4, 5, 6, 7, 8, 9, 10] [11, 12, 13, 14] (by kernel_rfl) (by kernel_rfl) (fun _ _ d _ _ h => by cases d <;> exact h) hb2 ?_
  repeat (refine wpPre_cons rfl rfl (fun W hW => (by obtain ⟨hc, _⟩ := cells_of hW; go_simp; rfl)) ?_; simp only [Act.put, List.setIfInBounds_toArray, List.set])
  refine wpPre_nil ?_
  refine wpTail2_cons rfl rfl (fun K hK => ?_)
  go_wp2_with fail
  refine (deleteS nilS 0 0 0 _ _ [] w2.drew ⟨rfl, .inl ⟨rfl, rfl⟩⟩ rfl rfl (Nat.le_refl _) (Nat.le_refl _) (by simp)).mono ?_
  rintro e w3 ⟨v5, rfl, _, hg5, _, hnil⟩
  obtain rfl := hnil rfl
  have hk3 : Kept no w2 w3 := hg5.1.of_drew.mono (fun x hx _ => by simp [fpv_nil] at hx)
  have hb3 := hk3.get hb2 (fun h => h)
  refine hK _ _ ⟨hb3, ?_⟩
  clear hK hnil hg5
  obtain ⟨hc5, hf5⟩ := cells_of hb3
  refine wpTail2_last (by kernel_rfl) rfl rfl (fun K hK => ?_)
  go_wp2_with fail
  refine wpTail2_last (by kernel_rfl) rfl rfl (fun K hK => ?_)
  go_wp2_with fail
  refine wpTail2_last (by kernel_rfl) rfl rfl (fun K hK => ?_)
  go_wp2_with fail
  refine wpTail2_nil ?_
  have hb4 : (w3.setCell ⟨b, 0, none⟩ nilS).heap[b]? = some (.cells (nilS :: .slice (some ⟨g, 0, none⟩) n c :: cnt :: rest).toArray T (0, 0)) := by rw [heap_set_same hb3]; simp
  have hk24 : Kept (fun x => x = b) w2 (w3.setCell ⟨b, 0, none⟩ nilS) := Kept.setCell (S := fun x => x = b) (hk3.mono (fun _ h _ => h.elim)) (p := ⟨b, 0, none⟩) (fun _ => rfl) _
  have hk4 : Kept (fun x => x = b) w (w3.setCell ⟨b, 0, none⟩ nilS) := Kept.step (S := fun x => x = b) (hk2'.mono (fun _ h _ => h.elim)) hk24
  have hbn2 : b ∉ fpv (.slice p2 (n - i) c2) := fun hx => by have := hf1 b hx; have h2 : w.heap.size ≤ b := this; omega
  have hr4 := hrg.kept hk24 (fun x hx e => by subst e; rw [fpv_some] at hx; exact hbg (by simpa using hx))
  have hr24 := hr2.kept hk24 (fun x hx e => hbn2 (e ▸ hx))
  have hn4 := hk24.get hn2 hne2
  have hsz4 : w2.heap.size ≤ (w3.setCell ⟨b, 0, none⟩ nilS).heap.size := hk24.size
  generalize w3.setCell ⟨b, 0, none⟩ nilS = w4 at hb4 hk4 hr4 hr24 hn4 hsz4 ⊢
  clear hc5 hf5 hb3 hk3 hk24 hrg hr2 hn2 hb2
  go_wp2
  -- the kids
  refine wp_region_last (fun W => W.heap[b]? = some (.cells (nilS :: .slice (some ⟨g, 0, none⟩) n c :: cnt :: rest).toArray T (0, 0))) [0, 1, 2, 3, 4, 5, 6, 7, 8, 9, 10] [11, 12, 13, 14] (by kernel_rfl) (by kernel_rfl) (fun _ _ d _ _ h => by cases d <;> exact h) hb4 ?_
  repeat (refine wpPre_cons rfl rfl (fun W hW => (by obtain ⟨hc, _⟩ := cells_of hW; go_simp; rfl)) ?_; simp only [Act.put, List.setIfInBounds_toArray, List.set])
  refine wpPre_nil ?_
  refine wpTail2_cons rfl rfl (fun K hK => ?_)
  go_wp2_with fail
  refine (deleteK _ n i n _ _ (ks.map Kid.ptr) _ hr4.drew rfl rfl hi1 (Nat.le_refl _) (ptr_one _)).mono ?_
  rintro e w5 ⟨v1, rfl, hr5', hg5, hfp5, _⟩
  have hr5 : Row w5 141 1 v1 i ((ks.take i).map Kid.ptr) := by
    have e : (ks.map Kid.ptr).take i ++ (ks.map Kid.ptr).drop n = (ks.take i).map Kid.ptr := by
      rw [List.drop_eq_nil_of_le (by omega), List.append_nil, List.map_take]
    rw [e, Nat.sub_self, Nat.add_zero] at hr5'
    exact hr5'
  clear hr5'
  have hb5 : w5.heap[b]? = some (.cells (nilS :: .slice (some ⟨g, 0, none⟩) n c :: cnt :: rest).toArray T (0, 0)) := hg5.1.get (w := w4.drew) hb4 (fun h => hbg (by simpa [fpv_some] using h))
  refine hK _ _ ⟨hb5, ?_⟩
  clear hK
  obtain ⟨hc5, hf5⟩ := cells_of hb5
  refine wpTail2_last (by kernel_rfl) rfl rfl (fun K hK => ?_)
  go_wp2_with fail
  refine wpTail2_last (by kernel_rfl) rfl rfl (fun K hK => ?_)
  go_wp2_with fail
  refine wpTail2_last (by kernel_rfl) rfl rfl (fun K hK => ?_)
  obtain ⟨p1, c1, rfl⟩ := hr5.slice
  go_wp2_with fail
  refine wpTail2_nil ?_
  have hb6 : (w5.setCell ⟨b, 1, none⟩ (.slice p1 i c1)).heap[b]? = some (.cells (nilS :: .slice p1 i c1 :: cnt :: rest).toArray T (0, 0)) := by rw [heap_set_same hb5]; simp
  have hk46 : Kept (fun x => x = b ∨ x = g) w4 (w5.setCell ⟨b, 1, none⟩ (.slice p1 i c1)) := (hg5.1.of_drew.mono (fun x hx _ => .inr (by simpa [fpv_some] using hx))).setCell (p := ⟨b, 1, none⟩) (fun _ => .inl rfl) _
  have hk6 : Kept (fun x => x = b ∨ x = g) w (w5.setCell ⟨b, 1, none⟩ (.slice p1 i c1)) := (hk4.mono (fun x hx _ => .inl hx)).step hk46
  have hbn : b ∉ fpv (.slice p1 i c1) := by rw [hfp5, fpv_some]; simpa using hbg
  have hr6 : Row (w5.setCell ⟨b, 1, none⟩ (.slice p1 i c1)) 141 1 (.slice p1 i c1) i ((ks.take i).map Kid.ptr) := hr5.kept (S := fun k => k = b) Kept.cell1 (fun x hx e => hbn (e ▸ hx))
  have hr26 := hr24.kept hk46 (fun x hx h => by have := hf1 x hx; have h2 : w.heap.size ≤ x := this; rcases h with h | h <;> omega)
  have hn6 := hk46.get hn4 (by rintro (h | h) <;> omega)
  generalize w5.setCell ⟨b, 1, none⟩ (.slice p1 i c1) = w6 at hb6 hk6 hr6 hn6 hr26 ⊢
  clear hc5 hf5 hb5 hg5 hb4 hk4 hr4 hr24 hn4 hk46 hr5
  have hkn : ∀ x ∈ ks, ¬ (x.b = b ∨ x.b = g) := fun x hx h => h.elim (hkb x hx) ((hdk g (by simp [fpv_some])).2 x hx)
  have hcnt6 : ∀ x ∈ ks, ∃ a b' r T, w6.heap[x.b]? = some (.cells (a :: b' :: x.count :: r).toArray T (0, 0)) := fun x hx => by
    obtain ⟨a, b', r, T', hh⟩ := hks.counts x hx
    exact ⟨a, b', r, T', hk6.get hh (hkn x hx)⟩
  have hl1 : (ks.take i).length = i := by rw [List.length_take]; omega
  have hk1a : KidsAt w6 (.slice p1 i c1) (ks.take i) := ⟨by rw [hl1]; exact hr6, fun x hx => hcnt6 x (List.mem_of_mem_take hx)⟩
  have hi1l : (itemsOf (ks.take i)).length ≤ 1099511627776 ∧ (itemsOf (ks.drop i)).length ≤ 1099511627776 := by
    have e : itemsOf ks = itemsOf (ks.take i) ++ itemsOf (ks.drop i) := by rw [← itemsOf_append, List.take_append_drop]
    rw [e, List.length_append] at hil; omega
  go_wp2_with fail
  refine (tally_any b _ _ _ rest T (ks.take i) none 0 0 rfl w6 hb6 hk1a (fun x hx => hkb x (List.mem_of_mem_take hx)) hbn (by omega) hi1l.1 (by omega)).mono ?_
  rintro e w7 ⟨rfl, hb7, hk7⟩
  have hn7 := hk7.get hn6 hne2
  have hr7 := hr6.kept hk7 (fun x hx e => hbn (e ▸ hx))
  have hr27 := hr26.kept hk7 (fun x hx e => hbn2 (e ▸ hx))
  have hk7' : Kept (fun x => x = b ∨ x = g) w w7 := hk6.step' hk7 (fun x hx _ => .inl hx)
  have hb2n2 : b2 ∉ fpv (.slice p2 (n - i) c2) := fun hx => by have := hlt1 b2 hx; omega
  have hk2a : KidsAt w7 (.slice p2 (n - i) c2) (ks.drop i) := ⟨by rw [hdl]; exact hr27, fun x hx => by
    obtain ⟨a, b', r, T', hh⟩ := hcnt6 x (List.mem_of_mem_drop hx)
    exact ⟨a, b', r, T', hk7.get hh (hkb x (List.mem_of_mem_drop hx))⟩⟩
  clear hk7 hn6 hr6 hr26 hb6 hk6
  go_wp2_with fail
  refine (tally_any b2 _ _ _ [] 88 (ks.drop i) none 0 0 rfl w7 hn7 hk2a (fun x hx => by have := hcl x (List.mem_of_mem_drop hx); omega) hb2n2 (by omega) hi1l.2 (by omega)).mono ?_
  rintro e w8 ⟨rfl, hn8, hk8⟩
  have hb8 := hk8.get hb7 (fun e => hne2 e.symm)
  have hb2n : b2 ∉ fpv (.slice p1 i c1) := by rw [hfp5, fpv_some]; simpa using hne2g
  have hr8 := hr7.kept hk8 (fun x hx e => hb2n (e ▸ hx))
  have hr28 := hr27.kept hk8 (fun x hx e => hb2n2 (e ▸ hx))
  go_wp2
  go_ret
  rw [Hi.out]
  refine ⟨b2, .slice p1 i c1, .slice p2 (n - i) c2, rfl, by simpa using hb8, by simpa using hn8, hr8, hr28, hfp5, hf1, by omega, hb2n2, ?_⟩
  refine (hk7'.step' hk8 (fun x hx hlt => by omega)).mono (fun x hx _ => ?_)
  rw [fpv_some]
  simpa using hx
end Go.Proofs.YtdpfohgkikjeaaaGreat
/- Nodes as wholes: fill, join, split; a family of kids. -/
namespace Go.Proofs.YtdpfohgkikjeaaaGreat
open Go.RowKit
set_option linter.unusedVariables false
set_option linter.unusedSimpArgs false

abbrev nodeT : TypeId := 88

theorem LeafR.kid {w rest T b ls v fp} {n : Nat} (hc : w.heap[b]? = some (.cells (v :: nilS :: .int .i64 (ls.length : Int) :: rest).toArray T (0, 0))) (hr : Row w 9 1 v n (ls.map sv)) (hfp : fp = b :: fpv v) (hnd : fp.Nodup) : NodeR w 0 rest T ⟨b, n, ls, fp⟩ := ⟨v, hc, hr, hfp, hnd⟩

theorem itemsOf_mem {ks : List Kid} {c : Kid} (h : c ∈ ks) : c.ls.length ≤ (itemsOf ks).length := by
  obtain ⟨A, B, rfl⟩ := List.append_of_mem h
  simp only [itemsOf_append, List.length_append]
  have : itemsOf (c :: B) = c.ls ++ itemsOf B := by simp [itemsOf]
  rw [this, List.length_append]; omega

theorem NodeR.fill {w : World} {h : Nat} {rest T k} (hN : NodeR w h rest T k) (hn : k.n ≤ 17) :
    Calls Tryz.prog 113 #[k.ptr] w fun e w' => e = .returned (.float .f64 (fillBits k.n)) ∧ ∃ j, w' = w.drewN j := by
  cases h with
  | zero =>
    obtain ⟨v, hl⟩ := hN
    obtain ⟨p, c, rfl⟩ := hl.row.slice
    have := fill_any k.b (.slice p k.n c) nilS k.count rest T w hl.cells p none k.n 0 c 0 rfl rfl (by omega)
    simpa [Kid.ptr] using this
  | succ h =>
    obtain ⟨_, v, ks, hb, _⟩ := hN
    obtain ⟨p, c, rfl⟩ := hb.row.slice
    have := fill_any k.b nilS (.slice p k.n c) k.count rest T w hb.cells none p 0 k.n 0 c rfl rfl (by omega)
    simpa [Kid.ptr] using this

/-! ### A family of kids -/
structure Fam (w : World) (h : Nat) (ks : List Kid) : Prop where
  each : ∀ c ∈ ks, NodeR w h [] nodeT c
  nodup : (blocksOf ks).Nodup

theorem blocksOf_append (a b : List Kid) : blocksOf (a ++ b) = blocksOf a ++ blocksOf b := by simp [blocksOf]
theorem blocksOf_one (c : Kid) : blocksOf [c] = c.fp := by simp [blocksOf]
theorem Fam.lt {w h ks} (f : Fam w h ks) : ∀ x ∈ blocksOf ks, x < w.heap.size := fun x hx => by
  obtain ⟨c, hc, hx⟩ := mem_blocksOf.1 hx
  exact (f.each c hc).lt h x hx

theorem Fam.splice {w w' : World} {h : Nat} {A M M' B : List Kid} {S : Blocks} (f : Fam w h (A ++ M ++ B)) (hk : Kept S w w') (hS : ∀ x, S x → x < w.heap.size → x ∈ blocksOf M) (g : Fam w' h M') (hsub : ∀ x ∈ blocksOf M', x ∈ blocksOf M ∨ w.heap.size ≤ x) :
    Fam w' h (A ++ M' ++ B) ∧ ∀ x ∈ blocksOf (A ++ M' ++ B), x ∈ blocksOf (A ++ M ++ B) ∨ w.heap.size ≤ x := by
  have hlt := f.lt
  have hnd := f.nodup
  simp only [blocksOf_append, List.nodup_append, List.mem_append] at hnd hlt
  obtain ⟨⟨hA, hM, hAM⟩, hB, hAB⟩ := hnd
  have keep : ∀ c, c ∈ A ∨ c ∈ B → NodeR w' h [] nodeT c := fun c hc => by
    refine NodeR.kept hk h (f.each c (by rcases hc with hc | hc <;> simp [hc])) (fun x hx hs => ?_)
    rcases hc with hc | hc
    · have hx' : x ∈ blocksOf A := mem_blocksOf.2 ⟨c, hc, hx⟩
      exact hAM x hx' x (hS x hs (hlt x (.inl (.inl hx')))) rfl
    · have hx' : x ∈ blocksOf B := mem_blocksOf.2 ⟨c, hc, hx⟩
      exact hAB x (.inr (hS x hs (hlt x (.inr hx')))) x hx' rfl
  refine ⟨⟨fun c hc => ?_, ?_⟩, fun x hx => ?_⟩
  · simp only [List.mem_append] at hc
    rcases hc with (hc | hc) | hc
    · exact keep c (.inl hc)
    · exact g.each c hc
    · exact keep c (.inr hc)
  · simp only [blocksOf_append, List.nodup_append, List.mem_append]
    refine ⟨⟨hA, g.nodup, fun x hx y hy e => ?_⟩, hB, fun x hx y hy e => ?_⟩
    · subst e
      rcases hsub x hy with h1 | h1
      · exact hAM x hx x h1 rfl
      · have := hlt x (.inl (.inl hx)); omega
    · subst e
      rcases hx with hx | hx
      · exact hAB x (.inl hx) x hy rfl
      · rcases hsub x hx with h1 | h1
        · exact hAB x (.inr h1) x hy rfl
        · have := hlt x (.inr hy); omega
  · simp only [blocksOf_append, List.mem_append] at hx ⊢
    rcases hx with (hx | hx) | hx
    · exact .inl (.inl (.inl hx))
    · exact (hsub x hx).imp (fun h => .inl (.inr h)) id
    · exact .inl (.inr hx)

/-- A branch, its count apart. -/
structure Brn (w : World) (h : Nat) (rest : List Value) (T : TypeId) (b : Nat) (v cnt : Value) (ks : List Kid) : Prop where
  cells : w.heap[b]? = some (.cells (nilS :: v :: cnt :: rest).toArray T (0, 0))
  row : Row w 141 1 v ks.length (ks.map Kid.ptr)
  fam : Fam w h ks
  nodup : (b :: (fpv v ++ blocksOf ks)).Nodup

theorem Brn.of_node {w h rest T k} (hN : NodeR w (h + 1) rest T k) : ∃ v ks, Brn w h rest T k.b v k.count ks ∧ k.ls = itemsOf ks ∧ k.fp = k.b :: (fpv v ++ blocksOf ks) ∧ ks.length = k.n ∧ 0 < k.n ∧ ∀ c ∈ ks, 4 ≤ c.n ∧ c.n ≤ 8 := by
  obtain ⟨h0, v, ks, hb, hc⟩ := hN
  refine ⟨v, ks, ⟨hb.cells, hb.len ▸ hb.row, ⟨fun c hm => (hc c hm).1, ?_⟩, hb.fp ▸ hb.nodup⟩, hb.ls, hb.fp, hb.len, h0, fun c hm => (hc c hm).2⟩
  have := hb.nodup
  rw [hb.fp, List.nodup_cons, List.nodup_append] at this
  exact this.2.2.1

theorem Brn.node {w h rest T b v cnt ks} (hB : Brn w h rest T b v cnt ks) (hcnt : cnt = .int .i64 ((itemsOf ks).length : Int)) (h0 : 0 < ks.length) (hn : ∀ c ∈ ks, 4 ≤ c.n ∧ c.n ≤ 8) : NodeR w (h + 1) rest T ⟨b, ks.length, itemsOf ks, b :: (fpv v ++ blocksOf ks)⟩ := by
  subst hcnt
  exact ⟨h0, v, ks, ⟨hB.cells, hB.row, rfl, rfl, hB.nodup⟩, fun c hm => ⟨hB.fam.each c hm, hn c hm⟩⟩

theorem Fam.kidsAt {w h ks v} (f : Fam w h ks) (hr : Row w 141 1 v ks.length (ks.map Kid.ptr)) : KidsAt w v ks :=
  ⟨hr, fun c hm => by obtain ⟨a, b, r, hh⟩ := (f.each c hm).count; exact ⟨a, b, r, _, hh⟩⟩

theorem Brn.kidsAt {w h rest T b v cnt ks} (hB : Brn w h rest T b v cnt ks) : KidsAt w v ks := hB.fam.kidsAt hB.row

theorem Brn.lt {w h rest T b v cnt ks} (hB : Brn w h rest T b v cnt ks) : ∀ x ∈ b :: (fpv v ++ blocksOf ks), x < w.heap.size := fun x hx => by
  rcases List.mem_cons.1 hx with rfl | hx
  · exact lt_of_heap hB.cells
  rcases List.mem_append.1 hx with hx | hx
  · exact hB.row.lt x hx
  · exact hB.fam.lt x hx

theorem Brn.apart {w h rest T b v cnt ks} (hB : Brn w h rest T b v cnt ks) : b ∉ fpv v ∧ b ∉ blocksOf ks ∧ ∀ x ∈ fpv v, x ∉ blocksOf ks := by
  have := hB.nodup
  simp only [List.nodup_cons, List.nodup_append, List.mem_append, not_or] at this
  exact ⟨this.1.1, this.1.2, fun x hx hy => this.2.2.2 x hx x hy rfl⟩

/-- Some kids are turned; the addresses stay. -/
theorem Brn.turn {w w' : World} {h : Nat} {rest : List Value} {T : TypeId} {b : Nat} {v cnt : Value} {A M M' B : List Kid} {S : Blocks} (hB : Brn w h rest T b v cnt (A ++ M ++ B)) (hk : Kept S w w') (hS : ∀ x, S x → x < w.heap.size → x ∈ blocksOf M) (g : Fam w' h M')
    (hsub : ∀ x ∈ blocksOf M', x ∈ blocksOf M ∨ w.heap.size ≤ x) (hp : M'.map Kid.ptr = M.map Kid.ptr) : Brn w' h rest T b v cnt (A ++ M' ++ B) ∧ ∀ x ∈ blocksOf (A ++ M' ++ B), x ∈ blocksOf (A ++ M ++ B) ∨ w.heap.size ≤ x := by
  obtain ⟨hbv, hbk, hvk⟩ := hB.apart
  have hlt := hB.lt
  obtain ⟨f, hs⟩ := hB.fam.splice hk hS g hsub
  have hl : M'.length = M.length := by have := congrArg List.length hp; simpa using this
  have hMsub : ∀ x ∈ blocksOf M, x ∈ blocksOf (A ++ M ++ B) := fun x hx => by simp [blocksOf_append, hx]
  refine ⟨⟨hk.get hB.cells (fun hh => hbk (hMsub _ (hS b hh (hlt b (by simp))))), ?_, f, ?_⟩, hs⟩
  · have := hB.row.kept hk (fun x hx hh => hvk x hx (hMsub _ (hS x hh (hlt x (by simp [hx])))))
    simpa [hl, hp] using this
  · have hnd := hB.nodup
    simp only [List.nodup_cons, List.nodup_append, List.mem_append, not_or] at hnd ⊢
    have hb' : b < w.heap.size := hlt b (by simp)
    refine ⟨⟨hbv, fun hh => ?_⟩, hnd.2.1, f.nodup, fun x hx y hy e => ?_⟩
    · rcases hs b hh with h1 | h1
      · exact hbk h1
      · omega
    · subst e
      rcases hs x hy with h1 | h1
      · exact hvk x hx h1
      · have := hlt x (by simp [hx]); omega
end Go.Proofs.YtdpfohgkikjeaaaGreat
/- join and split of whole nodes. -/
namespace Go.Proofs.YtdpfohgkikjeaaaGreat
open Go.RowKit
set_option linter.unusedVariables false
set_option linter.unusedSimpArgs false

theorem KidsAt.nil (w : World) : KidsAt w nilS [] := ⟨⟨rfl, .inl ⟨rfl, rfl⟩⟩, by simp⟩
theorem Row.nilrow (w : World) (e : TypeId) : Row w e 1 nilS 0 [] := ⟨rfl, .inl ⟨rfl, rfl⟩⟩

/-- What two whole nodes are, side by side. -/
theorem join_node {w : World} {h : Nat} {x y : Kid} (f : Fam w h [x, y]) (hn : x.n + y.n ≤ 1000) (hl : x.ls.length + y.ls.length ≤ 1000000) (hx1 : 0 < x.n) :
    Calls Tryz.prog 134 #[x.ptr, y.ptr] w fun e w' => e = .returned (.tuple #[]) ∧ ∃ x', NodeR w' h [] nodeT x' ∧ x'.b = x.b ∧ x'.n = x.n + y.n ∧ x'.ls = x.ls ++ y.ls ∧ (∀ z ∈ x'.fp, z ∈ x.fp ∨ z ∈ y.fp ∨ w.heap.size ≤ z) ∧ Kept (fun z => z ∈ x.fp) w w' := by
  have hfx := f.each x (by simp)
  have hfy := f.each y (by simp)
  have hnd := f.nodup
  have e1 : blocksOf [x, y] = x.fp ++ y.fp := by simp [blocksOf]
  rw [e1, List.nodup_append] at hnd
  obtain ⟨hndx, hndy, hxy⟩ := hnd
  have hbx := hfx.mem
  have hby := hfy.mem
  cases h with
  | zero =>
    obtain ⟨v, hx⟩ := hfx
    obtain ⟨u, hy⟩ := hfy
    have hvx : ∀ z ∈ fpv v, z ∈ x.fp := fun z hz => by rw [hx.fp]; simp [hz]
    have huy : ∀ z ∈ fpv u, z ∈ y.fp := fun z hz => by rw [hy.fp]; simp [hz]
    have hxb : x.b ∉ fpv v := fun hh => by have := hx.nodup; rw [hx.fp, List.nodup_cons] at this; exact this.1 hh
    have := nodejoin_any x.b y.b v nilS u nilS x.count y.count [] [] nodeT nodeT x.ls y.ls [] [] w hx.cells hy.cells (by rw [hx.len]; exact hx.row) (by rw [hy.len]; exact hy.row) (KidsAt.nil w) (KidsAt.nil w)
      (fun e => hxy _ hbx _ hby e) (fun z hz => ?_) (fun z hz => by simp [fpv_nil]) (by simp) (by simp [fpv_nil]) (by omega) (by simp) (by simp [itemsOf])
    · refine this.mono ?_
      rintro e w' ⟨rfl, vi', vk', hb', hr', hk', hkk, hv1, hv2, hn1, hn2⟩
      obtain rfl := hn2 rfl rfl
      have hll : x.ls.length + y.ls.length = x.n + y.n := by rw [hx.len, hy.len]
      refine ⟨rfl, ⟨x.b, x.n + y.n, x.ls ++ y.ls, x.b :: fpv vi'⟩, ⟨vi', ?_, ?_, rfl, ?_⟩, rfl, rfl, rfl, fun z hz => ?_, hkk.mono (fun z hz _ => ?_)⟩
      · simpa [itemsOf, Kid.count] using hb'
      · rw [hll] at hr'; exact hr'
      · refine List.nodup_cons.2 ⟨fun hh => ?_, fpv_nodup _⟩
        rcases hv1 _ hh with h1 | h1
        · exact hxb h1
        · have := lt_of_heap hx.cells; omega
      · rcases List.mem_cons.1 hz with rfl | hz
        · exact .inl hbx
        · exact (hv1 z hz).imp (hvx z) .inr
      · rcases hz with rfl | hz | hz
        · exact hbx
        · exact hvx z hz
        · simp [fpv_nil] at hz
    · rcases hz with hz | hz
      · exact ⟨fun e => hxb (e ▸ hz), fun e => hxy _ (hvx z hz) _ hby e, fun hh => hxy _ (hvx z hz) _ (huy z hh) rfl, by simp [fpv_nil], by simp⟩
      · simp [fpv_nil] at hz
  | succ h =>
    obtain ⟨v, ks, hx, hxl, hxf, hxn, hx0, hxk⟩ := Brn.of_node hfx
    obtain ⟨u, us, hy, hyl, hyf, hyn, hy0, hyk⟩ := Brn.of_node hfy
    obtain ⟨hxb1, hxb2, hxb3⟩ := hx.apart
    obtain ⟨hyb1, hyb2, hyb3⟩ := hy.apart
    have inx : ∀ z, z ∈ fpv v ∨ z ∈ blocksOf ks → z ∈ x.fp := fun z hz => by rw [hxf]; rcases hz with hz | hz <;> simp [hz]
    have iny : ∀ z, z ∈ fpv u ∨ z ∈ blocksOf us → z ∈ y.fp := fun z hz => by rw [hyf]; rcases hz with hz | hz <;> simp [hz]
    have kb : ∀ (l : List Kid) (hF : Fam w h l) (c : Kid), c ∈ l → c.b ∈ blocksOf l := fun l hF c hc => mem_blocksOf.2 ⟨c, hc, (hF.each c hc).mem⟩
    have hcb : ∀ c ∈ ks ++ us, c.b ∈ blocksOf ks ∨ c.b ∈ blocksOf us := fun c hc => (List.mem_append.1 hc).imp (kb _ hx.fam c) (kb _ hy.fam c)
    have := nodejoin_any x.b y.b nilS v nilS u x.count y.count [] [] nodeT nodeT [] [] ks us w hx.cells hy.cells (Row.nilrow _ _) (Row.nilrow _ _) hx.kidsAt hy.kidsAt
      (fun e => hxy _ hbx _ hby e) (fun z hz => ?_) (fun z hz => by simp [fpv_nil] at hz) (fun c hc e => ?_) (fun hh => hxy _ hbx _ (iny _ (.inl hh)) rfl) (by simp) (by omega) (by rw [itemsOf_append, List.length_append, ← hxl, ← hyl]; omega)
    · refine this.mono ?_
      rintro e w' ⟨rfl, vi', vk', hb', hr', hk', hkk, hv1, hv2, hn1, hn2⟩
      obtain rfl := hn1 rfl rfl
      have hsub : ∀ z, (z = x.b ∨ z ∈ fpv nilS ∨ z ∈ fpv v) → z ∉ blocksOf (ks ++ us) := fun z hz hh => by
        rw [blocksOf_append, List.mem_append] at hh
        rcases hz with rfl | hz | hz
        · rcases hh with hh | hh
          · exact hxb2 hh
          · exact hxy _ hbx _ (iny _ (.inr hh)) rfl
        · simp [fpv_nil] at hz
        · rcases hh with hh | hh
          · exact hxb3 z hz hh
          · exact hxy _ (inx _ (.inl hz)) _ (iny _ (.inr hh)) rfl
      have hfam0 : ∀ c ∈ ks ++ us, NodeR w h [] nodeT c := fun c hc => (List.mem_append.1 hc).elim (hx.fam.each c) (hy.fam.each c)
      have hfam : Fam w' h (ks ++ us) := ⟨fun c hc => NodeR.kept hkk h (hfam0 c hc) (fun z hz hh => hsub z hh (mem_blocksOf.2 ⟨c, hc, hz⟩)), by
        rw [blocksOf_append, List.nodup_append]
        exact ⟨hx.fam.nodup, hy.fam.nodup, fun a ha b' hb' => hxy a (inx _ (.inr ha)) b' (iny _ (.inr hb'))⟩⟩
      have hB : Brn w' h [] nodeT x.b vk' (.int .i64 ((itemsOf (ks ++ us)).length : Int)) (ks ++ us) := by
        refine ⟨by simpa using hb', hk'.row, hfam, List.nodup_cons.2 ⟨fun hh => ?_, List.nodup_append.2 ⟨fpv_nodup _, hfam.nodup, fun a ha b' hb' e => ?_⟩⟩⟩
        · rcases List.mem_append.1 hh with hh | hh
          · rcases hv2 _ hh with h1 | h1
            · exact hxb1 h1
            · have := lt_of_heap hx.cells; omega
          · exact hsub x.b (.inl rfl) hh
        · subst e
          rcases hv2 a ha with h1 | h1
          · exact hsub a (.inr (.inr h1)) hb'
          · rw [blocksOf_append, List.mem_append] at hb'
            have h2 := hx.lt; have h3 := hy.lt
            rcases hb' with hb' | hb'
            · have := h2 a (by simp [hb']); omega
            · have := h3 a (by simp [hb']); omega
      have hN := hB.node rfl (by rw [List.length_append]; omega) (fun c hc => (List.mem_append.1 hc).elim (hxk c) (hyk c))
      refine ⟨rfl, _, hN, rfl, by simp [hxn, hyn], by simp [itemsOf_append, hxl, hyl], fun z hz => ?_, hkk.mono (fun z hz _ => ?_)⟩
      · simp only [blocksOf_append, List.mem_cons, List.mem_append] at hz
        rcases hz with rfl | hz | hz | hz
        · exact .inl hbx
        · exact (hv2 z hz).imp (fun h => inx _ (.inl h)) .inr
        · exact .inl (inx _ (.inr hz))
        · exact .inr (.inl (iny _ (.inr hz)))
      · rcases hz with rfl | hz | hz
        · exact hbx
        · simp [fpv_nil] at hz
        · exact inx _ (.inl hz)
    · rcases hz with hz | hz
      · simp [fpv_nil] at hz
      · refine ⟨fun e => hxb1 (e ▸ hz), fun e => hxy _ (inx _ (.inl hz)) _ hby e, by simp [fpv_nil], fun hh => hxy _ (inx _ (.inl hz)) _ (iny _ (.inl hh)) rfl, fun c hc e => ?_⟩
        rcases hcb c hc with h1 | h1
        · exact hxb3 z hz (e ▸ h1)
        · exact hxy _ (inx _ (.inl hz)) _ (iny _ (.inr (e ▸ h1))) rfl
    · rcases hcb c hc with h1 | h1
      · exact hxb2 (e ▸ h1)
      · exact hxy _ hbx _ (iny _ (.inr (e ▸ h1))) rfl

theorem split_node {w : World} {h : Nat} {rest : List Value} {T : TypeId} {x : Kid} (hN : NodeR w h rest T x) (h2 : 2 ≤ x.n) (hn : x.n ≤ 1000) (hl : x.ls.length ≤ 1000000) :
    Calls Tryz.prog 114 #[x.ptr] w fun e w' => ∃ x1 x2, e = .returned x2.ptr ∧ NodeR w' h rest T x1 ∧ NodeR w' h [] nodeT x2 ∧ x1.b = x.b ∧ x1.n = x.n / 2 ∧ x2.n = x.n - x.n / 2 ∧ x.ls = x1.ls ++ x2.ls ∧ (x1.fp ++ x2.fp).Nodup ∧ (∀ z ∈ x1.fp ++ x2.fp, z ∈ x.fp ∨ w.heap.size ≤ z) ∧ Kept (fun z => z ∈ x.fp) w w' := by
  cases h with
  | zero =>
    obtain ⟨v, hx⟩ := hN
    refine (split_leaf w rest T x v hx (by omega) hn).mono ?_
    rintro e w' ⟨k1, k2, v1, v2, rfl, hL1, hL2, h3, h4, h5, h6, h7, h8, h9⟩
    exact ⟨k1, k2, rfl, ⟨v1, hL1⟩, ⟨v2, hL2⟩, h3, h4, h5, h6, h7, h8, h9⟩
  | succ h =>
    obtain ⟨v, ks, hx, hxl, hxf, hxn, hx0, hxk⟩ := Brn.of_node hN
    obtain ⟨hxb1, hxb2, hxb3⟩ := hx.apart
    have hbx : x.b ∈ x.fp := hN.mem
    have inx : ∀ z, z ∈ fpv v ∨ z ∈ blocksOf ks → z ∈ x.fp := fun z hz => by rw [hxf]; rcases hz with hz | hz <;> simp [hz]
    have kb : ∀ c ∈ ks, c.b ∈ blocksOf ks := fun c hc => mem_blocksOf.2 ⟨c, hc, (hx.fam.each c hc).mem⟩
    refine (split_branch w rest T x.b x.n v x.count ks hx.cells hx.kidsAt hxn (fun z hz => ⟨fun e => hxb1 (e ▸ hz), fun c hc e => hxb3 z hz (e ▸ kb c hc)⟩) (fun c hc e => hxb2 (e ▸ kb c hc)) (by omega) hn (by rw [← hxl]; omega)).mono ?_
    rintro e w' ⟨b2, v1, v2, rfl, hb1, hb2, hr1, hr2, hf1, hf2, hbs, hbn, hk⟩
    have hlt := hx.lt
    have hsplit : ks.take (x.n / 2) ++ ks.drop (x.n / 2) = ks := List.take_append_drop _ _
    have hnd := hx.fam.nodup
    rw [← hsplit, blocksOf_append, List.nodup_append] at hnd
    have hkeep : ∀ c ∈ ks, NodeR w' h [] nodeT c := fun c hc => NodeR.kept hk h (hx.fam.each c hc) (fun z hz hh => by
      have hz' := mem_blocksOf.2 ⟨c, hc, hz⟩
      rcases hh with rfl | hh
      · exact hxb2 hz'
      · exact hxb3 z hh hz')
    have hl1 : (ks.take (x.n / 2)).length = x.n / 2 := by rw [List.length_take]; omega
    have hl2 : (ks.drop (x.n / 2)).length = x.n - x.n / 2 := by rw [List.length_drop]; omega
    have sub1 : ∀ z ∈ blocksOf (ks.take (x.n / 2)), z ∈ blocksOf ks := fun z hz => by rw [← hsplit, blocksOf_append]; simp [hz]
    have sub2 : ∀ z ∈ blocksOf (ks.drop (x.n / 2)), z ∈ blocksOf ks := fun z hz => by rw [← hsplit, blocksOf_append]; simp [hz]
    have hltk : ∀ z ∈ blocksOf ks, z < w.heap.size := fun z hz => hlt z (by simp [hz])
    have hB1 : Brn w' h rest T x.b v1 (.int .i64 ((itemsOf (ks.take (x.n / 2))).length : Int)) (ks.take (x.n / 2)) := by
      refine ⟨hb1, by rw [hl1]; exact hr1, ⟨fun c hc => hkeep c (List.mem_of_mem_take hc), hnd.1⟩, List.nodup_cons.2 ⟨fun hh => ?_, List.nodup_append.2 ⟨fpv_nodup _, hnd.1, fun a ha b' hb' e => ?_⟩⟩⟩
      · rcases List.mem_append.1 hh with hh | hh
        · exact hxb1 (hf1 ▸ hh)
        · exact hxb2 (sub1 _ hh)
      · subst e; exact hxb3 a (hf1 ▸ ha) (sub1 _ hb')
    have hB2 : Brn w' h [] nodeT b2 v2 (.int .i64 ((itemsOf (ks.drop (x.n / 2))).length : Int)) (ks.drop (x.n / 2)) := by
      refine ⟨hb2, by rw [hl2]; exact hr2, ⟨fun c hc => hkeep c (List.mem_of_mem_drop hc), hnd.2.1⟩, List.nodup_cons.2 ⟨fun hh => ?_, List.nodup_append.2 ⟨fpv_nodup _, hnd.2.1, fun a ha b' hb' e => ?_⟩⟩⟩
      · rcases List.mem_append.1 hh with hh | hh
        · exact hbn hh
        · have := hltk _ (sub2 _ hh); omega
      · subst e; have := hf2 a ha; have := hltk _ (sub2 _ hb'); omega
    have hN1 := hB1.node rfl (by omega) (fun c hc => hxk c (List.mem_of_mem_take hc))
    have hN2 := hB2.node rfl (by omega) (fun c hc => hxk c (List.mem_of_mem_drop hc))
    have h01 := hlt x.b (by simp)
    have hv1lt : ∀ z ∈ fpv v1, z < w.heap.size := fun z hz => hlt z (by rw [hf1] at hz; simp [hz])
    refine ⟨_, _, rfl, hN1, hN2, rfl, hl1, hl2, by show x.ls = _ ++ _; rw [hxl, ← itemsOf_append, hsplit], List.nodup_append.2 ⟨hB1.nodup, hB2.nodup, fun a ha b' hb' e => ?_⟩, fun z hz => ?_, hk.mono (fun z hz _ => ?_)⟩
    · subst e
      simp only [List.mem_cons, List.mem_append] at ha hb'
      have ha' : a < w.heap.size := by
        rcases ha with rfl | ha | ha
        · exact h01
        · exact hv1lt a ha
        · exact hltk _ (sub1 _ ha)
      rcases hb' with rfl | hb' | hb'
      · omega
      · have := hf2 a hb'; omega
      · rcases ha with rfl | ha | ha
        · exact hxb2 (sub2 _ hb')
        · exact hxb3 a (hf1 ▸ ha) (sub2 _ hb')
        · exact hnd.2.2 a ha a hb' rfl
    · simp only [List.mem_cons, List.mem_append] at hz
      rcases hz with (rfl | hz | hz) | rfl | hz | hz
      · exact .inl hbx
      · exact .inl (inx _ (.inl (hf1 ▸ hz)))
      · exact .inl (inx _ (.inr (sub1 _ hz)))
      · exact .inr hbs
      · exact .inr (hf2 z hz)
      · exact .inl (inx _ (.inr (sub2 _ hz)))
    · rcases hz with rfl | hz
      · exact hbx
      · exact inx _ (.inl hz)
end Go.Proofs.YtdpfohgkikjeaaaGreat
/- mend. -/
namespace Go.Proofs.YtdpfohgkikjeaaaGreat
open Go.RowKit
set_option linter.unusedVariables false
set_option linter.unusedSimpArgs false

/-- The cell of a kid. -/
theorem KidsAt.mid {w : World} {v : Value} {A B : List Kid} {c : Kid} (h : KidsAt w v (A ++ c :: B)) : ∃ g c', v = .slice (some ⟨g, 0, none⟩) (A ++ c :: B).length c' ∧ w.cell? ⟨g, A.length, none⟩ = some c.ptr := by
  obtain ⟨g, c', hv, h1, _⟩ := h.at (i := A.length) (by simp)
  refine ⟨g, c', hv, ?_⟩
  simpa using h1

/-- What mend leaves, and what it is in the midst of it: a branch with other kids of the same items. -/
structure Mid (w w' : World) (h : Nat) (rest : List Value) (T : TypeId) (b : Nat) (v cnt : Value) (ks : List Kid) (v' : Value) (ks' : List Kid) : Prop where
  brn : Brn w' h rest T b v' cnt ks'
  items : itemsOf ks' = itemsOf ks
  sub : ∀ x ∈ fpv v' ++ blocksOf ks', x ∈ fpv v ++ blocksOf ks ∨ w.heap.size ≤ x
  kept : Kept (fun x => x = b ∨ x ∈ fpv v ++ blocksOf ks) w w'

theorem Mid.refl {w h rest T b v cnt ks} (hB : Brn w h rest T b v cnt ks) : Mid w w h rest T b v cnt ks v ks := ⟨hB, rfl, fun x hx => .inl hx, Kept.refl _ _⟩

theorem Mid.trans {w w1 w2 h rest T b v cnt ks v1 ks1 v2 ks2} (a : Mid w w1 h rest T b v cnt ks v1 ks1) (c : Mid w1 w2 h rest T b v1 cnt ks1 v2 ks2) : Mid w w2 h rest T b v cnt ks v2 ks2 :=
  ⟨c.brn, c.items.trans a.items, fun x hx => (c.sub x hx).elim (fun h => a.sub x h) (fun h => .inr (Nat.le_trans a.kept.size h)), a.kept.step' c.kept (fun x hx hlt => by
    rcases hx with rfl | hx
    · exact .inl rfl
    · rcases a.sub x hx with h | h
      · exact .inr h
      · omega)⟩

theorem Fam.drewN {w h ks} (f : Fam w h ks) (j : Nat) : Fam (w.drewN j) h ks := by
  refine ⟨fun c hc => ?_, f.nodup⟩
  exact NodeR.kept (S := fun _ => False) ((Kept.refl _ w).drewN j) h (f.each c hc) (fun _ _ h => h)
theorem Brn.drewN {w h rest T b v cnt ks} (a : Brn w h rest T b v cnt ks) (j : Nat) : Brn (w.drewN j) h rest T b v cnt ks := ⟨a.cells, a.row.drewN, a.fam.drewN j, a.nodup⟩
theorem Mid.drewN {w w' h rest T b v cnt ks v' ks'} (a : Mid w w' h rest T b v cnt ks v' ks') (j : Nat) : Mid w (w'.drewN j) h rest T b v cnt ks v' ks' := ⟨a.brn.drewN j, a.items, a.sub, a.kept.drewN j⟩

/-- A store into a branch's own slot for its kids. -/
theorem Brn.store {w w' : World} {h : Nat} {rest : List Value} {T : TypeId} {b : Nat} {v v' cnt : Value} {ks : List Kid} (hb : w.heap[b]? = some (.cells (nilS :: v :: cnt :: rest).toArray T (0, 0))) (hr : Row w 141 1 v' ks.length (ks.map Kid.ptr)) (hf : Fam w h ks) (hnd : (b :: (fpv v' ++ blocksOf ks)).Nodup) (hw : w' = w.setCell ⟨b, 1, none⟩ v') : Brn w' h rest T b v' cnt ks := by
  subst hw
  have h1 := hnd
  simp only [List.nodup_cons, List.mem_append, not_or] at h1
  refine ⟨by rw [heap_set_same hb]; simp, hr.kept Kept.cell1 (fun x hx e => h1.1.1 (e ▸ hx)), ⟨fun c hc => NodeR.kept Kept.cell1 h (hf.each c hc) (fun x hx e => h1.1.2 (e ▸ mem_blocksOf.2 ⟨c, hc, hx⟩)), hf.nodup⟩, hnd⟩

theorem Fam.kept {S : Blocks} {w w' : World} {h : Nat} {ks : List Kid} (f : Fam w h ks) (hk : Kept S w w') (hn : ∀ x ∈ blocksOf ks, ¬ S x) : Fam w' h ks :=
  ⟨fun c hc => NodeR.kept hk h (f.each c hc) (fun x hx => hn x (mem_blocksOf.2 ⟨c, hc, hx⟩)), f.nodup⟩

/-- Two kids have become one: the list of kids has one less. -/
theorem mid_join {w w1 w2 w3 : World} {h : Nat} {rest : List Value} {T : TypeId} {b : Nat} {v v' cnt : Value} {A B : List Kid} {x y x' : Kid} (hB : Brn w h rest T b v cnt (A ++ [x, y] ++ B))
    (hx : NodeR w1 h [] nodeT x') (hxb : x'.b = x.b) (hxl : x'.ls = x.ls ++ y.ls) (hxf : ∀ z ∈ x'.fp, z ∈ x.fp ∨ z ∈ y.fp ∨ w.heap.size ≤ z) (hk1 : Kept (fun z => z ∈ x.fp) w w1)
    (hr : Row w2 141 1 v' (A ++ [x'] ++ B).length ((A ++ [x'] ++ B).map Kid.ptr)) (hk2 : Kept (fun z => z ∈ fpv v) w1 w2) (hv' : ∀ z ∈ fpv v', z ∈ fpv v ∨ w1.heap.size ≤ z) (hw : w3 = w2.setCell ⟨b, 1, none⟩ v') :
    Mid w w3 h rest T b v cnt (A ++ [x, y] ++ B) v' (A ++ [x'] ++ B) := by
  obtain ⟨hbv, hbk, hvk⟩ := hB.apart
  have hlt := hB.lt
  have exy : blocksOf [x, y] = x.fp ++ y.fp := by simp [blocksOf]
  have inM : ∀ z, z ∈ x.fp ∨ z ∈ y.fp → z ∈ blocksOf (A ++ [x, y] ++ B) := fun z hz => by simp only [blocksOf_append, exy, List.mem_append]; exact .inl (.inr hz)
  obtain ⟨f1, hs1⟩ := hB.fam.splice (M' := [x']) hk1 (fun z hz _ => by rw [exy]; simp [hz]) ⟨fun c hc => by simp at hc; subst hc; exact hx, by rw [blocksOf_one]; exact hx.nodup⟩ (fun z hz => by
    rw [blocksOf_one] at hz; rw [exy, List.mem_append]
    rcases hxf z hz with h1 | h1 | h1
    · exact .inl (.inl h1)
    · exact .inl (.inr h1)
    · exact .inr h1)
  have hb1 : w1.heap[b]? = some (.cells (nilS :: v :: cnt :: rest).toArray T (0, 0)) := hk1.get hB.cells (fun hh => hbk (inM _ (.inl hh)))
  have hb2 := hk2.get hb1 hbv
  have ltv : ∀ z ∈ fpv v, z < w.heap.size := fun z hz => hlt z (by simp [hz])
  have f2 : Fam w2 h (A ++ [x'] ++ B) := f1.kept hk2 (fun z hz hh => by
    rcases hs1 z hz with h1 | h1
    · exact hvk z hh h1
    · have := ltv z hh; omega)
  have sz1 := hk1.size
  have hnd : (b :: (fpv v' ++ blocksOf (A ++ [x'] ++ B))).Nodup := by
    refine List.nodup_cons.2 ⟨fun hh => ?_, List.nodup_append.2 ⟨fpv_nodup _, f1.nodup, fun z hz z' hz' e => ?_⟩⟩
    · have hbl := hlt b (by simp)
      rcases List.mem_append.1 hh with hh | hh
      · rcases hv' b hh with h1 | h1
        · exact hbv h1
        · omega
      · rcases hs1 b hh with h1 | h1
        · exact hbk h1
        · omega
    · subst e
      rcases hv' z hz with h1 | h1
      · rcases hs1 z hz' with h2 | h2
        · exact hvk z h1 h2
        · have := ltv z h1; omega
      · have := f1.lt z hz'; omega
  have hB3 := Brn.store hb2 hr f2 hnd hw
  refine ⟨hB3, ?_, fun z hz => ?_, ?_⟩
  · simp [itemsOf, hxl]
  · rcases List.mem_append.1 hz with hz | hz
    · rcases hv' z hz with h1 | h1
      · exact .inl (by simp [h1])
      · exact .inr (by omega)
    · exact (hs1 z hz).imp (fun h => by rw [List.mem_append]; exact .inr h) id
  · subst hw
    refine ((hk1.mono (T := fun z => z = b ∨ z ∈ fpv v ++ blocksOf (A ++ [x, y] ++ B)) (fun z hz _ => .inr ?_)).step' hk2 (fun z hz _ => .inr ?_)).setCell (p := ⟨b, 1, none⟩) (fun _ => .inl rfl) _
    · rw [List.mem_append]; exact .inr (inM z (.inl hz))
    · simp [hz]

/-- A kid has become two. -/
theorem mid_split {w w1 w2 w3 : World} {h : Nat} {rest : List Value} {T : TypeId} {b : Nat} {v v' cnt : Value} {A B : List Kid} {x x1 x2 : Kid} (hB : Brn w h rest T b v cnt (A ++ [x] ++ B))
    (hx1 : NodeR w1 h [] nodeT x1) (hx2 : NodeR w1 h [] nodeT x2) (hxl : x.ls = x1.ls ++ x2.ls) (hxn : (x1.fp ++ x2.fp).Nodup) (hxf : ∀ z ∈ x1.fp ++ x2.fp, z ∈ x.fp ∨ w.heap.size ≤ z) (hk1 : Kept (fun z => z ∈ x.fp) w w1)
    (hr : Row w2 141 1 v' (A ++ [x1, x2] ++ B).length ((A ++ [x1, x2] ++ B).map Kid.ptr)) (hk2 : Kept (fun z => z ∈ fpv v) w1 w2) (hv' : ∀ z ∈ fpv v', z ∈ fpv v ∨ w1.heap.size ≤ z) (hw : w3 = w2.setCell ⟨b, 1, none⟩ v') :
    Mid w w3 h rest T b v cnt (A ++ [x] ++ B) v' (A ++ [x1, x2] ++ B) := by
  obtain ⟨hbv, hbk, hvk⟩ := hB.apart
  have hlt := hB.lt
  have exy : blocksOf [x1, x2] = x1.fp ++ x2.fp := by simp [blocksOf]
  have inM : ∀ z, z ∈ x.fp → z ∈ blocksOf (A ++ [x] ++ B) := fun z hz => by simp only [blocksOf_append, blocksOf_one, List.mem_append]; exact .inl (.inr hz)
  obtain ⟨f1, hs1⟩ := hB.fam.splice (M' := [x1, x2]) hk1 (fun z hz _ => by rw [blocksOf_one]; exact hz) ⟨fun c hc => by simp at hc; rcases hc with rfl | rfl <;> assumption, by rw [exy]; exact hxn⟩ (fun z hz => by
    rw [exy] at hz; rw [blocksOf_one]; exact hxf z hz)
  have hb1 : w1.heap[b]? = some (.cells (nilS :: v :: cnt :: rest).toArray T (0, 0)) := hk1.get hB.cells (fun hh => hbk (inM _ hh))
  have hb2 := hk2.get hb1 hbv
  have ltv : ∀ z ∈ fpv v, z < w.heap.size := fun z hz => hlt z (by simp [hz])
  have f2 : Fam w2 h (A ++ [x1, x2] ++ B) := f1.kept hk2 (fun z hz hh => by
    rcases hs1 z hz with h1 | h1
    · exact hvk z hh h1
    · have := ltv z hh; omega)
  have sz1 := hk1.size
  have hnd : (b :: (fpv v' ++ blocksOf (A ++ [x1, x2] ++ B))).Nodup := by
    refine List.nodup_cons.2 ⟨fun hh => ?_, List.nodup_append.2 ⟨fpv_nodup _, f1.nodup, fun z hz z' hz' e => ?_⟩⟩
    · have hbl := hlt b (by simp)
      rcases List.mem_append.1 hh with hh | hh
      · rcases hv' b hh with h1 | h1
        · exact hbv h1
        · omega
      · rcases hs1 b hh with h1 | h1
        · exact hbk h1
        · omega
    · subst e
      rcases hv' z hz with h1 | h1
      · rcases hs1 z hz' with h2 | h2
        · exact hvk z h1 h2
        · have := ltv z h1; omega
      · have := f1.lt z hz'; omega
  have hB3 := Brn.store hb2 hr f2 hnd hw
  refine ⟨hB3, ?_, fun z hz => ?_, ?_⟩
  · simp [itemsOf, hxl]
  · rcases List.mem_append.1 hz with hz | hz
    · rcases hv' z hz with h1 | h1
      · exact .inl (by simp [h1])
      · exact .inr (by omega)
    · exact (hs1 z hz).imp (fun h => by rw [List.mem_append]; exact .inr h) id
  · subst hw
    refine ((hk1.mono (T := fun z => z = b ∨ z ∈ fpv v ++ blocksOf (A ++ [x] ++ B)) (fun z hz _ => .inr ?_)).step' hk2 (fun z hz _ => .inr ?_)).setCell (p := ⟨b, 1, none⟩) (fun _ => .inl rfl) _
    · rw [List.mem_append]; exact .inr (inM z hz)
    · simp [hz]

end Go.Proofs.YtdpfohgkikjeaaaGreat
/- mend: the walk. -/
namespace Go.Proofs.YtdpfohgkikjeaaaGreat
open Go.RowKit
set_option linter.unusedVariables false
set_option linter.unusedSimpArgs false

abbrev NOk (c : Kid) : Prop := 4 ≤ c.n ∧ c.n ≤ 8

theorem lss_low {N : Nat} (h : N ≤ 17) : (FloatKind.f64.format.order (fillBits N) 4602678819172646912 == some .lt) = decide (N < 4) := (fill_facts N h).2.1
theorem gtr_full {N : Nat} (h : N ≤ 17) : (FloatKind.f64.format.order (fillBits N) 4607182418800017408 == some .gt) = decide (8 < N) := (fill_facts N h).2.2

/-- Of the kid that is too empty and its neighbour. -/
theorem pair_of {A B : List Kid} {c : Kid} (hok : ∀ x ∈ A ++ B, NOk x) (h2 : 2 ≤ (A ++ [c] ++ B).length) (hc : c.n = 3) : ∃ A' x y B', A ++ [c] ++ B = A' ++ [x, y] ++ B' ∧ (∀ z ∈ A' ++ B', NOk z) ∧ 7 ≤ x.n + y.n ∧ x.n + y.n ≤ 11 ∧ 0 < x.n ∧
    ((A'.length = A.length ∧ A.length + 2 ≤ (A ++ [c] ++ B).length) ∨ (A'.length + 1 = A.length ∧ A.length + 1 = (A ++ [c] ++ B).length)) := by
  cases B with
  | cons y B' =>
    have := hok y (by simp)
    refine ⟨A, c, y, B', by simp, fun z hz => hok z ?_, by omega, by omega, by omega, .inl ⟨rfl, by simp⟩⟩
    simp only [List.mem_append, List.mem_cons] at hz ⊢
    rcases hz with hz | hz
    · exact .inl hz
    · exact .inr (.inr hz)
  | nil =>
    obtain ⟨A', x, rfl⟩ : ∃ A' x, A = A' ++ [x] := by
      rcases List.eq_nil_or_concat A with rfl | ⟨A', x, rfl⟩
      · simp at h2
      · exact ⟨A', x, List.concat_eq_append⟩
    have := hok x (by simp)
    exact ⟨A', x, c, [], by simp, fun z hz => hok z (by simp only [List.append_nil] at hz ⊢; simp [hz]), by omega, by omega, by omega, .inr ⟨by simp, by simp⟩⟩

theorem ptrs_join (A B : List Kid) (x y x' : Kid) (e : x'.ptr = x.ptr) : ((A ++ [x, y] ++ B).map Kid.ptr).take (A.length + 1) ++ ((A ++ [x, y] ++ B).map Kid.ptr).drop (A.length + 2) = (A ++ [x'] ++ B).map Kid.ptr := by
  have e1 : (A ++ [x, y] ++ B).map Kid.ptr = (A.map Kid.ptr ++ [x.ptr]) ++ (y.ptr :: B.map Kid.ptr) := by simp
  have e2 : (A ++ [x, y] ++ B).map Kid.ptr = (A.map Kid.ptr ++ [x.ptr, y.ptr]) ++ B.map Kid.ptr := by simp
  have h1 : ((A ++ [x, y] ++ B).map Kid.ptr).take (A.length + 1) = A.map Kid.ptr ++ [x.ptr] := by rw [e1]; exact List.take_left' (by simp)
  have h2 : ((A ++ [x, y] ++ B).map Kid.ptr).drop (A.length + 2) = B.map Kid.ptr := by rw [e2]; exact List.drop_left' (by simp)
  rw [h1, h2]
  simp [e]

theorem ptrs_split (A B : List Kid) (x x1 x2 : Kid) (e : x1.ptr = x.ptr) : ((A ++ [x] ++ B).map Kid.ptr).take (A.length + 1) ++ x2.ptr :: ((A ++ [x] ++ B).map Kid.ptr).drop (A.length + 1) = (A ++ [x1, x2] ++ B).map Kid.ptr := by
  have e1 : (A ++ [x] ++ B).map Kid.ptr = (A.map Kid.ptr ++ [x.ptr]) ++ B.map Kid.ptr := by simp
  have h1 : ((A ++ [x] ++ B).map Kid.ptr).take (A.length + 1) = A.map Kid.ptr ++ [x.ptr] := by rw [e1]; exact List.take_left' (by simp)
  have h2 : ((A ++ [x] ++ B).map Kid.ptr).drop (A.length + 1) = B.map Kid.ptr := by rw [e1]; exact List.drop_left' (by simp)
  rw [h1, h2]
  simp [e]

set_option maxHeartbeats 2000000 in
set_option maxRecDepth 100000 in
theorem mend_any {w : World} {h : Nat} {rest : List Value} {T : TypeId} {b : Nat} {v cnt : Value} {A B : List Kid} {c : Kid} (hB : Brn w h rest T b v cnt (A ++ [c] ++ B)) (hok : ∀ x ∈ A ++ B, NOk x) (hc3 : 3 ≤ c.n) (hc9 : c.n ≤ 9) (h2 : 2 ≤ (A ++ [c] ++ B).length) (h9 : (A ++ [c] ++ B).length ≤ 100) (hl : (itemsOf (A ++ [c] ++ B)).length ≤ 1000000) (iI : Int) (hiI : iI = (A.length : Int)) :
    Calls Tryz.prog 110 #[.pointer (some ⟨b, 0, none⟩), .int .i64 iI] w fun e w' => e = .returned (.tuple #[]) ∧ ∃ v' ks', Mid w w' h rest T b v cnt (A ++ [c] ++ B) v' ks' ∧ (∀ x ∈ ks', NOk x) ∧ (A ++ [c] ++ B).length ≤ ks'.length + 1 ∧ ks'.length ≤ (A ++ [c] ++ B).length + 1 ∧ (4 ≤ c.n → (A ++ [c] ++ B).length ≤ ks'.length) ∧ (c.n ≤ 8 → ks'.length ≤ (A ++ [c] ++ B).length) := by
  subst hiI
  have hK0 : KidsAt w v (A ++ c :: B) := by simpa using hB.kidsAt
  obtain ⟨g, cv, hv, hcell⟩ := hK0.mid
  have hlen : (A ++ c :: B).length = (A ++ [c] ++ B).length := by simp
  rw [hlen] at hv
  clear hK0 hlen
  generalize hN : (A ++ [c] ++ B).length = N at hv h2 h9 ⊢
  have HN : Hid ((A ++ [c] ++ B).length = N) := hN
  clear hN
  subst hv
  have hAN : A.length < N := by rw [← HN.out]; simp
  obtain ⟨hcb, hfb⟩ := cells_of hB.cells
  simp only [Kid.ptr] at hcell
  have hfill := (hB.fam.each c (by simp)).fill (by omega)
  go_enter Tryz.func110, Tryz.ntmps110
  go_upto_if 12 with (go_at_call 113; refine hfill.mono ?_; rintro e w1 ⟨rfl, j, rfl⟩)
  have hlss := lss_low (N := c.n) (by omega)
  go_cut [1] (fun s1 wx => ∃ A' c' B' v', s1 = .int .i64 (A'.length : Int) ∧ Mid w wx h rest T b (.slice (some ⟨g, 0, none⟩) N cv) cnt (A ++ [c] ++ B) v' (A' ++ [c'] ++ B') ∧ (∀ x ∈ A' ++ B', NOk x) ∧ 4 ≤ c'.n ∧ c'.n ≤ 11 ∧ N ≤ (A' ++ [c'] ++ B').length + 1 ∧ (A' ++ [c'] ++ B').length ≤ N ∧ (4 ≤ c.n → N ≤ (A' ++ [c'] ++ B').length) ∧ (c.n ≤ 8 → 8 < c'.n → (A' ++ [c'] ++ B').length + 1 ≤ N))
  case first =>
    by_cases hlow : c.n < 4
    · rw [decide_eq_true hlow] at hlss
      obtain ⟨A', x, y, B', hE, hok', hn1, hn2, hx0, hat⟩ := pair_of hok (by rw [HN.out]; exact h2) (by omega)
      rw [HN.out] at hat
      rw [hE] at hB hl
      have HN' : Hid ((A' ++ [x, y] ++ B').length = N) := by rw [← hE]; exact HN
      have HE : Hid (A ++ [c] ++ B = A' ++ [x, y] ++ B') := hE
      clear hE HN hok
      have hmin : Hid (min (A.length : Int) ((N : Int) - 2) = (A'.length : Int)) := by show min (A.length : Int) ((N : Int) - 2) = (A'.length : Int); omega
      rw [hlss]
      go_wp2
      rw [hmin.out]
      have hx := hB.fam.each x (by simp)
      have hy := hB.fam.each y (by simp)
      have hK1 : KidsAt w (.slice (some ⟨g, 0, none⟩) N cv) (A' ++ x :: ([y] ++ B')) := by simpa using hB.kidsAt
      have hK2 : KidsAt w (.slice (some ⟨g, 0, none⟩) N cv) ((A' ++ [x]) ++ y :: B') := by simpa using hB.kidsAt
      obtain ⟨g1, cv1, he1, hcx⟩ := hK1.mid
      obtain ⟨g2, cv2, he2, hcy⟩ := hK2.mid
      simp only [Value.slice.injEq, Option.some.injEq, Addr.mk.injEq, and_true, true_and] at he1 he2
      obtain rfl := he1.1
      obtain rfl := he2.1
      clear he1 he2 hK1 hK2
      have hcy' : w.cell? ⟨g, A'.length + 1, none⟩ = some y.ptr := by simpa using hcy
      have hA1 : A'.length + 1 < N := by rw [← HN'.out]; simp
      have hA0 : A'.length < N := by omega
      have hi0 : (0 : Int) ≤ (A'.length : Int) + 1 := by omega
      have hi1 : (A'.length : Int) + 1 < (N : Int) := by omega
      have hw1 : IntKind.i64.wrap ((A'.length : Int) + 1) = (A'.length : Int) + 1 := by rw [IntKind.wrap_i64]; omega
      refine wp_region_loud (fun W => W.heap[b]? = some (.cells (nilS :: .slice (some ⟨g, 0, none⟩) N cv :: cnt :: rest).toArray T (0, 0)) ∧ W.cell? ⟨g, A'.length, none⟩ = some x.ptr ∧ W.cell? ⟨g, A'.length + 1, none⟩ = some y.ptr) [0, 1, 2, 3, 4, 5, 6, 7, 8, 9, 10, 11, 12, 13, 14] [15] (by kernel_rfl) (by kernel_rfl) (fun _ _ d _ _ h => by cases d <;> exact h) ⟨hB.cells, hcx, hcy'⟩ ?_
      repeat (refine wpPre_cons rfl rfl (fun W hW => (by obtain ⟨hW1, hW2, hW3⟩ := hW; obtain ⟨hc, _⟩ := cells_of hW1; go_simp; rfl)) ?_; simp only [Act.put, List.setIfInBounds_toArray, List.set])
      refine wpPre_nil ?_
      refine wpTail_cons rfl rfl (fun K hK => ?_)
      have hfm : Fam w h [x, y] := ⟨fun z hz => by simp at hz; rcases hz with rfl | rfl <;> assumption, by
        have := hB.fam.nodup
        simp only [blocksOf_append, List.nodup_append] at this
        exact this.1.2.1⟩
      have hxyl : x.ls.length + y.ls.length ≤ 1000000 := by
        have e : itemsOf (A' ++ [x, y] ++ B') = itemsOf A' ++ (x.ls ++ y.ls) ++ itemsOf B' := by simp [itemsOf]
        rw [e] at hl
        simp only [List.length_append] at hl
        omega
      go_wp2_with fail
      refine (join_node (hfm.drewN (j + 1)) (by omega) hxyl hx0).mono ?_
      rintro e w1 ⟨rfl, x', hx', hxb, hxn, hxl, hxf, hk1'⟩
      have hk1 : Kept (fun z => z ∈ x.fp) w w1 := hk1'.of_drewN
      have hxf' : ∀ z ∈ x'.fp, z ∈ x.fp ∨ z ∈ y.fp ∨ w.heap.size ≤ z := hxf
      obtain ⟨hap1, hap2, hap3⟩ := hB.apart
      have inx : ∀ z ∈ x.fp, z ∈ blocksOf (A' ++ [x, y] ++ B') := fun z hz => by simp [blocksOf, hz]
      have hb1 := hk1.get hB.cells (fun hh => hap2 (inx _ hh))
      have hgx : g ∉ x.fp := fun hh => hap3 g (by simp [fpv_some]) (inx _ hh)
      have hgl : g < w.heap.size := hB.lt g (by simp [fpv_some])
      have hg1 : ∀ o, w1.cell? ⟨g, o, none⟩ = w.cell? ⟨g, o, none⟩ := fun o => World.cell?_of_block (w := w) (hk1.block g hgl hgx)
      refine hK _ _ ⟨⟨hb1, by rw [hg1]; exact hcx, by rw [hg1]; exact hcy'⟩, ?_⟩
      clear hK
      refine wpTail_nil ?_
      have hr1 : Row w1 141 1 (.slice (some ⟨g, 0, none⟩) N cv) N ((A' ++ [x, y] ++ B').map Kid.ptr) := HN'.out ▸ hB.row.kept hk1 (fun z hz hh => hap3 z hz (inx _ hh))
      obtain ⟨hc1, hf1⟩ := cells_of hb1
      have hw2 : IntKind.i64.wrap ((A'.length : Int) + 2) = (A'.length : Int) + 2 := by rw [IntKind.wrap_i64]; omega
      go_wp2_with fail
      refine (deleteK _ N (A'.length + 1) (A'.length + 2) _ _ _ w1 hr1 (by omega) (by omega) (by omega) (by omega) (ptr_one _)).mono ?_
      rintro e w2 ⟨v2, rfl, hr2, hg2, hfp2, _⟩
      obtain ⟨M, HM⟩ : ∃ M, Hid ((A' ++ [x'] ++ B').length = M) := ⟨_, rfl⟩
      have hM1 : M + 1 = N := by rw [← HM.out, ← HN'.out]; simp; omega
      have hr2' : Row w2 141 1 v2 M ((A' ++ [x'] ++ B').map Kid.ptr) := by
        have e1 := ptrs_join A' B' x y x' (by simp [Kid.ptr, hxb])
        have e3 : A'.length + 1 + (N - (A'.length + 2)) = M := by omega
        rw [e1, e3] at hr2
        exact hr2
      clear hr2
      have hb2 := hg2.1.get hb1 (fun hh => hap1 hh)
      obtain ⟨hc2, hf2⟩ := cells_of hb2
      obtain ⟨p2, c2, rfl⟩ := hr2'.slice
      go_wp2
      go_meet
      case rel =>
        rw [HE.out]
        exact ⟨A', x', B', _, rfl, mid_join hB hx' hxb hxl hxf' hk1 (HM.out.symm ▸ hr2') hg2.1 hg2.2 rfl, hok', by omega, by omega, by rw [HM.out]; omega, by rw [HM.out]; omega, by omega, by rw [HM.out]; omega⟩
    · rw [decide_eq_false hlow] at hlss
      rw [hlss]
      go_wp2
      go_meet
      case rel => exact ⟨A, c, B, _, rfl, (Mid.refl hB).drewN j, hok, by omega, by omega, by rw [HN.out]; omega, by rw [HN.out]; omega, by rw [HN.out]; omega, by omega⟩
  case rest =>
    obtain ⟨A', c', B', v', rfl, hM, hok', hn4, hn11, hl1, hl2, hl3, hl4⟩ := hcut
    have hB' := hM.brn
    have hlM : (itemsOf (A' ++ [c'] ++ B')).length ≤ 1000000 := by rw [hM.items]; exact hl
    have hK0 : KidsAt wc v' (A' ++ c' :: B') := by simpa using hB'.kidsAt
    obtain ⟨g', cv', hv, hcell'⟩ := hK0.mid
    have hlen : (A' ++ c' :: B').length = (A' ++ [c'] ++ B').length := by simp
    rw [hlen] at hv
    clear hK0 hlen
    generalize hN' : (A' ++ [c'] ++ B').length = N' at hv hl1 hl2 hl3 hl4
    have HN' : Hid ((A' ++ [c'] ++ B').length = N') := hN'
    clear hN'
    subst hv
    have hAN' : A'.length < N' := by rw [← HN'.out]; simp
    obtain ⟨hcb', hfb'⟩ := cells_of hB'.cells
    have hc' := hB'.fam.each c' (by simp)
    have hfill' := hc'.fill (by omega)
    clear hfill hcb hfb hcell
    simp only [Kid.ptr] at hcell' hfill'
    have hgtr := gtr_full (N := c'.n) (by omega)
    by_cases hful : 8 < c'.n
    · rw [decide_eq_true hful] at hgtr
      go_upto_if 57 with (go_at_call 113; refine hfill'.mono ?_; rintro e w1 ⟨rfl, j2, rfl⟩)
      go_wp2
      have hi1 : (A'.length : Int) < (N' : Int) := by omega
      refine wp_region3 (fun W => W.heap[b]? = some (.cells (nilS :: .slice (some ⟨g', 0, none⟩) N' cv' :: cnt :: rest).toArray T (0, 0)) ∧ W.cell? ⟨g', A'.length, none⟩ = some (.pointer (some ⟨c'.b, 0, none⟩)))
        [(0, true), (1, true), (2, true), (3, true), (4, false), (5, true), (6, true), (7, true), (8, true), (9, true), (10, false), (11, true), (12, true), (13, false)] [14, 15, 16, 17, 18, 19] (by kernel_rfl) (by kernel_rfl) (fun _ _ d _ _ h => by cases d <;> exact h) ⟨hB'.cells, hcell'⟩ ?_
      repeat ((first | refine wpPre3_pure rfl rfl (fun W => (by go_simp; rfl)) ?_ | refine wpPre3_read rfl rfl (fun W hW => (by obtain ⟨hW1, hW2⟩ := hW; obtain ⟨hc, _⟩ := cells_of hW1; go_simp; rfl)) ?_); simp only [Act.put, List.setIfInBounds_toArray, List.set])
      refine wpPre3_nil ?_
      refine wpTail3_cons rfl rfl (fun K hK => ?_)
      go_wp2_with fail
      have hcl : c'.ls.length ≤ 1000000 := by have := itemsOf_mem (ks := A' ++ [c'] ++ B') (c := c') (by simp); omega
      refine (split_node ((hB'.fam.drewN (j2 + 1)).each c' (by simp)) (by omega) (by omega) hcl).mono ?_
      rintro e w1 ⟨x1, x2, rfl, hx1, hx2, hx1b, hx1n, hx2n, hxl, hxnd, hxf, hk1'⟩
      have hk1 : Kept (fun z => z ∈ c'.fp) wc w1 := hk1'.of_drewN
      have hxf' : ∀ z ∈ x1.fp ++ x2.fp, z ∈ c'.fp ∨ wc.heap.size ≤ z := hxf
      clear hk1' hxf
      obtain ⟨hap1, hap2, hap3⟩ := hB'.apart
      have inx : ∀ z ∈ c'.fp, z ∈ blocksOf (A' ++ [c'] ++ B') := fun z hz => by simp only [blocksOf_append, blocksOf_one, List.mem_append]; exact .inl (.inr hz)
      have hb1 := hk1.get hB'.cells (fun hh => hap2 (inx _ hh))
      have hgx : g' ∉ c'.fp := fun hh => hap3 g' (by simp [fpv_some]) (inx _ hh)
      have hgl : g' < wc.heap.size := hB'.lt g' (by simp [fpv_some])
      have hg1 : ∀ o, w1.cell? ⟨g', o, none⟩ = wc.cell? ⟨g', o, none⟩ := fun o => World.cell?_of_block (w := wc) (hk1.block g' hgl hgx)
      refine hK _ _ ⟨fun _ => ⟨hb1, by rw [hg1]; exact hcell'⟩, ?_⟩
      clear hK
      rw [show x2.ptr = .pointer (some ⟨x2.b, 0, none⟩) from rfl]
      refine wpTail3_cons rfl rfl (fun K hK => ?_)
      go_wp2_with fail
      have hbl1 := lt_of_heap hb1
      have hgl1 : g' < w1.heap.size := Nat.lt_of_lt_of_le hgl hk1.size
      obtain ⟨hn2, hsz2, hk2⟩ := new1 w1 (Obj.cells #[.pointer (some ⟨x2.b, 0, none⟩)] 141)
      have hcell1 : (w1.alloc (Obj.cells #[.pointer (some ⟨x2.b, 0, none⟩)] 141)).cell? ⟨g', A'.length, none⟩ = some (.pointer (some ⟨c'.b, 0, none⟩)) := by
        rw [World.cell?_of_block (w := w1) (hk2.block g' hgl1 (fun h => h)), hg1]; exact hcell'
      refine ⟨fun _ => ⟨hk2.get hb1 (fun h => h), hcell1⟩, ?_⟩
      have hb2 := hk2.get hb1 (fun h => h)
      have hr2 : Row (w1.alloc (Obj.cells #[.pointer (some ⟨x2.b, 0, none⟩)] 141)) 141 1 (.slice (some ⟨g', 0, none⟩) N' cv') N' ((A' ++ [c'] ++ B').map Kid.ptr) :=
        (HN'.out ▸ hB'.row.kept hk1 (fun z hz hh => hap3 z hz (inx _ hh))).alloc _
      refine wpTail3_last (by kernel_rfl) rfl rfl (fun K hK => ?_)
      go_wp2_with fail
      generalize hw1s : w1.heap.size = s1 at hn2 hsz2 ⊢
      have hs1 : wc.heap.size ≤ s1 := hw1s ▸ hk1.size
      generalize w1.alloc (Obj.cells #[.pointer (some ⟨x2.b, 0, none⟩)] 141) = w1a at hn2 hsz2 hk2 hb2 hr2 ⊢
      refine (insertK _ N' (A'.length + 1) _ _ (.pointer (some ⟨x2.b, 0, none⟩)) s1 w1a hr2 (by omega) (by omega) hn2 (by rw [fpv_some]; simp; omega) rfl (ptr_one _) (by omega)).mono ?_
      rintro e w3 ⟨v3, rfl, hr3, hg3⟩
      have hb3 := hg3.1.get hb2 (fun hh => hap1 hh)
      obtain ⟨hc3, hf3⟩ := cells_of hb3
      refine hK _ _ ?_
      clear hK
      refine wpTail3_last (by kernel_rfl) rfl rfl (fun K hK => ?_)
      go_wp2_with fail
      refine wpTail3_last (by kernel_rfl) rfl rfl (fun K hK => ?_)
      go_wp2_with fail
      refine wpTail3_last (by kernel_rfl) rfl rfl (fun K hK => ?_)
      obtain ⟨p3, c3, rfl⟩ := hr3.slice
      go_wp2_with fail
      refine wpTail3_nil ?_
      have hMs := mid_split (A := A') (B := B') hB' hx1 hx2 hxl hxnd hxf' hk1 (w2 := w3) (v' := .slice p3 (N' + 1) c3) (by
        have e1 := ptrs_split A' B' c' x1 x2 (by simp [Kid.ptr, hx1b])
        have e3 : (A' ++ [x1, x2] ++ B').length = N' + 1 := by rw [← HN'.out]; simp; omega
        rw [← e1, e3]
        exact hr3) ((hk2.mono (fun _ h _ => h.elim)).step hg3.1) (fun z hz => (hg3.2 z hz).imp id (fun h => by omega)) rfl
      go_wp2
      go_end0
      refine ⟨rfl, _, _, hM.trans hMs, fun x hx => ?_, by have := HN'.out; simp at this ⊢; omega, by have := HN'.out; simp at this ⊢; omega, by have := HN'.out; simp at this ⊢; omega, by have := HN'.out; simp at this ⊢; omega⟩
      simp only [List.mem_append, List.mem_cons, List.not_mem_nil, or_false] at hx
      rcases hx with (hx | rfl | rfl) | hx
      · exact hok' x (by simp [hx])
      · exact ⟨by omega, by omega⟩
      · exact ⟨by omega, by omega⟩
      · exact hok' x (by simp [hx])
    · rw [decide_eq_false hful] at hgtr
      go_upto_if 57 with (go_at_call 113; refine hfill'.mono ?_; rintro e w1 ⟨rfl, j2, rfl⟩)
      go_wp2
      go_end0
      refine ⟨rfl, _, _, hM.drewN j2, fun x hx => ?_, by rw [HN'.out]; omega, by rw [HN'.out]; omega, by rw [HN'.out]; omega, by rw [HN'.out]; omega⟩
      simp only [List.mem_append, List.mem_cons, List.not_mem_nil, or_false] at hx
      rcases hx with (hx | rfl) | hx
      · exact hok' x (by simp [hx])
      · exact ⟨hn4, by omega⟩
      · exact hok' x (by simp [hx])
end Go.Proofs.YtdpfohgkikjeaaaGreat
/- insert and remove, below the root. -/
namespace Go.Proofs.YtdpfohgkikjeaaaGreat
open Go.RowKit
set_option linter.unusedVariables false
set_option linter.unusedSimpArgs false

theorem items_split {A B : List Kid} {c : Kid} {p : Nat} {item : Str} (h : p ≤ c.ls.length) : itemsOf A ++ (c.ls.take p ++ item :: c.ls.drop p) ++ itemsOf B = (itemsOf (A ++ [c] ++ B)).take ((itemsOf A).length + p) ++ item :: (itemsOf (A ++ [c] ++ B)).drop ((itemsOf A).length + p) := by
  have e : itemsOf (A ++ [c] ++ B) = itemsOf A ++ (c.ls ++ itemsOf B) := by simp [itemsOf]
  rw [e, List.take_append, List.drop_append, List.take_of_length_le (l := itemsOf A) (by omega), List.drop_eq_nil_of_le (show (itemsOf A).length ≤ (itemsOf A).length + p by omega), show (itemsOf A).length + p - (itemsOf A).length = p by omega, List.take_append_of_le_length h, List.drop_append_of_le_length h]
  simp

theorem items_cut {A B : List Kid} {c : Kid} {p : Nat} (h : p < c.ls.length) : itemsOf A ++ (c.ls.take p ++ c.ls.drop (p + 1)) ++ itemsOf B = (itemsOf (A ++ [c] ++ B)).take ((itemsOf A).length + p) ++ (itemsOf (A ++ [c] ++ B)).drop ((itemsOf A).length + p + 1) := by
  have e : itemsOf (A ++ [c] ++ B) = itemsOf A ++ (c.ls ++ itemsOf B) := by simp [itemsOf]
  rw [e, List.take_append, List.drop_append, List.take_of_length_le (l := itemsOf A) (by omega), List.drop_eq_nil_of_le (show (itemsOf A).length ≤ (itemsOf A).length + p + 1 by omega), show (itemsOf A).length + p - (itemsOf A).length = p by omega, show (itemsOf A).length + p + 1 - (itemsOf A).length = p + 1 by omega, List.take_append_of_le_length (by omega), List.drop_append_of_le_length (by omega)]
  simp

/-- A store into the count. -/
theorem Brn.count {w : World} {h : Nat} {rest : List Value} {T : TypeId} {b : Nat} {v cnt cnt' : Value} {ks : List Kid} (hB : Brn w h rest T b v cnt ks) : Brn (w.setCell ⟨b, 2, none⟩ cnt') h rest T b v cnt' ks := by
  obtain ⟨h1, h2, h3⟩ := hB.apart
  refine ⟨by rw [heap_set_same hB.cells]; simp, hB.row.kept Kept.cell1 (fun x hx e => h1 (e ▸ hx)), hB.fam.kept Kept.cell1 (fun x hx e => h2 (e ▸ hx)), hB.nodup⟩

/-- What a call leaves of a node. -/
structure Left1 (w w' : World) (h : Nat) (rest : List Value) (T : TypeId) (k k' : Kid) : Prop where
  node : NodeR w' h rest T k'
  b : k'.b = k.b
  sub : ∀ x ∈ k'.fp, x ∈ k.fp ∨ w.heap.size ≤ x
  kept : Kept (fun x => x ∈ k.fp) w w'

theorem NodeR.leaf {w : World} {h : Nat} {rest T k} (hN : NodeR w h rest T k) : Calls Tryz.prog 107 #[k.ptr] w fun e w' => e = .returned (.bool (decide (h = 0))) ∧ w' = w := by
  cases h with
  | zero =>
    obtain ⟨v, hl⟩ := hN
    exact (leaf_any k.b v nilS k.count rest T w hl.cells none 0 0 rfl).mono (fun e w' h => by simpa using h)
  | succ h =>
    obtain ⟨h0, v, ks, hb, _⟩ := hN
    obtain ⟨p, c, rfl⟩ := hb.row.slice
    refine (leaf_any k.b nilS (.slice p k.n c) k.count rest T w hb.cells p k.n c rfl).mono (fun e w' h => ?_)
    rw [decide_eq_false (by omega : ¬ k.n = 0)] at h
    simpa using h

theorem leaf_calls {w : World} {b : Nat} {vi vk cnt : Value} {rest : List Value} {T : TypeId} (hb : w.heap[b]? = some (.cells (vi :: vk :: cnt :: rest).toArray T (0, 0))) {p : Option Addr} {n c : Nat} (hk : vk = .slice p n c) (t : Bool) (ht : t = decide (n = 0)) :
    Calls Tryz.prog 107 #[.pointer (some ⟨b, 0, none⟩)] w fun e w' => e = .returned (.bool t) ∧ w' = w := by
  subst ht
  exact leaf_any b vi vk cnt rest T w hb p n c hk

set_option maxHeartbeats 2000000 in
set_option maxRecDepth 100000 in
theorem insert_leaf {w : World} {rest : List Value} {T : TypeId} {k : Kid} (hN : NodeR w 0 rest T k) (item : Str) (p : Nat) (pI : Int) (hpI : pI = (p : Int)) (hp : p ≤ k.ls.length) (hl : k.ls.length ≤ 1000) :
    Calls Tryz.prog 112 #[.pointer (some ⟨k.b, 0, none⟩), .int .i64 pI, sv item] w fun e w' => e = .returned (.tuple #[]) ∧ ∃ k', Left1 w w' 0 rest T k k' ∧ k'.ls = k.ls.take p ++ item :: k.ls.drop p ∧ k'.n = k.n + 1 := by
  subst hpI
  obtain ⟨v, hL⟩ := hN
  obtain ⟨b, n, ls, fp⟩ := k
  obtain ⟨hb, hr, hfp, hnd⟩ := hL
  simp only at hb hr hfp hnd hp hl
  simp only [Kid.count] at hb
  have hll : ls.length = n := by simpa using hr.len
  subst hll
  obtain ⟨pv, cv, rfl⟩ := hr.slice
  obtain ⟨hc, hf⟩ := cells_of hb
  have hbv : b ∉ fpv (.slice pv ls.length cv) := by rw [hfp, List.nodup_cons] at hnd; exact hnd.1
  have hw : IntKind.i64.wrap ((ls.length : Int) + 1) = (ls.length : Int) + 1 := by rw [IntKind.wrap_i64]; omega
  go_enter Tryz.func112, Tryz.ntmps112
  go_wp2_with fail
  have hb1 : (w.setCell ⟨b, 2, none⟩ (.int .i64 ((ls.length : Int) + 1))).heap[b]? = some (.cells (.slice pv ls.length cv :: nilS :: .int .i64 ((ls.length : Int) + 1) :: rest).toArray T (0, 0)) := by rw [heap_set_same hb]; simp
  have hk1 : Kept (fun x => x = b) w (w.setCell ⟨b, 2, none⟩ (.int .i64 ((ls.length : Int) + 1))) := Kept.cell1
  have hr1 := hr.kept hk1 (fun x hx e => hbv (e ▸ hx))
  generalize w.setCell ⟨b, 2, none⟩ (.int .i64 ((ls.length : Int) + 1)) = w1 at hb1 hk1 hr1 ⊢
  refine (leaf_calls hb1 rfl true rfl).mono ?_
  rintro e w1b ⟨rfl, hw1⟩
  rw [hw1]
  clear hw1
  obtain ⟨hc1, hf1⟩ := cells_of hb1
  go_wp2_with fail
  obtain ⟨hn2, hsz2, hk2⟩ := new1 w1 (Obj.cells #[sv item] 9)
  have hb2 := hk2.get hb1 (fun h => h)
  have hr2 := hr1.alloc (Obj.cells #[sv item] 9)
  have hlt := hr1.lt
  have hsz1 := hk1.size
  have hk2' : Kept (fun x => x = b) w (w1.alloc (Obj.cells #[sv item] 9)) := hk1.step (hk2.mono (fun _ h _ => h.elim))
  have hlt0 := hr.lt
  generalize hs1 : w1.heap.size = s1 at hn2 hsz2 hlt hsz1 ⊢
  generalize w1.alloc (Obj.cells #[sv item] 9) = w2 at hn2 hsz2 hk2' hb2 hr2 ⊢
  refine (insertS _ ls.length p _ _ (sv item) s1 w2 hr2 rfl (by omega) hn2 (fun hh => by have := hlt s1 hh; omega) rfl (sv_one _) (by omega)).mono ?_
  rintro e w3 ⟨v3, rfl, hr3', hg3⟩
  have hr3 : Row w3 9 1 v3 (ls.length + 1) ((ls.take p ++ item :: ls.drop p).map sv) := by
    have e : (ls.map sv).take p ++ sv item :: (ls.map sv).drop p = (ls.take p ++ item :: ls.drop p).map sv := by simp [List.map_take, List.map_drop]
    rw [← e]; exact hr3'
  clear hr3'
  have hb3 := hg3.1.get hb2 hbv
  obtain ⟨hc3, hf3⟩ := cells_of hb3
  obtain ⟨p3, c3, rfl⟩ := hr3.slice
  go_wp2
  refine bodyPost_ret (results_none rfl _ _ _) rfl ?_
  have hb4 : (w3.setCell ⟨b, 0, none⟩ (.slice p3 (ls.length + 1) c3)).heap[b]? = some (.cells (.slice p3 (ls.length + 1) c3 :: nilS :: .int .i64 ((ls.length : Int) + 1) :: rest).toArray T (0, 0)) := by rw [heap_set_same hb3]; simp
  have hbl := lt_of_heap hb
  have hv3 : ∀ x ∈ fpv (.slice p3 (ls.length + 1) c3), x ∈ fpv (.slice pv ls.length cv) ∨ w.heap.size ≤ x := fun x hx => (hg3.2 x hx).imp id (fun h => by omega)
  have hb3n : b ∉ fpv (.slice p3 (ls.length + 1) c3) := fun hh => by
    rcases hv3 b hh with h1 | h1
    · exact hbv h1
    · omega
  refine ⟨rfl, ⟨b, ls.length + 1, ls.take p ++ item :: ls.drop p, b :: fpv (.slice p3 (ls.length + 1) c3)⟩, ⟨⟨_, ⟨?_, hr3.kept Kept.cell1 (fun x hx e => hb3n (e ▸ hx)), rfl, List.nodup_cons.2 ⟨hb3n, fpv_nodup _⟩⟩⟩, rfl, fun x hx => ?_, ?_⟩, rfl, rfl⟩
  · have e : ((ls.take p ++ item :: ls.drop p).length : Int) = (ls.length : Int) + 1 := by simp; omega
    simp only [Kid.count]
    rw [e]; exact hb4
  · show x ∈ fp ∨ _
    rw [hfp]
    rcases List.mem_cons.1 hx with rfl | hx
    · exact .inl (by simp)
    · exact (hv3 x hx).imp (fun h => by simp [h]) id
  · refine ((hk2'.mono (T := fun x => x ∈ fp) (fun x hx _ => by rw [hfp, hx]; simp)).step' hg3.1 (fun x hx _ => by rw [hfp]; simp [hx])).setCell (p := ⟨b, 0, none⟩) (fun _ => by show b ∈ fp; rw [hfp]; simp) _

set_option maxHeartbeats 2000000 in
set_option maxRecDepth 100000 in
theorem remove_leaf {w : World} {rest : List Value} {T : TypeId} {k : Kid} (hN : NodeR w 0 rest T k) (p : Nat) (pI : Int) (hpI : pI = (p : Int)) (hp : p < k.ls.length) (hl : k.ls.length ≤ 1000) :
    Calls Tryz.prog 83 #[.pointer (some ⟨k.b, 0, none⟩), .int .i64 pI] w fun e w' => e = .returned (.tuple #[]) ∧ ∃ k', Left1 w w' 0 rest T k k' ∧ k'.ls = k.ls.take p ++ k.ls.drop (p + 1) ∧ k'.n + 1 = k.n := by
  subst hpI
  obtain ⟨v, hL⟩ := hN
  obtain ⟨b, n, ls, fp⟩ := k
  obtain ⟨hb, hr, hfp, hnd⟩ := hL
  simp only at hb hr hfp hnd hp hl
  simp only [Kid.count] at hb
  have hll : ls.length = n := by simpa using hr.len
  subst hll
  obtain ⟨pv, cv, rfl⟩ := hr.slice
  obtain ⟨hc, hf⟩ := cells_of hb
  have hbv : b ∉ fpv (.slice pv ls.length cv) := by rw [hfp, List.nodup_cons] at hnd; exact hnd.1
  have hw : IntKind.i64.wrap ((ls.length : Int) - 1) = (ls.length : Int) - 1 := by rw [IntKind.wrap_i64]; omega
  have hw2 : IntKind.i64.wrap ((p : Int) + 1) = (p : Int) + 1 := by rw [IntKind.wrap_i64]; omega
  go_enter Tryz.func83, Tryz.ntmps83
  go_wp2_with fail
  have hb1 : (w.setCell ⟨b, 2, none⟩ (.int .i64 ((ls.length : Int) - 1))).heap[b]? = some (.cells (.slice pv ls.length cv :: nilS :: .int .i64 ((ls.length : Int) - 1) :: rest).toArray T (0, 0)) := by rw [heap_set_same hb]; simp
  have hk1 : Kept (fun x => x = b) w (w.setCell ⟨b, 2, none⟩ (.int .i64 ((ls.length : Int) - 1))) := Kept.cell1
  have hr1 := hr.kept hk1 (fun x hx e => hbv (e ▸ hx))
  generalize w.setCell ⟨b, 2, none⟩ (.int .i64 ((ls.length : Int) - 1)) = w1 at hb1 hk1 hr1 ⊢
  refine (leaf_calls hb1 rfl true rfl).mono ?_
  rintro e w1b ⟨rfl, hw1⟩
  rw [hw1]
  clear hw1
  obtain ⟨hc1, hf1⟩ := cells_of hb1
  go_wp2_with fail
  refine (deleteS _ ls.length p (p + 1) _ _ _ w1 hr1 rfl (by omega) (by omega) (by omega) (sv_one _)).mono ?_
  rintro e w3 ⟨v3, rfl, hr3', hg3, hfp3, _⟩
  obtain ⟨M, HM⟩ : ∃ M, M + 1 = ls.length := ⟨ls.length - 1, by omega⟩
  have HM' : Hid (M + 1 = ls.length) := HM
  have hr3 : Row w3 9 1 v3 M ((ls.take p ++ ls.drop (p + 1)).map sv) := by
    have e : (ls.map sv).take p ++ (ls.map sv).drop (p + 1) = (ls.take p ++ ls.drop (p + 1)).map sv := by simp [List.map_take, List.map_drop]
    have e2 : p + (ls.length - (p + 1)) = M := by omega
    rw [e, e2] at hr3'
    exact hr3'
  clear hr3' HM
  have hb3 := hg3.1.get hb1 hbv
  obtain ⟨hc3, hf3⟩ := cells_of hb3
  obtain ⟨p3, c3, rfl⟩ := hr3.slice
  go_wp2
  refine bodyPost_ret (results_none rfl _ _ _) rfl ?_
  have hb4 : (w3.setCell ⟨b, 0, none⟩ (.slice p3 M c3)).heap[b]? = some (.cells (.slice p3 M c3 :: nilS :: .int .i64 ((ls.length : Int) - 1) :: rest).toArray T (0, 0)) := by rw [heap_set_same hb3]; simp
  have hbl := lt_of_heap hb
  have hb3n : b ∉ fpv (.slice p3 M c3) := by rw [hfp3]; exact hbv
  refine ⟨rfl, ⟨b, M, ls.take p ++ ls.drop (p + 1), b :: fpv (.slice p3 M c3)⟩, ⟨⟨_, ⟨?_, hr3.kept Kept.cell1 (fun x hx e => hb3n (e ▸ hx)), rfl, List.nodup_cons.2 ⟨hb3n, fpv_nodup _⟩⟩⟩, rfl, fun x hx => ?_, ?_⟩, rfl, HM'.out⟩
  · have e : ((ls.take p ++ ls.drop (p + 1)).length : Int) = (ls.length : Int) - 1 := by simp; omega
    simp only [Kid.count]
    rw [e]; exact hb4
  · show x ∈ fp ∨ _
    rw [hfp]
    rw [hfp3] at hx
    exact .inl hx
  · refine ((hk1.mono (T := fun x => x ∈ fp) (fun x hx _ => by rw [hfp, hx]; simp)).step' hg3.1 (fun x hx _ => by rw [hfp]; simp [hx])).setCell (p := ⟨b, 0, none⟩) (fun _ => by show b ∈ fp; rw [hfp]; simp) _
end Go.Proofs.YtdpfohgkikjeaaaGreat
