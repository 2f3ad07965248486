/- Part 11 of the proof: see its parts. -/
import Derived.Test.YtdpfohgkikjeaaaGreatU10
/- Acts: the walk. -/
namespace Go.Proofs.YtdpfohgkikjeaaaGreat
open Go.RowKit
set_option linter.unusedVariables false
set_option linter.unusedSimpArgs false

/-- In the midst of Acts: what was there is as it was; the slice owns these acts, and is new. -/
structure AS (w1 wx : World) (v : Value) (l : List PAct) : Prop where
  kept : Kept no w1 wx
  row : ActsRow wx v l
  fresh : ∀ x ∈ fpv v, w1.heap.size ≤ x

theorem AS.call {w1 wx wy v l} (a : AS w1 wx v l) (k : Kept no wx wy) : AS w1 wy v l := ⟨a.kept.step k, a.row.kept k (fun _ _ h => h), a.fresh⟩
theorem AS.alloc {w1 wx v l} (a : AS w1 wx v l) (o : Obj) : AS w1 (wx.alloc o) v l := a.call ((Kept.refl _ _).alloc o)
theorem AS.app {w1 wx wy v v' l news} (a : AS w1 wx v l) (h : ActsRow wy v' (l ++ news)) (g : Grew wx wy v v') : AS w1 wy v' (l ++ news) :=
  ⟨a.kept.step' g.1 (fun x hx hlt => by have := a.fresh x hx; omega), h, fun x hx => (g.2 x hx).elim (a.fresh x) (fun h => Nat.le_trans a.kept.size h)⟩
theorem AS.nil (w1 : World) : AS w1 w1 (.slice none 0 0) [] := ⟨Kept.refl _ _, ActsRow.nil _, by simp [fpv_nil]⟩

/-- The writer's four cells. -/
structure WrAt (w : World) (b o : Nat) (wr : Wr) : Prop where
  c0 : w.cell? ⟨b, o, none⟩ = some (.bool wr.known)
  c1 : w.cell? ⟨b, o + 1, none⟩ = some (.bool wr.unsettled)
  c2 : w.cell? ⟨b, o + 2, none⟩ = some (.int .i64 (wr.half : Int))
  c3 : w.cell? ⟨b, o + 3, none⟩ = some (.int .u64 (wr.number : Int))

theorem WrAt.kept {S : Blocks} {w w' : World} {b o : Nat} {wr : Wr} (h : WrAt w b o wr) (k : Kept S w w') (hb : ¬ S b) : WrAt w' b o wr := by
  have hlt := World.block_lt_of_cell? _ _ h.c0
  have e : ∀ i, w'.cell? ⟨b, i, none⟩ = w.cell? ⟨b, i, none⟩ := fun i => World.cell?_of_block (w := w) (k.block b hlt hb)
  exact ⟨by rw [e]; exact h.c0, by rw [e]; exact h.c1, by rw [e]; exact h.c2, by rw [e]; exact h.c3⟩

theorem head_stored {W : World} {Hb : Nat} {T : TypeId} {c0 c1 c2 c3 c4 v0 v1 v2 v3 v4 : Value} (h : W.heap[Hb]? = some (.cells #[c0, c1, c2, c3, c4] T (0, 0))) :
    (((((W.setCell ⟨Hb, 0, none⟩ v0).setCell ⟨Hb, 1, none⟩ v1).setCell ⟨Hb, 2, none⟩ v2).setCell ⟨Hb, 3, none⟩ v3).setCell ⟨Hb, 4, none⟩ v4).heap[Hb]? = some (.cells #[v0, v1, v2, v3, v4] T (0, 0)) ∧
    Kept (fun x => x = Hb) W (((((W.setCell ⟨Hb, 0, none⟩ v0).setCell ⟨Hb, 1, none⟩ v1).setCell ⟨Hb, 2, none⟩ v2).setCell ⟨Hb, 3, none⟩ v3).setCell ⟨Hb, 4, none⟩ v4) := by
  have e1 := heap_set_same (o := 0) (v := v0) h
  have e2 := heap_set_same (o := 1) (v := v1) e1
  have e3 := heap_set_same (o := 2) (v := v2) e2
  have e4 := heap_set_same (o := 3) (v := v3) e3
  have e5 := heap_set_same (o := 4) (v := v4) e4
  exact ⟨by rw [e5]; simp, (((Kept.cell1.step Kept.cell1).step Kept.cell1).step Kept.cell1).step Kept.cell1⟩

theorem AS.made {w1 wx v l} (a : AS w1 wx v l) (o : Obj) : (wx.alloc o).heap[wx.heap.size]? = some o ∧ AS w1 (wx.alloc o) v l ∧ (∀ x ∈ fpv v, x ≠ wx.heap.size) ∧ w1.heap.size ≤ wx.heap.size :=
  ⟨heap_alloc_same, a.alloc o, fun x hx e => by have := a.row.lt x hx; omega, a.kept.size⟩

/-- A store into a block that is newer than the slice. -/
theorem AS.turned {w1 wx wy v l} {Hb : Nat} (a : AS w1 wx v l) (h : ∀ x ∈ fpv v, x ≠ Hb) (hge : w1.heap.size ≤ Hb) (k : Kept (fun x => x = Hb) wx wy) : AS w1 wy v l :=
  ⟨a.kept.step' k (fun x hx hlt => by omega), a.row.kept k (fun x hx e => h x hx e), a.fresh⟩

theorem hold {p : Prop} (h : Hid p) : p := h

set_option maxHeartbeats 2000000 in
set_option maxRecDepth 100000 in
theorem acts_any (b o : Nat) (wq : Wr) (t : Str) (file : Mark) (w : World) (hw : WrAt w b o wq) (hh : wq.half ≤ 1) (hn : wq.number < 18446744073709551616) (ht : t.length ≤ 2460) (hf : file.sum < 4294967296) (hl0 : -9223372036854775808 ≤ file.len) (hl1 : file.len < 9223372036854775808) :
    Calls Tryz.prog 86 #[.pointer (some ⟨b, o, none⟩), .string ⟨t.toArray⟩, .agg #[.int .i64 file.len, .int .u32 (file.sum : Int)]] w fun e w' => ∃ v, e = .returned v ∧ ActsRow w' v (wq.acts t file) ∧ Kept no w w' ∧ ∀ x ∈ fpv v, w.heap.size ≤ x := by
  go_enter Tryz.func86, Tryz.ntmps86
  go_wp2_with fail
  obtain ⟨hn1, hsz1, hk1⟩ := new1 w (Obj.cells #[.int .i64 file.len, .int .u32 (file.sum : Int)] 93)
  have hw1 := hw.kept hk1 (fun h => h)
  generalize hB : w.heap.size = B at hn1 hsz1 ⊢
  generalize w.alloc (Obj.cells #[.int .i64 file.len, .int .u32 (file.sum : Int)] 93) = w1 at hn1 hsz1 hk1 hw1 ⊢
  refine (next_any b o wq.half wq.number w1 hw1.c2 hw1.c3 (by omega) (by omega) hn).mono ?_
  rintro e w2 ⟨rfl, hnx⟩
  have hk12 : Kept no w1 w2 := by obtain ⟨j, rfl⟩ := hnx; exact (Kept.refl _ _).drewN j
  clear hnx
  have hA2 := (AS.nil w1).call hk12
  have hw2 := hw1.kept hk12 (fun h => h)
  have hh1 : (1 : Int) - (wq.half : Int) = ((1 - wq.half : Nat) : Int) := by omega
  rw [hh1]
  obtain ⟨hc0, hc1, hc2, hc3⟩ := hw2
  go_upto_if 21 with fail
  generalize Value.slice none 0 0 = v0 at hA2 ⊢
  go_cut [9] (fun s9 wx => AS w1 wx s9 (if wq.unsettled then [pSettle] else []))
  case first =>
    cases hu : wq.unsettled with
    | false =>
      rw [hu] at hc1
      go_wp2
      go_meet
      case rel => rw [if_neg (by simp [hu])]; exact hA2
    | true =>
      rw [hu] at hc1
      go_wp2_with fail
      refine (settle_act _).mono ?_
      rintro e w3 ⟨rfl, hk3⟩
      have hA3 := hA2.call hk3
      go_wp2_with (at_builtin; apply hold)
      delta Hid
      refine wpList_acts rfl _ _ rfl _ _ rfl (hA3.alloc _).row _ 1 1 [pSettle] rfl rfl (by rw [heap_alloc_same]; rfl) (by simp) (fun v' w' hr hg => ?_)
      have hA4 := (hA3.alloc _).app hr hg
      go_wp2
      go_meet
      case rel => rw [if_pos hu]; exact hA4
  case rest =>
    have hw2 : WrAt wc b o wq := hw1.kept hcut.kept (fun h => h)
    generalize hacts : (if wq.unsettled = true then [pSettle] else []) = l1 at hcut
    have HL1 : Hid ((if wq.unsettled = true then [pSettle] else []) = l1) := hacts
    have hL1 : l1.length ≤ 1 := by rw [← hacts]; split <;> simp
    clear hacts hA2 hc0 hc1 hc2 hc3
    obtain ⟨hc0, hc1, hc2, hc3⟩ := hw2
    go_wp2_with fail
    refine (blot_act (1 - wq.half) _ rfl _ (by omega)).mono ?_
    rintro e w3 ⟨rfl, hk3⟩
    have hA3 := hcut.call hk3
    go_wp2_with (at_builtin; apply hold)
    delta Hid
    refine wpList_acts rfl _ _ rfl _ _ rfl (hA3.alloc _).row _ 1 1 [pWrite (40 * (1 - wq.half)) []] rfl rfl (by rw [heap_alloc_same]; rfl) (by omega) (fun v4 w4 hr hg => ?_)
    have hA4 := (hA3.alloc _).app hr hg
    clear hr hg hA3
    have hw4 := hw1.kept hA4.kept (fun h => h)
    go_upto_if 32 with (go_at_call 58; refine (fresh_any b o wq.known w4 hw4.c0).mono ?_; rintro e w5 ⟨rfl, rfl⟩)
    go_cut [9] (fun s9 wx => AS w1 wx s9 (l1 ++ [pWrite (40 * (1 - wq.half)) []] ++ (if wq.known then [] else [pWrite (40 * wq.half) []])))
    case first =>
      cases hu : wq.known with
      | true =>
        go_wp2
        go_meet
        case rel => rw [if_pos hu, List.append_nil]; exact hA4
      | false =>
        have hh2 : (1 : Int) - (((1 - wq.half : Nat) : Int)) = ((wq.half : Nat) : Int) := by omega
        have hsub : IntKind.i64.wrap ((1 : Int) - (((1 - wq.half : Nat) : Int))) = ((wq.half : Nat) : Int) := by rw [IntKind.wrap_i64]; omega
        go_wp2_with fail
        refine (blot_act wq.half _ (by omega) _ hh).mono ?_
        rintro e w6 ⟨rfl, hk6⟩
        have hA6 := hA4.call hk6
        go_wp2_with (at_builtin; apply hold)
        delta Hid
        refine wpList_acts rfl _ _ rfl _ _ rfl (hA6.alloc _).row _ 1 1 [pWrite (40 * wq.half) []] rfl rfl (by rw [heap_alloc_same]; rfl) (by simp only [List.length_append, List.length_cons, List.length_nil]; omega) (fun v7 w7 hr hg => ?_)
        have hA7 := (hA6.alloc _).app hr hg
        go_wp2
        go_meet
        case rel => rw [if_neg (by simp [hu])]; exact hA7
    case rest =>
      clear hA4 hw4 hc0 hc1 hc2 hc3
      generalize hacts : l1 ++ [pWrite (40 * (1 - wq.half)) []] ++ (if wq.known = true then [] else [pWrite (40 * wq.half) []]) = l2 at hcut
      have HL2 : Hid (l1 ++ [pWrite (40 * (1 - wq.half)) []] ++ (if wq.known = true then [] else [pWrite (40 * wq.half) []]) = l2) := hacts
      have hL2 : l2.length ≤ 3 := by rw [← hacts]; simp only [List.length_append, List.length_cons, List.length_nil]; split <;> simp <;> omega
      clear hacts
      go_wp2_with fail
      refine (settle_act _).mono ?_
      rintro e w8 ⟨rfl, hk8⟩
      have hA8 := hcut.call hk8
      go_wp2_with (at_builtin; apply hold)
      delta Hid
      refine wpList_acts rfl _ _ rfl _ _ rfl (hA8.alloc _).row _ 1 1 [pSettle] rfl rfl (by rw [heap_alloc_same]; rfl) (by omega) (fun v9 w9 hr hg => ?_)
      have hA9 := (hA8.alloc _).app hr hg
      clear hr hg hA8
      go_wp2
      go_loopw [9, 10] (fun s9 s10 wx => ∃ j : Nat, j ≤ nPieces t ∧ s10 = .int .i64 ((64 * j : Nat) : Int) ∧ AS w1 wx s9 (l2 ++ [pSettle] ++ (bodyActs (1 - wq.half) t).take j)) (fun _ s10 _ => t.length + 64 - (intOf s10).toNat)
      case atStart => exact ⟨0, Nat.zero_le _, rfl, by simpa using hA9⟩
      case round =>
        obtain ⟨j, hj, rfl, hAj⟩ := hrel
        generalize hp : 64 * j = p
        have HP : Hid (64 * j = p) := hp
        by_cases hlt : p < t.length
        · have hjn : j < nPieces t := by unfold nPieces; omega
          have hlti : (p : Int) < (t.length : Int) := by omega
          have hdiv : (p : Int) / 64 = (j : Int) := by omega
          obtain ⟨m, hm⟩ : ∃ m, m = min (p + 64) t.length := ⟨_, rfl⟩
          have hmin : min ((p : Int) + 64) (t.length : Int) = (m : Int) := by omega
          have hm1 : p ≤ m := by omega
          have hm2 : m ≤ t.length := by omega
          have HM : Hid (m = min (p + 64) t.length) := hm
          clear hm hp
          have hj39 : j ≤ 39 := by unfold nPieces at hjn; omega
          have hcut' : ({ data := t.toArray } : ByteArray).extract p m = ⟨((t.drop p).take 64).toArray⟩ := by
            rw [extract_list]
            have e : ((t.toArray.toList.take m).drop p) = (t.drop p).take 64 := by
              show (t.take m).drop p = _
              rw [List.drop_take]
              rcases Nat.lt_or_ge t.length (p + 64) with h1 | h1
              · have : m - p = (t.drop p).length := by rw [List.length_drop, HM.out]; omega
                rw [this, List.take_length, List.take_of_length_le (by rw [List.length_drop]; omega)]
              · rw [HM.out, show min (p + 64) t.length - p = 64 by omega]
            rw [e]
          have HC : Hid (({ data := t.toArray } : ByteArray).extract p m = ⟨((t.drop p).take 64).toArray⟩) := hcut'
          clear hcut'
          go_wp2_with fail
          refine (bodyAt_any ((1 - wq.half : Nat) : Int) wr (by omega) (by omega)).mono ?_
          rintro e w10 ⟨rfl, hwe⟩
          rw [hwe, HC.out]
          clear hwe
          have hwa : IntKind.i64.wrap ((((1 - wq.half : Nat) : Int) * 40 + 1) + (j : Int)) = (((1 - wq.half : Nat) : Int) * 40 + 1) + (j : Int) := by rw [IntKind.wrap_i64]; omega
          go_wp2_with fail
          refine (write_act (40 * (1 - wq.half) + 1 + j) _ (by omega) ((t.drop p).take 64) _ (by rw [List.length_take]; omega)).mono ?_
          rintro e w11 ⟨rfl, hk11⟩
          have hA11 := hAj.call hk11
          have hllen : (l2 ++ [pSettle] ++ (bodyActs (1 - wq.half) t).take j).length ≤ 100 := by simp only [List.length_append, List.length_cons, List.length_nil, List.length_take]; omega
          go_wp2_with (at_builtin; apply hold)
          delta Hid
          refine wpList_acts rfl _ _ rfl _ _ rfl (hA11.alloc _).row _ 1 1 [pWrite (40 * (1 - wq.half) + 1 + j) ((t.drop p).take 64)] rfl rfl (by rw [heap_alloc_same]; rfl) (by omega) (fun v12 w12 hr hg => ?_)
          have hA12 := (hA11.alloc _).app hr hg
          clear hr hg hA11
          have hw64 : IntKind.i64.wrap ((p : Int) + 64) = (p : Int) + 64 := by rw [IntKind.wrap_i64]; omega
          go_wp2
          go_roundw
          case rel =>
            refine ⟨j + 1, hjn, by rw [← HP.out]; go_num, ?_⟩
            have hg := bodyActs_get (1 - wq.half) t hjn
            have e : (bodyActs (1 - wq.half) t).take (j + 1) = (bodyActs (1 - wq.half) t).take j ++ [pWrite (40 * (1 - wq.half) + 1 + j) ((t.drop p).take 64)] := by
              rw [List.take_add_one, hg, HP.out]; rfl
            rw [e, ← List.append_assoc]
            exact hA12
          case measure => simp [intOf]; omega
        · have hnlt : ¬ (p : Int) < (t.length : Int) := by omega
          have hjn : j = nPieces t := by unfold nPieces at *; omega
          clear hp
          go_wp2_with fail
          have hfull : (bodyActs (1 - wq.half) t).take j = bodyActs (1 - wq.half) t := List.take_of_length_le (by rw [bodyActs_length]; omega)
          rw [hfull] at hAj
          clear hfull hjn hnlt HP hA9
          generalize hacts : l2 ++ [pSettle] ++ bodyActs (1 - wq.half) t = l3 at hAj
          have HL3 : Hid (l2 ++ [pSettle] ++ bodyActs (1 - wq.half) t = l3) := hacts
          have hL3 : l3.length ≤ 60 := by rw [← hacts]; simp only [List.length_append, bodyActs_length, List.length_cons, List.length_nil]; unfold nPieces; omega
          clear hacts
          have hcB := hAj.kept.get hn1 (fun h => h)
          go_cut [12] (fun s12 wx => ∃ Hb, s12 = .pointer (some ⟨Hb, 0, none⟩) ∧ wx.heap[Hb]? = some (.cells (Head.cells (wq.head t file)) 164 (0, 0)) ∧ AS w1 wx u9 l3)
          case first =>
            refine wp_region4 (fun W => W.heap[B]? = some (.cells #[.int .i64 file.len, .int .u32 (file.sum : Int)] 93 (0, 0))) [(0, true), (1, true), (3, false)] 4 (by kernel_rfl) (by kernel_rfl) (fun _ _ d _ _ h => by cases d <;> exact h) hcB ?_
            repeat ((first | refine wpPre3_pure rfl rfl (fun W => (by go_simp; rfl)) ?_ | refine wpPre3_read rfl rfl (fun W hW => (by obtain ⟨hc, _⟩ := cells_of hW; go_simp; rfl)) ?_); simp only [Act.put, List.setIfInBounds_toArray, List.set])
            refine wpPre3_nil ?_
            refine wpGo3_two 2 5 (by kernel_rfl) (OpTo.mk rfl rfl (fun K hK => ?_)) (OpTo.mk rfl rfl (fun K hK => ?_))
            · go_wp2_with fail
              refine (markOf_any ⟨t.toArray⟩ _ (by simpa [ByteArray.size] using (by omega : t.length ≤ 140737488355328))).mono ?_
              rintro e Wm ⟨rfl, hkm⟩
              have hAm := hAj.call hkm.of_drew
              refine hK _ _ ⟨fun h => hkm.get h (fun h => h), ?_⟩
              clear hK
              refine wpGo3_two 4 5 (by kernel_rfl) (OpTo.mk rfl rfl (fun K hK => ?_)) (OpTo.mk rfl rfl (fun K hK => ?_))
              · go_wp2_with fail
                refine wpGo3_one 5 (by kernel_rfl) (OpTo.mk rfl rfl (fun K hK => ?_))
                go_wp2_with fail
                obtain ⟨hz, hA3, hHb, hge⟩ := hAm.made (Obj.cells #[.int .u64 0, .int .i64 0, .int .u32 0, .int .i64 0, .int .u32 0] 164)
                refine ⟨fun h => (heap_alloc_lt (lt_of_heap h)).trans h, ?_⟩
                generalize Wm.alloc (Obj.cells #[.int .u64 0, .int .i64 0, .int .u32 0, .int .i64 0, .int .u32 0] 164) = W3 at hz hA3 ⊢
                generalize Wm.heap.size = Hb at hz hHb hge ⊢
                obtain ⟨hcz, hfz⟩ := cells_of hz
                refine wpGo3_one 6 (by kernel_rfl) (OpTo.mk rfl rfl (fun K hK => ?_))
                go_wp2_with fail
                obtain ⟨hs1, hs2⟩ := head_stored (v0 := .int .u64 (((wq.number : Int) + 1) % 18446744073709551616)) (v1 := .int .i64 (t.length : Int)) (v2 := .int .u32 (crc t : Int)) (v3 := .int .i64 file.len) (v4 := .int .u32 (file.sum : Int)) hz
                refine ⟨fun h => hs2.get h (fun e => by omega), ?_⟩
                refine wpGo3_nil (by kernel_rfl) ?_
                go_wp2
                go_meet
                case rel => exact ⟨Hb, rfl, hs1, hA3.turned hHb hge hs2⟩

              · go_wp2_with fail
                obtain ⟨hz, hA3, hHb, hge⟩ := hAm.made (Obj.cells #[.int .u64 0, .int .i64 0, .int .u32 0, .int .i64 0, .int .u32 0] 164)
                refine ⟨fun h => (heap_alloc_lt (lt_of_heap h)).trans h, ?_⟩
                generalize Wm.alloc (Obj.cells #[.int .u64 0, .int .i64 0, .int .u32 0, .int .i64 0, .int .u32 0] 164) = W3 at hz hA3 ⊢
                generalize Wm.heap.size = Hb at hz hHb hge ⊢
                obtain ⟨hcz, hfz⟩ := cells_of hz
                refine wpGo3_one 4 (by kernel_rfl) (OpTo.mk rfl rfl (fun K hK => ?_))
                go_wp2_with fail
                refine ⟨fun h => h, ?_⟩
                refine wpGo3_one 6 (by kernel_rfl) (OpTo.mk rfl rfl (fun K hK => ?_))
                go_wp2_with fail
                obtain ⟨hs1, hs2⟩ := head_stored (v0 := .int .u64 (((wq.number : Int) + 1) % 18446744073709551616)) (v1 := .int .i64 (t.length : Int)) (v2 := .int .u32 (crc t : Int)) (v3 := .int .i64 file.len) (v4 := .int .u32 (file.sum : Int)) hz
                refine ⟨fun h => hs2.get h (fun e => by omega), ?_⟩
                refine wpGo3_nil (by kernel_rfl) ?_
                go_wp2
                go_meet
                case rel => exact ⟨Hb, rfl, hs1, hA3.turned hHb hge hs2⟩

            · go_wp2_with fail
              obtain ⟨hz', hA3', hHb, hge⟩ := hAj.made (Obj.cells #[.int .u64 0, .int .i64 0, .int .u32 0, .int .i64 0, .int .u32 0] 164)
              have hz0 : ((wr.alloc (Obj.cells #[.int .u64 0, .int .i64 0, .int .u32 0, .int .i64 0, .int .u32 0] 164)).drew).heap[wr.heap.size]? = some (Obj.cells #[.int .u64 0, .int .i64 0, .int .u32 0, .int .i64 0, .int .u32 0] 164) := hz'
              have hA30 : AS w1 ((wr.alloc (Obj.cells #[.int .u64 0, .int .i64 0, .int .u32 0, .int .i64 0, .int .u32 0] 164)).drew) u9 l3 := hA3'.call ((Kept.refl _ _).drew)
              refine ⟨fun h => (heap_alloc_lt (w := wr) (lt_of_heap (w := wr) h)).trans h, ?_⟩
              generalize (wr.alloc (Obj.cells #[.int .u64 0, .int .i64 0, .int .u32 0, .int .i64 0, .int .u32 0] 164)).drew = W3 at hz0 hA30 ⊢
              generalize wr.heap.size = Hb at hz0 hHb hge ⊢
              clear hz' hA3'
              refine wpGo3_one 2 (by kernel_rfl) (OpTo.mk rfl rfl (fun K hK => ?_))
              go_wp2_with fail
              refine (markOf_any ⟨t.toArray⟩ _ (by simpa [ByteArray.size] using (by omega : t.length ≤ 140737488355328))).mono ?_
              rintro e Wm ⟨rfl, hkm⟩
              have hA3 := hA30.call hkm
              have hz := hkm.get hz0 (fun h => h)
              refine hK _ _ ⟨fun h => hkm.get h (fun h => h), ?_⟩
              clear hK hz0 hA30
              obtain ⟨hcz, hfz⟩ := cells_of hz
              refine wpGo3_one 4 (by kernel_rfl) (OpTo.mk rfl rfl (fun K hK => ?_))
              go_wp2_with fail
              try refine ⟨fun h => h, ?_⟩
              refine wpGo3_one 6 (by kernel_rfl) (OpTo.mk rfl rfl (fun K hK => ?_))
              go_wp2_with fail
              obtain ⟨hs1, hs2⟩ := head_stored (v0 := .int .u64 (((wq.number : Int) + 1) % 18446744073709551616)) (v1 := .int .i64 (t.length : Int)) (v2 := .int .u32 (crc t : Int)) (v3 := .int .i64 file.len) (v4 := .int .u32 (file.sum : Int)) hz
              refine ⟨fun h => hs2.get h (fun e => by omega), ?_⟩
              refine wpGo3_nil (by kernel_rfl) ?_
              go_wp2
              go_meet
              case rel => exact ⟨Hb, rfl, hs1, hA3.turned hHb hge hs2⟩

          case rest =>
            obtain ⟨Hb, rfl, hcells, hA⟩ := hcut
            have hok : (wq.head t file).Ok := ⟨fits_next wq, crc_lt t, hf⟩
            have hacts : wq.acts t file = l3 ++ [pSettle, ⟨1, 40 * (1 - wq.half), headBytes (wq.head t file)⟩, pSettle] := by
              rw [acts_eq, ← HL3.out, ← HL2.out, ← HL1.out]
              simp [tail3, Wr.head]
            generalize wq.head t file = hd at hcells hok hacts
            have HA : Hid (wq.acts t file = l3 ++ [pSettle, ⟨1, 40 * (1 - wq.half), headBytes hd⟩, pSettle]) := hacts
            clear hacts
            simp only [Head.cells] at hcells
            go_wp2_with fail
            refine wp_region3 (fun W => W.heap[Hb]? = some (.cells #[.int .u64 hd.number, .int .i64 hd.text.len, .int .u32 hd.text.sum, .int .i64 hd.file.len, .int .u32 hd.file.sum] 164 (0, 0))) [(0, true), (2, true), (4, false)] [1, 3, 5, 6, 7, 8, 9, 10] (by kernel_rfl) (by kernel_rfl) (fun _ _ d _ _ h => by cases d <;> exact h) hcells ?_
            repeat ((first | refine wpPre3_pure rfl rfl (fun W => (by go_simp; rfl)) ?_ | refine wpPre3_read rfl rfl (fun W hW => (by obtain ⟨hc, _⟩ := cells_of hW; go_simp; rfl)) ?_); simp only [Act.put, List.setIfInBounds_toArray, List.set])
            refine wpPre3_nil ?_
            refine wpTail3_cons rfl rfl (fun K hK => ?_)
            go_wp2_with fail
            refine (settle_act _).mono ?_
            rintro e x1 ⟨rfl, hx1⟩
            have hB1 := hA.call hx1.of_drew
            refine hK _ _ ⟨fun h => hx1.get h (fun h => h), ?_⟩
            clear hK
            refine wpTail3_cons rfl rfl (fun K hK => ?_)
            go_wp2_with fail
            refine (headAt_any _ _ (by omega) (by omega)).mono ?_
            rintro e x1b ⟨rfl, hwe⟩
            rw [hwe]
            clear hwe
            refine hK _ _ ⟨fun h => h, ?_⟩
            clear hK
            refine wpTail3_last (by kernel_rfl) rfl rfl (fun K hK => ?_)
            go_wp2_with fail
            refine (sector_any hd _ hok).mono ?_
            rintro e x2 ⟨rfl, hx2⟩
            have hB2 := hB1.call hx2
            refine hK _ _ ?_
            clear hK
            refine wpTail3_last (by kernel_rfl) rfl rfl (fun K hK => ?_)
            go_wp2_with fail
            refine (write_act (40 * (1 - wq.half)) _ (by omega) (headBytes hd) _ (by rw [headBytes_length]; omega)).mono ?_
            rintro e x3 ⟨rfl, hx3⟩
            have hB3 := hB2.call hx3
            refine hK _ _ ?_
            clear hK
            refine wpTail3_last (by kernel_rfl) rfl rfl (fun K hK => ?_)
            go_wp2_with fail
            refine (settle_act _).mono ?_
            rintro e x4 ⟨rfl, hx4⟩
            have hB4 := hB3.call hx4
            refine hK _ _ ?_
            clear hK
            refine wpTail3_last (by kernel_rfl) rfl rfl (fun K hK => ?_)
            go_wp2_with fail
            have hpf : pWrite (40 * (1 - wq.half)) (headBytes hd) = ⟨1, 40 * (1 - wq.half), headBytes hd⟩ := by simp only [pWrite]; rw [pad_full (headBytes_length _)]
            rw [hpf]
            have hB5 := hB4.alloc (Obj.cells (actsCells [pSettle, ⟨1, 40 * (1 - wq.half), headBytes hd⟩, pSettle]).toArray actT)
            refine wpTail3_last (by kernel_rfl) rfl rfl (fun K hK => ?_)
            refine wp_acts _ _ rfl _ _ rfl hB5.row _ 3 3 [pSettle, ⟨1, 40 * (1 - wq.half), headBytes hd⟩, pSettle] rfl rfl heap_alloc_same (by omega) (fun v6 x6 hr hg => ?_)
            have hB6 := hB5.app hr hg
            refine hK _ _ ?_
            clear hK
            refine wpTail3_last (by kernel_rfl) rfl rfl (fun K hK => ?_)
            go_wp2_with fail
            refine wpTail3_nil ?_
            go_wp2
            go_ret
            refine ⟨v6, rfl, ?_, hk1.step hB6.kept, fun x hx => ?_⟩
            · rw [HA.out]; exact hB6.row
            · have := hB6.fresh x hx; omega
end Go.Proofs.YtdpfohgkikjeaaaGreat
/- split. -/
namespace Go.Proofs.YtdpfohgkikjeaaaGreat
open Go.RowKit
set_option linter.unusedVariables false
set_option linter.unusedSimpArgs false

theorem fpv_nodup (v : Value) : (fpv v).Nodup := by
  unfold fpv
  cases v.ownBlock <;> simp

set_option maxHeartbeats 2000000 in
set_option maxRecDepth 100000 in
theorem split_leaf (w : World) (rest : List Value) (T : TypeId) (k : Kid) (v : Value) (hL : LeafR w rest T k v) (h1 : 1 ≤ k.n) (h2 : k.n ≤ 1000) :
    Calls Tryz.prog 114 #[.pointer (some ⟨k.b, 0, none⟩)] w fun e w' => ∃ k1 k2 v1 v2, e = .returned k2.ptr ∧ LeafR w' rest T k1 v1 ∧ LeafR w' [] 88 k2 v2 ∧ k1.b = k.b ∧ k1.n = k.n / 2 ∧ k2.n = k.n - k.n / 2 ∧ k.ls = k1.ls ++ k2.ls ∧ (k1.fp ++ k2.fp).Nodup ∧ (∀ x ∈ k1.fp ++ k2.fp, x ∈ k.fp ∨ w.heap.size ≤ x) ∧ Kept (fun x => x ∈ k.fp) w w' := by
  obtain ⟨b, n, ls, fp⟩ := k
  simp only at h1 h2
  obtain ⟨hb, hr, hfp, hnd⟩ := hL
  simp only at hb hr hfp hnd
  have hll : ls.length = n := by simpa using hr.len
  rcases hr.shape with ⟨rfl, h0, _⟩ | ⟨g, c, rfl, hnc, hcm⟩
  · omega
  simp only [maxLen] at hcm
  obtain ⟨hc, hf⟩ := cells_of hb
  go_enter Tryz.func114, Tryz.ntmps114
  go_wp2
  go_quiet (fail)
  go_wp2
  rw [show (n : Int) / 2 = ((n / 2 : Nat) : Int) by omega]
  have hi0 : n / 2 < n := by omega
  generalize hie : n / 2 = i at hi0 ⊢
  have Hi : Hid (n / 2 = i) := hie
  clear hie
  have hi1 : i ≤ n := by omega
  have hi2 : ¬ (c = i) := by omega
  refine wp_region_loud (fun W => W.heap[b]? = some (.cells (.slice (some ⟨g, 0, none⟩) n c :: nilS :: (Kid.mk b n ls fp).count :: rest).toArray T (0, 0))) [0, 1, 2, 3, 4, 5, 7, 8, 9, 10, 11, 12] [6, 13, 14, 15, 16] (by kernel_rfl) (by kernel_rfl) (fun _ _ d _ _ h => by cases d <;> exact h) hb ?_
  repeat (refine wpPre_cons rfl rfl (fun W hW => (by obtain ⟨hc, _⟩ := cells_of hW; go_simp; rfl)) ?_; simp only [Act.put, List.setIfInBounds_toArray, List.set])
  refine wpPre_nil ?_
  refine wpTail_cons rfl rfl (fun K hK => ?_)
  go_wp2_with fail
  have hcell : ∀ j u, ((ls.drop i).map sv)[j]? = some u → (w.drewN (nq + 1)).cell? ⟨g, i + j, none⟩ = some u := fun j u hj => by
    obtain ⟨_, _, _, hcl⟩ := hr.cell
    rw [List.map_drop, List.getElem?_drop] at hj
    exact hcl _ u hj
  have hdl : (ls.drop i).length = n - i := by rw [List.length_drop, hll]
  refine (clone_someS g i (n - i) (c - i) ((ls.drop i).map sv) _ (by rw [List.length_map, hdl]) hcell (sv_one _) (by omega)).mono ?_
  rintro e w1 ⟨v2, rfl, hr1, hk1, hf1⟩
  have hk1' : Kept no w w1 := hk1.of_drewN
  have hb1 := hk1'.get hb (fun h => h)
  refine hK _ _ ⟨hb1, ?_⟩
  clear hK
  obtain ⟨p2, c2, rfl⟩ := hr1.slice
  refine wpTail_cons rfl rfl (fun K hK => ?_)
  go_wp2_with fail
  refine (clone_nilK 0 0 w1).mono ?_
  rintro e w1b ⟨rfl, hw⟩
  rw [hw]
  clear hw
  refine hK _ _ ⟨hb1, ?_⟩
  clear hK
  refine wpTail_cons rfl rfl (fun K hK => ?_)
  go_wp2_with fail
  refine ⟨hb1, ?_⟩
  refine wpTail_cons rfl rfl (fun K hK => ?_)
  go_wp2_with fail
  have hb2 : (w1.alloc (Obj.cells #[.slice p2 (n - i) c2, .slice none 0 0, .int .i64 0] 88)).heap[b]? = some (.cells (.slice (some ⟨g, 0, none⟩) n c :: nilS :: (Kid.mk b n ls fp).count :: rest).toArray T (0, 0)) := by
    rw [heap_alloc_lt (lt_of_heap hb1)]; exact hb1
  obtain ⟨hn2, hsz2, hk2⟩ := new1 w1 (Obj.cells #[.slice p2 (n - i) c2, .slice none 0 0, .int .i64 0] 88)
  have hr2 := hr1.alloc (Obj.cells #[.slice p2 (n - i) c2, .slice none 0 0, .int .i64 0] 88)
  have hsz1 : w.heap.size ≤ w1.heap.size := hk1'.size
  have hlt1 := hr1.lt
  refine ⟨hb2, ?_⟩
  refine wpTail_cons rfl rfl (fun K hK => ?_)
  go_wp2_with fail
  refine ⟨hb2, ?_⟩
  refine wpTail_nil ?_
  have hk2' : Kept no w (w1.alloc (Obj.cells #[.slice p2 (n - i) c2, .slice none 0 0, .int .i64 0] 88)) := hk1'.step hk2
  generalize hb' : w1.heap.size = b2 at hn2 hsz2 hlt1 hsz1 ⊢
  generalize w1.alloc (Obj.cells #[.slice p2 (n - i) c2, .slice none 0 0, .int .i64 0] 88) = w2 at hb2 hn2 hsz2 hr2 hk2' ⊢
  clear hk2 hk1 hb1 hc hf hcell hr1
  have hrg : Row w2 9 1 (.slice (some ⟨g, 0, none⟩) n c) n (ls.map sv) := hr.kept hk2' (fun _ _ h => h)
  have hbg : b ≠ g := by
    intro e; subst e
    rw [hfp] at hnd; simp [fpv_some] at hnd
  go_wp2
  have hlen : (ls.map sv).length = n := by simp [hll]
  refine wp_region_last (fun W => W.heap[b]? = some (.cells (.slice (some ⟨g, 0, none⟩) n c :: nilS :: (Kid.mk b n ls fp).count :: rest).toArray T (0, 0))) [0, 1, 2, 3, 4, 5, 6, 7, 8, 9, 10] [11, 12, 13, 14] (by kernel_rfl) (by kernel_rfl) (fun _ _ d _ _ h => by cases d <;> exact h) hb2 ?_
  repeat (refine wpPre_cons rfl rfl (fun W hW => (by obtain ⟨hc, _⟩ := cells_of hW; go_simp; rfl)) ?_; simp only [Act.put, List.setIfInBounds_toArray, List.set])
  refine wpPre_nil ?_
  refine wpTail2_cons rfl rfl (fun K hK => ?_)
  go_wp2_with fail
  refine (deleteS _ n i n _ _ (ls.map sv) _ hrg.drew rfl rfl hi1 (Nat.le_refl _) (sv_one _)).mono ?_
  rintro e w3 ⟨v1, rfl, hr3', hg3, hfp3, _⟩
  have hr3 : Row w3 9 1 v1 i ((ls.take i).map sv) := by
    have e : (ls.map sv).take i ++ (ls.map sv).drop n = (ls.take i).map sv := by
      rw [List.drop_eq_nil_of_le (by omega), List.append_nil, List.map_take]
    rw [e, Nat.sub_self, Nat.add_zero] at hr3'
    exact hr3'
  clear hr3'
  have hb3 : w3.heap[b]? = some (.cells (.slice (some ⟨g, 0, none⟩) n c :: nilS :: (Kid.mk b n ls fp).count :: rest).toArray T (0, 0)) := hg3.1.get (w := w2.drew) hb2 (fun h => hbg (by simpa [fpv_some] using h))
  refine hK _ _ ⟨hb3, ?_⟩
  clear hK
  obtain ⟨hc3, hf3⟩ := cells_of hb3
  refine wpTail2_last (by kernel_rfl) rfl rfl (fun K hK => ?_)
  go_wp2_with fail
  refine wpTail2_last (by kernel_rfl) rfl rfl (fun K hK => ?_)
  go_wp2_with fail
  refine wpTail2_last (by kernel_rfl) rfl rfl (fun K hK => ?_)
  obtain ⟨p1, c1, rfl⟩ := hr3.slice
  go_wp2_with fail
  refine wpTail2_nil ?_
  have hbw := lt_of_heap hb
  have hb4 : (w3.setCell ⟨b, 0, none⟩ (.slice p1 i c1)).heap[b]? = some (.cells (.slice p1 i c1 :: nilS :: (Kid.mk b n ls fp).count :: rest).toArray T (0, 0)) := by rw [heap_set_same hb3]; simp
  have hk4 : Kept (fun x => x = b ∨ x = g) w (w3.setCell ⟨b, 0, none⟩ (.slice p1 i c1)) :=
    ((hk2'.mono (fun _ h _ => h.elim)).step' hg3.1.of_drew (fun x hx _ => .inr (by simpa [fpv_some] using hx))).setCell (p := ⟨b, 0, none⟩) (fun _ => .inl rfl) _
  have hk4' : Kept (fun x => x = b ∨ x = g) w2 (w3.setCell ⟨b, 0, none⟩ (.slice p1 i c1)) :=
    (hg3.1.of_drew.mono (fun x hx _ => .inr (by simpa [fpv_some] using hx))).setCell (p := ⟨b, 0, none⟩) (fun _ => .inl rfl) _
  have hr4 : Row (w3.setCell ⟨b, 0, none⟩ (.slice p1 i c1)) 9 1 (.slice p1 i c1) i ((ls.take i).map sv) :=
    hr3.kept (S := fun k => k = b) Kept.cell1 (fun x hx e => by subst e; rw [hfp3, fpv_some] at hx; exact hbg (by simpa using hx))
  have hgl : g < w.heap.size := by have := hr.lt g (by simp [fpv_some]); exact this
  have hne2 : b2 ≠ b := by omega
  have hne2g : b2 ≠ g := by omega
  have hn4 := hk4'.get hn2 (by rintro (h | h) <;> omega)
  have hr24 : Row (w3.setCell ⟨b, 0, none⟩ (.slice p1 i c1)) 9 1 (.slice p2 (n - i) c2) (n - i) ((ls.drop i).map sv) :=
    hr2.kept hk4' (fun x hx h => by have := hf1 x hx; have h2 : w.heap.size ≤ x := this; rcases h with h | h <;> omega)
  have hsz4 : w2.heap.size ≤ (w3.setCell ⟨b, 0, none⟩ (.slice p1 i c1)).heap.size := hk4'.size
  generalize w3.setCell ⟨b, 0, none⟩ (.slice p1 i c1) = w4 at hb4 hk4 hr4 hn4 hr24 hsz4 ⊢
  clear hc3 hf3 hb3 hr3 hg3 hk4' hr2 hn2 hb2 hrg
  go_wp2
  refine wp_region_last (fun W => W.heap[b]? = some (.cells (.slice p1 i c1 :: nilS :: (Kid.mk b n ls fp).count :: rest).toArray T (0, 0))) [0, 1, 2, 3, 4, 5, 6, 7, 8, 9, 10] [11, 12, 13, 14] (by kernel_rfl) (by kernel_rfl) (fun _ _ d _ _ h => by cases d <;> exact h) hb4 ?_
  repeat (refine wpPre_cons rfl rfl (fun W hW => (by obtain ⟨hc, _⟩ := cells_of hW; go_simp; rfl)) ?_; simp only [Act.put, List.setIfInBounds_toArray, List.set])
  refine wpPre_nil ?_
  refine wpTail2_cons rfl rfl (fun K hK => ?_)
  go_wp2_with fail
  refine (deleteK nilS 0 0 0 _ _ [] w4.drew ⟨rfl, .inl ⟨rfl, rfl⟩⟩ rfl rfl (Nat.le_refl _) (Nat.le_refl _) (by simp)).mono ?_
  rintro e w5 ⟨v5, rfl, _, hg5, _, hnil⟩
  obtain rfl := hnil rfl
  have hk5 : Kept no w4 w5 := hg5.1.of_drew.mono (fun x hx _ => by simp [fpv_nil] at hx)
  have hb5 := hk5.get hb4 (fun h => h)
  refine hK _ _ ⟨hb5, ?_⟩
  clear hK hnil hg5
  obtain ⟨hc5, hf5⟩ := cells_of hb5
  refine wpTail2_last (by kernel_rfl) rfl rfl (fun K hK => ?_)
  go_wp2_with fail
  refine wpTail2_last (by kernel_rfl) rfl rfl (fun K hK => ?_)
  go_wp2_with fail
  refine wpTail2_last (by kernel_rfl) rfl rfl (fun K hK => ?_)
  go_wp2_with fail
  refine wpTail2_nil ?_
  have hb6 : (w5.setCell ⟨b, 1, none⟩ nilS).heap[b]? = some (.cells (.slice p1 i c1 :: nilS :: (Kid.mk b n ls fp).count :: rest).toArray T (0, 0)) := by rw [heap_set_same hb5]; simp
  have hk46 : Kept (fun x => x = b) w4 (w5.setCell ⟨b, 1, none⟩ nilS) := Kept.setCell (S := fun x => x = b) (hk5.mono (fun _ h _ => h.elim)) (p := ⟨b, 1, none⟩) (fun _ => rfl) _
  have hk6 : Kept (fun x => x = b ∨ x = g) w (w5.setCell ⟨b, 1, none⟩ nilS) := hk4.step' hk46 (fun x hx _ => .inl hx)
  have hbn : b ∉ fpv (.slice p1 i c1) := by rw [hfp3, fpv_some]; simpa using hbg
  have hbn2 : b ∉ fpv (.slice p2 (n - i) c2) := fun hx => by have := hf1 b hx; have h2 : w.heap.size ≤ b := this; omega
  have hr6 := hr4.kept hk46 (fun x hx e => hbn (e ▸ hx))
  have hr26 := hr24.kept hk46 (fun x hx e => hbn2 (e ▸ hx))
  have hn6 := hk46.get hn4 hne2
  generalize w5.setCell ⟨b, 1, none⟩ nilS = w6 at hb6 hk6 hr6 hn6 hr26 ⊢
  clear hc5 hf5 hb5 hk5 hb4 hk4 hr4 hr24 hn4 hk46
  have hkn : ∀ w, KidsAt w nilS [] := fun w => ⟨⟨rfl, .inl ⟨rfl, rfl⟩⟩, by simp⟩
  go_wp2_with fail
  refine (tally_any b _ _ _ rest T [] p1 i c1 rfl w6 hb6 (hkn _) (by simp) (by simp [fpv_nil]) (by simp) (by simp [itemsOf]) (by omega)).mono ?_
  rintro e w7 ⟨rfl, hb7, hk7⟩
  have hn7 := hk7.get hn6 hne2
  have hr7 := hr6.kept hk7 (fun x hx e => hbn (e ▸ hx))
  have hr27 := hr26.kept hk7 (fun x hx e => hbn2 (e ▸ hx))
  have hk7' : Kept (fun x => x = b ∨ x = g) w w7 := hk6.step' hk7 (fun x hx _ => .inl hx)
  clear hk7 hn6 hr6 hr26 hb6 hk6
  go_wp2_with fail
  refine (tally_any b2 _ _ _ [] 88 [] p2 (n - i) c2 rfl w7 hn7 (hkn _) (by simp) (by simp [fpv_nil]) (by simp) (by simp [itemsOf]) (by omega)).mono ?_
  rintro e w8 ⟨rfl, hn8, hk8⟩
  have hb8 := hk8.get hb7 (fun e => hne2 e.symm)
  have hb2n : b2 ∉ fpv (.slice p1 i c1) := by rw [hfp3, fpv_some]; simpa using hne2g
  have hb2n2 : b2 ∉ fpv (.slice p2 (n - i) c2) := fun hx => by have := hlt1 b2 hx; omega
  have hr8 := hr7.kept hk8 (fun x hx e => hb2n (e ▸ hx))
  have hr28 := hr27.kept hk8 (fun x hx e => hb2n2 (e ▸ hx))
  go_wp2
  go_ret
  have hl1 : (ls.take i).length = i := by rw [List.length_take]; omega
  refine ⟨⟨b, i, ls.take i, b :: fpv (.slice p1 i c1)⟩, ⟨b2, n - i, ls.drop i, b2 :: fpv (.slice p2 (n - i) c2)⟩, .slice p1 i c1, .slice p2 (n - i) c2, rfl, ⟨?_, hr8, rfl, ?_⟩, ⟨?_, hr28, rfl, ?_⟩, rfl, Hi.out.symm, by rw [Hi.out], (List.take_append_drop i ls).symm, ?_, ?_, ?_⟩
  · simpa [Kid.count, hl1, itemsOf] using hb8
  · rw [hfp3, fpv_some]; simpa using hbg
  · simpa [Kid.count, hdl, itemsOf] using hn8
  · exact List.nodup_cons.2 ⟨hb2n2, fpv_nodup _⟩
  · have hdis : ∀ x ∈ fpv (.slice p2 (n - i) c2), x ≠ b ∧ x ≠ g := fun x hx => by have := hf1 x hx; have h2 : w.heap.size ≤ x := this; omega
    show ((b :: fpv (.slice p1 i c1)) ++ (b2 :: fpv (.slice p2 (n - i) c2))).Nodup
    rw [hfp3, fpv_some, List.nodup_append]
    refine ⟨by simpa using hbg, List.nodup_cons.2 ⟨hb2n2, fpv_nodup _⟩, fun x hx y hy => ?_⟩
    have hx' : x = b ∨ x = g := by simpa using hx
    rcases List.mem_cons.1 hy with rfl | hy
    · rcases hx' with h | h <;> omega
    · have := hdis y hy; rcases hx' with h | h <;> omega
  · intro x hx
    show x ∈ fp ∨ _
    have hx' : x = b ∨ x = g ∨ x = b2 ∨ x ∈ fpv (.slice p2 (n - i) c2) := by
      have : x ∈ (b :: fpv (.slice p1 i c1)) ++ (b2 :: fpv (.slice p2 (n - i) c2)) := hx
      rw [hfp3, fpv_some] at this
      simpa [or_assoc] using this
    rw [hfp, fpv_some]
    rcases hx' with h | h | h | h
    · exact .inl (by simp [h])
    · exact .inl (by simp [h])
    · exact .inr (by omega)
    · exact .inr (hf1 x h)
  · refine (hk7'.step' hk8 (fun x hx hlt => by omega)).mono (fun x hx _ => ?_)
    show x ∈ fp
    rw [hfp, fpv_some]
    simpa using hx
end Go.Proofs.YtdpfohgkikjeaaaGreat
