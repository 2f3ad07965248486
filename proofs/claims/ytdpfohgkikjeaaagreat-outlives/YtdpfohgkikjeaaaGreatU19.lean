/- Part 19 of the proof: see its parts. -/
import Derived.Test.YtdpfohgkikjeaaaGreatU17
import Derived.Test.YtdpfohgkikjeaaaGreatU18
/- Find: the walk. -/
namespace Go.Proofs.YtdpfohgkikjeaaaGreat
open Go.RowKit
set_option linter.unusedVariables false
set_option linter.unusedSimpArgs false

/-- The cells of what Find answers. -/
def foundCells (hd : Head) (h : Nat) (t : Str) : List Value := [sv t, .int .i64 hd.file.len, .int .u32 (hd.file.sum : Int), .bool true, .bool true, .int .i64 (h : Int), .int .u64 (hd.number : Int)]
def foundVal (hd : Head) (h : Nat) (t : Str) : Value := .agg #[sv t, .int .i64 hd.file.len, .int .u32 (hd.file.sum : Int), .bool true, .bool true, .int .i64 (h : Int), .int .u64 (hd.number : Int)]

/-- No text is read of a half. -/
def NoText (img : Img) (h : Nat) : Prop := ∀ hd t, ¬ ReadsHalf img h hd t

/-- In the midst of Find: at the label l, the half h is at hand, the last one is la. -/
structure FindAt (img : Img) (w0 : World) (R h la l : Nat) (w' : World) : Prop where
  kept : Kept no w0 w'
  res : w'.heap[R]? = some (.cells #[.string ⟨#[]⟩, .int .i64 0, .int .u32 0, .bool false, .bool false, .int .i64 0, .int .u64 0] 136 (0, 0))
  head : ∃ x0 x1 x2 x3 x4, w'.heap[R + 1]? = some (.cells #[x0, x1, x2, x3, x4] 164 (0, 0))
  half : h ≤ 1
  last : la ≤ 1
  new : w0.heap.size ≤ R
  at1 : l = 1 → h = la ∧ NoText img (1 - la)
  at0 : l ≠ 1 → NoText img h ∧ (h = la → NoText img (1 - la))

/-- What holds at the labels. -/
def FindJ (img : Img) (w0 : World) (b o cap R la : Nat) (l : Nat) (a : Act) (w' : World) : Prop :=
  l ≤ 1 ∧ ∃ u2 u3 u5 u7 u8 u11 u12 u13 u14 u15 u16 u17 u18 u19 u20 u21 u22 u23 u24 u25 u26 u27 u28 u29 u30 u31 u32 u33 u34 u35 u36 u37 u38 u39 u40 u41 u42 u43 u44 u45 u46 u47 u48 u49 u50 u51 u52 : Value, ∃ h : Nat, a = ⟨#[.slice (some ⟨b, o, none⟩) 400 cap, .func (.func 79) #[] #[], u2, u3, .pointer (some ⟨R, 0, none⟩), u5, .pointer (some ⟨R + 1, 0, none⟩), u7, u8, .int .i64 (h : Int), .int .i64 (la : Int), u11, u12, u13, u14, u15, u16, u17, u18, u19, u20, u21, u22, u23, u24, u25, u26, u27, u28, u29, u30, u31, u32, u33, u34, u35, u36, u37, u38, u39, u40, u41, u42, u43, u44, u45, u46, u47, u48, u49, u50, u51, u52], []⟩ ∧ FindAt img w0 R h la l w'

def findMu (l : Nat) (a : Act) : Nat := if l = 1 then 2 else if intOf (a.tmps.getD 9 undef) = intOf (a.tmps.getD 10 undef) then 1 else 3

/-- A body that was read, and is a text. -/
theorem reads_of {img : Img} {h : Nat} {hd : Head} {t : Str} (h1 : readHead (img (40 * h)) = some hd) (h2 : bodyTo img h hd.text = (t, true)) (h3 : IsText t) : ReadsHalf img h hd t := by
  unfold bodyTo at h2
  split at h2
  · cases h2
  · rename_i hn
    simp only [Prod.mk.injEq, decide_eq_true_iff] at h2
    exact ⟨h1, by omega, by omega, h2.1.symm, by rw [← h2.1]; exact h2.2, h3⟩
theorem noText_head {img : Img} {h : Nat} (h1 : readHead (img (40 * h)) = none) : NoText img h := fun hd t r => by
  have := r.head; rw [h1] at this; cases this
theorem noText_body {img : Img} {h : Nat} {hd : Head} {t : Str} (h1 : readHead (img (40 * h)) = some hd) (h2 : bodyTo img h hd.text = (t, false)) : NoText img h := fun hd' t' r => by
  obtain rfl : hd = hd' := Option.some.inj (h1.symm.trans r.head)
  unfold bodyTo at h2
  rw [if_neg (by have := r.len0; have := r.len1; omega)] at h2
  simp only [Prod.mk.injEq, decide_eq_false_iff_not] at h2
  have e := r.text
  rw [h2.1] at e
  exact h2.2 (by rw [h2.1, ← e]; exact r.sum)
theorem noText_fits {img : Img} {h : Nat} {hd : Head} {t : Str} {ok : Bool} (h1 : readHead (img (40 * h)) = some hd) (h2 : bodyTo img h hd.text = (t, ok)) (h3 : ¬ IsText t) : NoText img h := fun hd' t' r => by
  obtain rfl : hd = hd' := Option.some.inj (h1.symm.trans r.head)
  unfold bodyTo at h2
  rw [if_neg (by have := r.len0; have := r.len1; omega)] at h2
  simp only [Prod.mk.injEq] at h2
  have e := r.text
  rw [h2.1] at e
  exact h3 (e ▸ r.fits)
theorem bodyTo_length {img : Img} {h : Nat} {m : Mark} {t : Str} {ok : Bool} (h2 : bodyTo img h m = (t, ok)) (hl : (bodyOf img h).length ≤ 2496) : t.length ≤ 2496 := by
  unfold bodyTo at h2
  split at h2
  · cases h2; simp
  · simp only [Prod.mk.injEq] at h2
    rw [← h2.1, List.length_take]; omega

theorem jumpsTo_ret {J : Nat → Act → World → Prop} {Q : Exit → Act → World → Prop} {a : Act} {w : World} (h : Q .ret a w) : jumpsTo J Q .ret a w := h

structure FindTop (img : Img) (w0 : World) (R h : Nat) (w' : World) : Prop where
  kept : Kept no w0 w'
  res : w'.heap[R]? = some (.cells #[.string ⟨#[]⟩, .int .i64 0, .int .u32 0, .bool false, .bool false, .int .i64 0, .int .u64 0] 136 (0, 0))
  head : ∃ x0 x1 x2 x3 x4, w'.heap[R + 1]? = some (.cells #[x0, x1, x2, x3, x4] 164 (0, 0))
  half : h ≤ 1
  new : w0.heap.size ≤ R

theorem found_stored {W : World} {Hb : Nat} {T : TypeId} {c0 c1 c2 c3 c4 c5 c6 v0 v1 v2 v3 v4 v5 v6 : Value} (h : W.heap[Hb]? = some (.cells #[c0, c1, c2, c3, c4, c5, c6] T (0, 0))) :
    (((((((W.setCell ⟨Hb, 0, none⟩ v0).setCell ⟨Hb, 1, none⟩ v1).setCell ⟨Hb, 2, none⟩ v2).setCell ⟨Hb, 3, none⟩ v3).setCell ⟨Hb, 4, none⟩ v4).setCell ⟨Hb, 5, none⟩ v5).setCell ⟨Hb, 6, none⟩ v6).heap[Hb]? = some (.cells #[v0, v1, v2, v3, v4, v5, v6] T (0, 0)) ∧
    Kept (fun x => x = Hb) W (((((((W.setCell ⟨Hb, 0, none⟩ v0).setCell ⟨Hb, 1, none⟩ v1).setCell ⟨Hb, 2, none⟩ v2).setCell ⟨Hb, 3, none⟩ v3).setCell ⟨Hb, 4, none⟩ v4).setCell ⟨Hb, 5, none⟩ v5).setCell ⟨Hb, 6, none⟩ v6) := by
  have e1 := heap_set_same (o := 0) (v := v0) h
  have e2 := heap_set_same (o := 1) (v := v1) e1
  have e3 := heap_set_same (o := 2) (v := v2) e2
  have e4 := heap_set_same (o := 3) (v := v3) e3
  have e5 := heap_set_same (o := 4) (v := v4) e4
  have e6 := heap_set_same (o := 5) (v := v5) e5
  have e7 := heap_set_same (o := 6) (v := v6) e6
  exact ⟨by rw [e7]; simp, (((((Kept.cell1.step Kept.cell1).step Kept.cell1).step Kept.cell1).step Kept.cell1).step Kept.cell1).step Kept.cell1⟩

set_option maxHeartbeats 4000000 in
set_option maxRecDepth 100000 in
theorem find_swap (b o cap : Nat) (secs : List Str) (w : World) (hs : StrsAt w b o secs) (hl : secs.length = 400) (h64 : ∀ s ∈ secs, s.length = 64) (hcap : 400 ≤ cap) (hcm : cap ≤ 9223372036854775807) (hbl : b < w.heap.size) :
    Calls Tryz.prog 78 #[.slice (some ⟨b, o, none⟩) 400 cap, .func (.func 79) #[] #[]] w fun e w' => Kept no w w' ∧
      ((∃ h hd t, Finds (imgOf secs) h hd t ∧ e = .returned (.tuple #[foundVal hd h t, .bool true])) ∨ ((∀ h, h ≤ 1 → NoText (imgOf secs) h) ∧ e = .returned (.tuple #[.agg #[.string ⟨#[]⟩, .int .i64 0, .int .u32 0, .bool false, .bool false, .int .i64 0, .int .u64 0], .bool false]))) := by
  have hlh : ∀ W, StrsAt W b o secs → _ := fun W hW => laterHalf_any b o cap secs W hW hl h64 hcap
  obtain ⟨fh, hfh⟩ : ∃ fh, laterHalf (secs.getD 0 []) (secs.getD 40 []) = fh := ⟨_, rfl⟩
  have hfh1 : fh ≤ 1 := by rw [← hfh]; exact laterHalf_le _ _
  have hfhI : Hid (laterHalf (imgOf secs 0) (imgOf secs 40) = fh) := by show laterHalf (imgOf secs 0) (imgOf secs 40) = fh; rw [← hfh]; simp [imgOf]
  simp only [hfh] at hlh
  clear hfh
  obtain ⟨la, hlaE⟩ : ∃ la, la = 1 - fh := ⟨_, rfl⟩
  have hla : la ≤ 1 := by omega
  have HLA : Hid (la = 1 - fh) := hlaE
  clear hlaE
  go_enter Tryz.func78, Tryz.ntmps78
  go_wp2_with fail
  obtain ⟨R, hR⟩ : ∃ R, R = w.heap.size := ⟨_, rfl⟩
  have HR : Hid (R = w.heap.size) := hR
  clear hR
  refine wp_scope_all (FindJ (imgOf secs) w b o cap R la) findMu ?first ?pass
  case first =>
    go_wp2_with fail
    obtain ⟨hn1, hsz1, hk1a⟩ := new1 w (Obj.cells #[.string ⟨#[]⟩, .int .i64 0, .int .u32 0, .bool false, .bool false, .int .i64 0, .int .u64 0] 136)
    generalize w.alloc (Obj.cells #[.string ⟨#[]⟩, .int .i64 0, .int .u32 0, .bool false, .bool false, .int .i64 0, .int .u64 0] 136) = wa at *
    obtain ⟨hn2, hsz2, hk2a⟩ := new1 wa (Obj.cells #[.int .u64 0, .int .i64 0, .int .u32 0, .int .i64 0, .int .u32 0] 164)
    have hn1' := hk2a.get hn1 (fun h => h)
    have hkb := hk1a.step hk2a
    rw [hsz1] at hn2
    generalize wa.alloc (Obj.cells #[.int .u64 0, .int .i64 0, .int .u32 0, .int .i64 0, .int .u32 0] 164) = wb at *
    have hRle : w.heap.size ≤ R := Nat.le_of_eq HR.out.symm
    rw [← HR.out] at hn1' hn2 ⊢
    refine (hlh wb (hs.kept hkb (fun h => h))).mono ?_
    rintro e wc ⟨rfl, hkc⟩
    have hnr := hkc.get hn1' (fun h => h)
    have hnh := hkc.get hn2 (fun h => h)
    have hF : FindTop (imgOf secs) w R fh wc := ⟨hkb.step hkc, hnr, ⟨_, _, _, _, _, hnh⟩, hfh1, hRle⟩
    clear hnr hnh hn1' hn2 hn1 hkb hk1a hk2a hsz1 hsz2 hlh hkc hRle
    obtain ⟨h, hE⟩ : ∃ h, h = fh := ⟨_, rfl⟩
    subst hE
    have hlaI : (1 : Int) - (h : Int) = (la : Int) := by have := HLA.out; omega
    go_wp2_with fail
    try go_step3
    obtain ⟨x0, x1', x2', x3', x4', hhd⟩ := hF.head
    have hkx := hF.kept
    have hsx := hs.kept hkx (fun h => h)
    obtain ⟨q, hq⟩ : ∃ q : Nat, q = 40 * h := ⟨_, rfl⟩
    have hh1 := hF.half
    have hqI : (h : Int) * 40 = (q : Int) := by omega
    have hq4 : q < 400 := by omega
    have hqi : (q : Int) < 400 := by omega
    obtain ⟨sec, hsec⟩ : ∃ sec, secs[q]? = some sec := ⟨_, List.getElem?_eq_getElem (by omega)⟩
    have hcs := hsx q sec hsec
    have hs64 := h64 sec (List.mem_of_getElem? hsec)
    have himg : imgOf secs (40 * h) = sec := by unfold imgOf; rw [← hq, hsec]; rfl
    have hR0 := hF.new
    have HQ : Hid (q = 40 * h) := hq
    clear hsec hq
    have hbody : (bodyOf (imgOf secs) h).length ≤ 2496 := by
      rw [bodyOf_length (fun j hj => ?_)]; exact Nat.le_refl _
      unfold imgOf
      rw [List.getElem?_eq_getElem (by omega)]
      exact h64 _ (List.getElem_mem _)
    cases hrd : readHead sec with
    | none =>
      have hno : NoText (imgOf secs) h := noText_head (by rw [himg]; exact hrd)
      have hrh := fun W => (readHead_any ⟨sec.toArray⟩ W (by rw [size_mk]; exact hs64)).mono (R' := fun e x1 => e = .returned (.tuple #[.agg #[.int .u64 0, .int .i64 0, .int .u32 0, .int .i64 0, .int .u32 0], .bool false]) ∧ Kept no W x1) (fun e x1 ⟨he, hk⟩ => ⟨by rw [he]; have : (⟨sec.toArray⟩ : ByteArray).data.toList = sec := rfl; rw [this, hrd]; rfl, hk⟩)
      go_wp2_with fail
      refine (headAt_any (h : Int) _ (by omega) (by omega)).mono ?_
      rintro e x1 ⟨rfl, hw⟩
      rw [hw, hqI]
      clear hw
      go_wp2_with fail
      refine (hrh _).mono ?_
      rintro e x1 ⟨rfl, hk1⟩
      have hhd1 := hk1.get hhd (fun h => h)
      have hres1 := hk1.get hF.res (fun h => h)
      obtain ⟨hcz, hfz⟩ := cells_of hhd1
      obtain ⟨hst, hks⟩ := head_stored (v0 := .int .u64 0) (v1 := .int .i64 0) (v2 := .int .u32 0) (v3 := .int .i64 0) (v4 := .int .u32 0) hhd1
      go_wp2_with fail
      try refine wp_goto ?_
      exact ⟨by decide, _, _, _, _, _, _, _, _, _, _, _, _, _, _, _, _, _, _, _, _, _, _, _, _, _, _, _, _, _, _, _, _, _, _, _, _, _, _, _, _, _, _, _, _, _, _, _, h, rfl, ⟨(hkx.step hk1).step' hks (fun x hx hlt => by omega), hks.get hres1 (fun e => by omega), ⟨_, _, _, _, _, hst⟩, hh1, hla, hR0, fun e => absurd e (by decide), fun _ => ⟨hno, fun e => by have := HLA.out; omega⟩⟩⟩
    | some hd =>
      have hrh := fun W => (readHead_any ⟨sec.toArray⟩ W (by rw [size_mk]; exact hs64)).mono (R' := fun e x1 => e = .returned (.tuple #[.agg #[.int .u64 (hd.number : Int), .int .i64 hd.text.len, .int .u32 (hd.text.sum : Int), .int .i64 hd.file.len, .int .u32 (hd.file.sum : Int)], .bool true]) ∧ Kept no W x1) (fun e x1 ⟨he, hk⟩ => ⟨by rw [he]; have : (⟨sec.toArray⟩ : ByteArray).data.toList = sec := rfl; rw [this, hrd]; rfl, hk⟩)
      have hrd' : readHead (imgOf secs (40 * h)) = some hd := by rw [himg]; exact hrd
      clear hrd himg
      have HRD : Hid (readHead (imgOf secs (40 * h)) = some hd) := hrd'
      clear hrd'
      obtain ⟨t, ok, hbt⟩ : ∃ t ok, bodyTo (imgOf secs) h hd.text = (t, ok) := ⟨_, _, rfl⟩
      have hrb := fun W (hsW : StrsAt W b o secs) (hbW : b < W.heap.size) => (readBody_any b o cap secs h (h : Int) rfl hd.text W hsW hl h64 hcap hcm hh1 hbW).mono (R' := fun e x1 => e = .returned (.tuple #[sv t, .bool ok]) ∧ Kept no W x1) (fun e x1 ⟨he, hk⟩ => ⟨by rw [he, hbt], hk⟩)
      have htl := bodyTo_length hbt hbody
      have HBT : Hid (bodyTo (imgOf secs) h hd.text = (t, ok)) := hbt
      clear hbt
      go_wp2_with fail
      refine (headAt_any (h : Int) _ (by omega) (by omega)).mono ?_
      rintro e x1 ⟨rfl, hw⟩
      rw [hw, hqI]
      clear hw
      go_wp2_with fail
      refine (hrh _).mono ?_
      rintro e x1 ⟨rfl, hk1⟩
      have hhd1 := hk1.get hhd (fun h => h)
      have hres1 := hk1.get hF.res (fun h => h)
      obtain ⟨hcz, hfz⟩ := cells_of hhd1
      obtain ⟨hst, hks⟩ := head_stored (v0 := .int .u64 (hd.number : Int)) (v1 := .int .i64 hd.text.len) (v2 := .int .u32 (hd.text.sum : Int)) (v3 := .int .i64 hd.file.len) (v4 := .int .u32 (hd.file.sum : Int)) hhd1
      have hkx2 : Kept no w (((((x1.setCell ⟨R + 1, 0, none⟩ (.int .u64 (hd.number : Int))).setCell ⟨R + 1, 1, none⟩ (.int .i64 hd.text.len)).setCell ⟨R + 1, 2, none⟩ (.int .u32 (hd.text.sum : Int))).setCell ⟨R + 1, 3, none⟩ (.int .i64 hd.file.len)).setCell ⟨R + 1, 4, none⟩ (.int .u32 (hd.file.sum : Int))) := (hkx.step hk1).step' hks (fun x hx hlt => by omega)
      have hres2 := hks.get hres1 (fun e => by omega)
      go_wp2_with fail
      clear hcz hfz
      generalize (((((x1.setCell ⟨R + 1, 0, none⟩ (.int .u64 (hd.number : Int))).setCell ⟨R + 1, 1, none⟩ (.int .i64 hd.text.len)).setCell ⟨R + 1, 2, none⟩ (.int .u32 (hd.text.sum : Int))).setCell ⟨R + 1, 3, none⟩ (.int .i64 hd.file.len)).setCell ⟨R + 1, 4, none⟩ (.int .u32 (hd.file.sum : Int))) = x2 at hst hkx2 hres2 ⊢
      refine (hrb x2 (hs.kept hkx2 (fun h => h)) (Nat.lt_of_lt_of_le hbl hkx2.size)).mono ?_
      rintro e x3 ⟨rfl, hk3⟩
      have hst3 := hk3.get hst (fun h => h)
      have hres3 := hk3.get hres2 (fun h => h)
      have hkx3 := hkx2.step hk3
      cases ok with
      | false =>
        have hno : NoText (imgOf secs) h := noText_body HRD.out HBT.out
        go_wp2_with fail
        try refine wp_goto ?_
        exact ⟨by decide, _, _, _, _, _, _, _, _, _, _, _, _, _, _, _, _, _, _, _, _, _, _, _, _, _, _, _, _, _, _, _, _, _, _, _, _, _, _, _, _, _, _, _, _, _, _, _, h, rfl, ⟨hkx3, hres3, ⟨_, _, _, _, _, hst3⟩, hh1, hla, hR0, fun e => absurd e (by decide), fun _ => ⟨hno, fun e => by have := HLA.out; omega⟩⟩⟩
      | true =>
        by_cases hit : IsText t
        · have hrt : ReadsHalf (imgOf secs) h hd t := reads_of HRD.out HBT.out hit
          go_wp2_with fail
          refine (isText_any t _ (by omega) true (by simp [hit])).mono ?_
          rintro e x4 ⟨rfl, hk4⟩
          have hst4 := hk4.get hst3 (fun h => h)
          have hres4 := hk4.get hres3 (fun h => h)
          have hkx4 := hkx3.step hk4
          obtain ⟨hch, _⟩ := cells_of hst4
          obtain ⟨hcr, hfr⟩ := cells_of hres4
          go_wp2
          obtain ⟨hst5, hks5⟩ := found_stored (v0 := sv t) (v1 := .int .i64 hd.file.len) (v2 := .int .u32 (hd.file.sum : Int)) (v3 := .bool true) (v4 := .bool true) (v5 := .int .i64 (h : Int)) (v6 := .int .u64 (hd.number : Int)) hres4
          obtain ⟨hc5, _⟩ := cells_of hst5
          clear hcr hfr
          refine jumpsTo_ret ?_
          refine bodyPost_ret (v := .tuple #[.agg #[sv t, .int .i64 hd.file.len, .int .u32 (hd.file.sum : Int), .bool true, .bool true, .int .i64 (h : Int), .int .u64 (hd.number : Int)], .bool true]) (by simp [results, Tryz.results78, go_sem, hc5]) rfl ⟨hkx4.step' hks5 (fun x hx hlt => by have := HR.out; omega), .inl ⟨h, hd, t, ⟨hh1, hrt, .inl hfhI.out.symm⟩, rfl⟩⟩
        · have hno : NoText (imgOf secs) h := noText_fits HRD.out HBT.out hit
          go_wp2_with fail
          refine (isText_any t _ (by omega) false (by simp [hit])).mono ?_
          rintro e x4 ⟨rfl, hk4⟩
          have hst4 := hk4.get hst3 (fun h => h)
          have hres4 := hk4.get hres3 (fun h => h)
          have hkx4 := hkx3.step hk4
          go_wp2_with fail
          try refine wp_goto ?_
          exact ⟨by decide, _, _, _, _, _, _, _, _, _, _, _, _, _, _, _, _, _, _, _, _, _, _, _, _, _, _, _, _, _, _, _, _, _, _, _, _, _, _, _, _, _, _, _, _, _, _, _, h, rfl, ⟨hkx4, hres4, ⟨_, _, _, _, _, hst4⟩, hh1, hla, hR0, fun e => absurd e (by decide), fun _ => ⟨hno, fun e => by have := HLA.out; omega⟩⟩⟩
  case pass =>
    intro l a w' hJ
    obtain ⟨hl1, hJ⟩ := hJ
    obtain ⟨u2, hJ⟩ := hJ
    obtain ⟨u3, hJ⟩ := hJ
    obtain ⟨u5, hJ⟩ := hJ
    obtain ⟨u7, hJ⟩ := hJ
    obtain ⟨u8, hJ⟩ := hJ
    obtain ⟨u11, hJ⟩ := hJ
    obtain ⟨u12, hJ⟩ := hJ
    obtain ⟨u13, hJ⟩ := hJ
    obtain ⟨u14, hJ⟩ := hJ
    obtain ⟨u15, hJ⟩ := hJ
    obtain ⟨u16, hJ⟩ := hJ
    obtain ⟨u17, hJ⟩ := hJ
    obtain ⟨u18, hJ⟩ := hJ
    obtain ⟨u19, hJ⟩ := hJ
    obtain ⟨u20, hJ⟩ := hJ
    obtain ⟨u21, hJ⟩ := hJ
    obtain ⟨u22, hJ⟩ := hJ
    obtain ⟨u23, hJ⟩ := hJ
    obtain ⟨u24, hJ⟩ := hJ
    obtain ⟨u25, hJ⟩ := hJ
    obtain ⟨u26, hJ⟩ := hJ
    obtain ⟨u27, hJ⟩ := hJ
    obtain ⟨u28, hJ⟩ := hJ
    obtain ⟨u29, hJ⟩ := hJ
    obtain ⟨u30, hJ⟩ := hJ
    obtain ⟨u31, hJ⟩ := hJ
    obtain ⟨u32, hJ⟩ := hJ
    obtain ⟨u33, hJ⟩ := hJ
    obtain ⟨u34, hJ⟩ := hJ
    obtain ⟨u35, hJ⟩ := hJ
    obtain ⟨u36, hJ⟩ := hJ
    obtain ⟨u37, hJ⟩ := hJ
    obtain ⟨u38, hJ⟩ := hJ
    obtain ⟨u39, hJ⟩ := hJ
    obtain ⟨u40, hJ⟩ := hJ
    obtain ⟨u41, hJ⟩ := hJ
    obtain ⟨u42, hJ⟩ := hJ
    obtain ⟨u43, hJ⟩ := hJ
    obtain ⟨u44, hJ⟩ := hJ
    obtain ⟨u45, hJ⟩ := hJ
    obtain ⟨u46, hJ⟩ := hJ
    obtain ⟨u47, hJ⟩ := hJ
    obtain ⟨u48, hJ⟩ := hJ
    obtain ⟨u49, hJ⟩ := hJ
    obtain ⟨u50, hJ⟩ := hJ
    obtain ⟨u51, hJ⟩ := hJ
    obtain ⟨u52, hJ⟩ := hJ
    obtain ⟨h, rfl, hF⟩ := hJ
    by_cases hl0 : l = 1
    · subst hl0
      refine ⟨_, rfl, ?_⟩
      obtain ⟨x0, x1', x2', x3', x4', hhd⟩ := hF.head
      have hkx := hF.kept
      have hsx := hs.kept hkx (fun h => h)
      obtain ⟨q, hq⟩ : ∃ q : Nat, q = 40 * h := ⟨_, rfl⟩
      have hh1 := hF.half
      have hqI : (h : Int) * 40 = (q : Int) := by omega
      have hq4 : q < 400 := by omega
      have hqi : (q : Int) < 400 := by omega
      obtain ⟨sec, hsec⟩ : ∃ sec, secs[q]? = some sec := ⟨_, List.getElem?_eq_getElem (by omega)⟩
      have hcs := hsx q sec hsec
      have hs64 := h64 sec (List.mem_of_getElem? hsec)
      have himg : imgOf secs (40 * h) = sec := by unfold imgOf; rw [← hq, hsec]; rfl
      have hR0 := hF.new
      have HQ : Hid (q = 40 * h) := hq
      clear hsec hq
      have hbody : (bodyOf (imgOf secs) h).length ≤ 2496 := by
        rw [bodyOf_length (fun j hj => ?_)]; exact Nat.le_refl _
        unfold imgOf
        rw [List.getElem?_eq_getElem (by omega)]
        exact h64 _ (List.getElem_mem _)
      cases hrd : readHead sec with
      | none =>
        have hno : NoText (imgOf secs) h := noText_head (by rw [himg]; exact hrd)
        have hrh := fun W => (readHead_any ⟨sec.toArray⟩ W (by rw [size_mk]; exact hs64)).mono (R' := fun e x1 => e = .returned (.tuple #[.agg #[.int .u64 0, .int .i64 0, .int .u32 0, .int .i64 0, .int .u32 0], .bool false]) ∧ Kept no W x1) (fun e x1 ⟨he, hk⟩ => ⟨by rw [he]; have : (⟨sec.toArray⟩ : ByteArray).data.toList = sec := rfl; rw [this, hrd]; rfl, hk⟩)
        go_wp2_with fail
        refine (headAt_any (h : Int) _ (by omega) (by omega)).mono ?_
        rintro e x1 ⟨rfl, hw⟩
        rw [hw, hqI]
        clear hw
        go_wp2_with fail
        refine (hrh _).mono ?_
        rintro e x1 ⟨rfl, hk1⟩
        have hhd1 := hk1.get hhd (fun h => h)
        have hres1 := hk1.get hF.res (fun h => h)
        obtain ⟨hcz, hfz⟩ := cells_of hhd1
        obtain ⟨hst, hks⟩ := head_stored (v0 := .int .u64 0) (v1 := .int .i64 0) (v2 := .int .u32 0) (v3 := .int .i64 0) (v4 := .int .u32 0) hhd1
        go_wp2_with fail
        try refine wp_goto ?_
        exact ⟨⟨by decide, _, _, _, _, _, _, _, _, _, _, _, _, _, _, _, _, _, _, _, _, _, _, _, _, _, _, _, _, _, _, _, _, _, _, _, _, _, _, _, _, _, _, _, _, _, _, _, h, rfl, ⟨(hkx.step hk1).step' hks (fun x hx hlt => by omega), hks.get hres1 (fun e => by omega), ⟨_, _, _, _, _, hst⟩, hh1, hla, hR0, fun e => absurd e (by decide), fun _ => ⟨hno, fun _ => (hF.at1 rfl).2⟩⟩⟩, by have := (hF.at1 rfl).1; subst this; simp [findMu, intOf]⟩
      | some hd =>
        have hrh := fun W => (readHead_any ⟨sec.toArray⟩ W (by rw [size_mk]; exact hs64)).mono (R' := fun e x1 => e = .returned (.tuple #[.agg #[.int .u64 (hd.number : Int), .int .i64 hd.text.len, .int .u32 (hd.text.sum : Int), .int .i64 hd.file.len, .int .u32 (hd.file.sum : Int)], .bool true]) ∧ Kept no W x1) (fun e x1 ⟨he, hk⟩ => ⟨by rw [he]; have : (⟨sec.toArray⟩ : ByteArray).data.toList = sec := rfl; rw [this, hrd]; rfl, hk⟩)
        have hrd' : readHead (imgOf secs (40 * h)) = some hd := by rw [himg]; exact hrd
        clear hrd himg
        have HRD : Hid (readHead (imgOf secs (40 * h)) = some hd) := hrd'
        clear hrd'
        obtain ⟨t, ok, hbt⟩ : ∃ t ok, bodyTo (imgOf secs) h hd.text = (t, ok) := ⟨_, _, rfl⟩
        have hrb := fun W (hsW : StrsAt W b o secs) (hbW : b < W.heap.size) => (readBody_any b o cap secs h (h : Int) rfl hd.text W hsW hl h64 hcap hcm hh1 hbW).mono (R' := fun e x1 => e = .returned (.tuple #[sv t, .bool ok]) ∧ Kept no W x1) (fun e x1 ⟨he, hk⟩ => ⟨by rw [he, hbt], hk⟩)
        have htl := bodyTo_length hbt hbody
        have HBT : Hid (bodyTo (imgOf secs) h hd.text = (t, ok)) := hbt
        clear hbt
        go_wp2_with fail
        refine (headAt_any (h : Int) _ (by omega) (by omega)).mono ?_
        rintro e x1 ⟨rfl, hw⟩
        rw [hw, hqI]
        clear hw
        go_wp2_with fail
        refine (hrh _).mono ?_
        rintro e x1 ⟨rfl, hk1⟩
        have hhd1 := hk1.get hhd (fun h => h)
        have hres1 := hk1.get hF.res (fun h => h)
        obtain ⟨hcz, hfz⟩ := cells_of hhd1
        obtain ⟨hst, hks⟩ := head_stored (v0 := .int .u64 (hd.number : Int)) (v1 := .int .i64 hd.text.len) (v2 := .int .u32 (hd.text.sum : Int)) (v3 := .int .i64 hd.file.len) (v4 := .int .u32 (hd.file.sum : Int)) hhd1
        have hkx2 : Kept no w (((((x1.setCell ⟨R + 1, 0, none⟩ (.int .u64 (hd.number : Int))).setCell ⟨R + 1, 1, none⟩ (.int .i64 hd.text.len)).setCell ⟨R + 1, 2, none⟩ (.int .u32 (hd.text.sum : Int))).setCell ⟨R + 1, 3, none⟩ (.int .i64 hd.file.len)).setCell ⟨R + 1, 4, none⟩ (.int .u32 (hd.file.sum : Int))) := (hkx.step hk1).step' hks (fun x hx hlt => by omega)
        have hres2 := hks.get hres1 (fun e => by omega)
        go_wp2_with fail
        clear hcz hfz
        generalize (((((x1.setCell ⟨R + 1, 0, none⟩ (.int .u64 (hd.number : Int))).setCell ⟨R + 1, 1, none⟩ (.int .i64 hd.text.len)).setCell ⟨R + 1, 2, none⟩ (.int .u32 (hd.text.sum : Int))).setCell ⟨R + 1, 3, none⟩ (.int .i64 hd.file.len)).setCell ⟨R + 1, 4, none⟩ (.int .u32 (hd.file.sum : Int))) = x2 at hst hkx2 hres2 ⊢
        refine (hrb x2 (hs.kept hkx2 (fun h => h)) (Nat.lt_of_lt_of_le hbl hkx2.size)).mono ?_
        rintro e x3 ⟨rfl, hk3⟩
        have hst3 := hk3.get hst (fun h => h)
        have hres3 := hk3.get hres2 (fun h => h)
        have hkx3 := hkx2.step hk3
        cases ok with
        | false =>
          have hno : NoText (imgOf secs) h := noText_body HRD.out HBT.out
          go_wp2_with fail
          try refine wp_goto ?_
          exact ⟨⟨by decide, _, _, _, _, _, _, _, _, _, _, _, _, _, _, _, _, _, _, _, _, _, _, _, _, _, _, _, _, _, _, _, _, _, _, _, _, _, _, _, _, _, _, _, _, _, _, _, h, rfl, ⟨hkx3, hres3, ⟨_, _, _, _, _, hst3⟩, hh1, hla, hR0, fun e => absurd e (by decide), fun _ => ⟨hno, fun _ => (hF.at1 rfl).2⟩⟩⟩, by have := (hF.at1 rfl).1; subst this; simp [findMu, intOf]⟩
        | true =>
          by_cases hit : IsText t
          · have hrt : ReadsHalf (imgOf secs) h hd t := reads_of HRD.out HBT.out hit
            go_wp2_with fail
            refine (isText_any t _ (by omega) true (by simp [hit])).mono ?_
            rintro e x4 ⟨rfl, hk4⟩
            have hst4 := hk4.get hst3 (fun h => h)
            have hres4 := hk4.get hres3 (fun h => h)
            have hkx4 := hkx3.step hk4
            obtain ⟨hch, _⟩ := cells_of hst4
            obtain ⟨hcr, hfr⟩ := cells_of hres4
            go_wp2
            obtain ⟨hst5, hks5⟩ := found_stored (v0 := sv t) (v1 := .int .i64 hd.file.len) (v2 := .int .u32 (hd.file.sum : Int)) (v3 := .bool true) (v4 := .bool true) (v5 := .int .i64 (h : Int)) (v6 := .int .u64 (hd.number : Int)) hres4
            obtain ⟨hc5, _⟩ := cells_of hst5
            clear hcr hfr
            refine jumpsTo_ret ?_
            refine bodyPost_ret (v := .tuple #[.agg #[sv t, .int .i64 hd.file.len, .int .u32 (hd.file.sum : Int), .bool true, .bool true, .int .i64 (h : Int), .int .u64 (hd.number : Int)], .bool true]) (by simp [results, Tryz.results78, go_sem, hc5]) rfl ⟨hkx4.step' hks5 (fun x hx hlt => by have := HR.out; omega), .inl ⟨h, hd, t, ⟨hh1, hrt, .inr (by have := (hF.at1 rfl); rw [this.1]; exact this.2)⟩, rfl⟩⟩
          · have hno : NoText (imgOf secs) h := noText_fits HRD.out HBT.out hit
            go_wp2_with fail
            refine (isText_any t _ (by omega) false (by simp [hit])).mono ?_
            rintro e x4 ⟨rfl, hk4⟩
            have hst4 := hk4.get hst3 (fun h => h)
            have hres4 := hk4.get hres3 (fun h => h)
            have hkx4 := hkx3.step hk4
            go_wp2_with fail
            try refine wp_goto ?_
            exact ⟨⟨by decide, _, _, _, _, _, _, _, _, _, _, _, _, _, _, _, _, _, _, _, _, _, _, _, _, _, _, _, _, _, _, _, _, _, _, _, _, _, _, _, _, _, _, _, _, _, _, _, h, rfl, ⟨hkx4, hres4, ⟨_, _, _, _, _, hst4⟩, hh1, hla, hR0, fun e => absurd e (by decide), fun _ => ⟨hno, fun _ => (hF.at1 rfl).2⟩⟩⟩, by have := (hF.at1 rfl).1; subst this; simp [findMu, intOf]⟩

    · obtain rfl : l = 0 := by omega
      refine ⟨_, rfl, ?_⟩
      obtain ⟨hno, hno2⟩ := hF.at0 (by decide)
      obtain ⟨hcr, hfr⟩ := cells_of hF.res
      by_cases heq : h = la
      · have hb : ((h : Int) == (la : Int)) = true := by rw [beq_iff_eq]; omega
        go_wp2_with fail
        obtain ⟨hst5, hks5⟩ := found_stored (v0 := .string ⟨#[]⟩) (v1 := .int .i64 0) (v2 := .int .u32 0) (v3 := .bool false) (v4 := .bool false) (v5 := .int .i64 0) (v6 := .int .u64 0) hF.res
        obtain ⟨hc5, _⟩ := cells_of hst5
        clear hcr hfr
        refine jumpsTo_ret ?_
        refine bodyPost_ret (v := .tuple #[.agg #[.string ⟨#[]⟩, .int .i64 0, .int .u32 0, .bool false, .bool false, .int .i64 0, .int .u64 0], .bool false]) (by simp [results, Tryz.results78, go_sem, hc5]) rfl ⟨hF.kept.step' hks5 (fun x hx hlt => by have := HR.out; omega), .inr ⟨fun k hk => (show k = h ∨ k = 1 - la by omega).elim (fun e => by rw [e]; exact hno) (fun e => by rw [e]; exact hno2 heq), rfl⟩⟩
      · have hb : ((h : Int) == (la : Int)) = false := by rw [beq_eq_false_iff_ne]; omega
        go_wp2_with fail
        refine wp_goto ?_
        refine ⟨⟨by decide, _, _, _, _, _, _, _, _, _, _, _, _, _, _, _, _, _, _, _, _, _, _, _, _, _, _, _, _, _, _, _, _, _, _, _, _, _, _, _, _, _, _, _, _, _, _, _, la, rfl, ⟨hF.kept, hF.res, hF.head, hla, hla, hF.new, fun _ => ⟨rfl, ?_⟩, fun e => absurd rfl e⟩⟩, by simp only [findMu]; rw [if_pos trivial, if_neg (by decide), if_neg (by simp [intOf]; omega)]; decide⟩
        have := hF.half
        rw [show 1 - la = h by omega]
        exact hno
end Go.Proofs.YtdpfohgkikjeaaaGreat
/- isSwap, readBack, Recover. -/
namespace Go.Proofs.YtdpfohgkikjeaaaGreat
open Go.RowKit
set_option linter.unusedVariables false
set_option linter.unusedSimpArgs false

set_option maxHeartbeats 1000000 in
set_option maxRecDepth 100000 in
theorem isSwap_any {w : World} {v : Value} {secs : List Str} (hr : Row w 9 1 v secs.length (secs.map sv)) (t : Bool) (ht : t = true ↔ (secs.length = 400 ∧ ∀ s ∈ secs, s.length = 64)) :
    Calls Tryz.prog 47 #[v] w fun e w' => e = .returned (.bool t) ∧ w' = w := by
  obtain ⟨pv, cv, rfl⟩ := hr.slice
  obtain ⟨n, hn⟩ : ∃ n, n = secs.length := ⟨_, rfl⟩
  have HT : Hid (t = true ↔ (secs.length = 400 ∧ ∀ s ∈ secs, s.length = 64)) := ht
  clear ht
  rw [← hn] at hr ⊢
  have HN : Hid (n = secs.length) := hn
  clear hn
  by_cases h400 : n = 400
  · subst h400
    go_enter Tryz.func47, Tryz.ntmps47
    go_wp2
    go_loopw [10] (fun i wr => ∃ j : Nat, j ≤ 400 ∧ i = .int .i64 ((j : Nat) : Int) ∧ (∀ s ∈ secs.take j, s.length = 64) ∧ wr = w) (fun i _ => 400 - (intOf i).toNat)
    case atStart => exact ⟨0, Nat.zero_le _, rfl, by simp, rfl⟩
    case round =>
      obtain ⟨j, hj, rfl, hall, rfl⟩ := hrel
      by_cases hlt : j < 400
      · rcases hr.shape with ⟨_, h1, _⟩ | ⟨g, c', hv, _, _⟩
        · omega
        simp only [Value.slice.injEq, true_and] at hv
        obtain ⟨rfl, rfl⟩ := hv
        obtain ⟨_, _, _, hcell⟩ := hr.cell
        have hlt' : j < secs.length := by have := HN.out; omega
        have hcj := hcell j (sv secs[j]) (by simp [hlt'])
        clear hcell
        have htk : Hid (secs.take (j + 1) = secs.take j ++ [secs[j]]) := List.take_succ_eq_append_getElem hlt'
        have hmem : secs[j] ∈ secs := List.getElem_mem hlt'
        generalize secs[j] = x at hcj htk hmem
        by_cases h64 : x.length = 64
        · have hb : ((x.length : Int) != 64) = false := by simp; omega
          go_wp2
          go_roundw
          case rel =>
            refine ⟨j + 1, hlt, by go_num, ?_, trivial⟩
            rw [htk.out]
            intro s hs
            rcases List.mem_append.1 hs with hs | hs
            · exact hall s hs
            · rw [List.mem_singleton.1 hs]; exact h64
          case measure => simp [intOf]; omega
        · have hb : ((x.length : Int) != 64) = true := by simp; omega
          go_wp2
          have : t = false := by
            cases t with
            | false => rfl
            | true => exact absurd ((HT.out.1 rfl).2 x hmem) h64
          subst this
          go_ret
          exact ⟨rfl, rfl⟩
      · obtain rfl : j = 400 := by omega
        have : t = true := HT.out.2 ⟨HN.out.symm, by rw [List.take_of_length_le (by have := HN.out; omega)] at hall; exact hall⟩
        subst this
        go_wp2
        go_ret
        exact ⟨rfl, rfl⟩
  · have : t = false := by
      cases t with
      | false => rfl
      | true => exact absurd (HN.out.trans (HT.out.1 rfl).1) h400
    subst this
    have hb : ((n : Int) != 400) = true := by simp; omega
    go_enter Tryz.func47, Tryz.ntmps47
    go_wp2
    go_ret
    exact ⟨rfl, rfl⟩
end Go.Proofs.YtdpfohgkikjeaaaGreat
/- readBack. -/
namespace Go.Proofs.YtdpfohgkikjeaaaGreat
open Go.RowKit
set_option linter.unusedVariables false
set_option linter.unusedSimpArgs false

theorem mark_ext {a b : Mark} (h1 : a.len = b.len) (h2 : a.sum = b.sum) : a = b := by
  cases a; cases b
  cases h1; cases h2; rfl

/-- A document as it is read back. -/
def DocS.readBack (ls : List Str) (file : Str) (every h num : Nat) : DocS := { DocS.fresh ls file every with wr := ⟨true, true, h, num⟩ }

set_option maxHeartbeats 2000000 in
set_option maxRecDepth 100000 in
theorem readBack_some (b o cap : Nat) (secs : List Str) (w : World) (hs : StrsAt w b o secs) (hl : secs.length = 400) (h64 : ∀ s ∈ secs, s.length = 64) (hcap : 400 ≤ cap) (hcm : cap ≤ 9223372036854775807) (hbl : b < w.heap.size)
    (h : Nat) (hd : Head) (ls : List Str) (hok : TextOk ls) (hF : Finds (imgOf secs) h hd (textOf ls)) (file : Str) (hfl : file.length ≤ 1099511627776) (every : Nat) (evI : Int) (hev : evI = (every : Int)) (he1 : 1 ≤ every) (he2 : every ≤ 20) (hnum : hd.number < 18446744073709551616) (same : Bool) (hsame : same = true ↔ markOf file = hd.file) :
    Calls Tryz.prog 48 #[.slice (some ⟨b, o, none⟩) 400 cap, .string ⟨file.toArray⟩, .int .i64 evI] w fun e w' => ∃ B fp, e = .returned (.tuple #[.pointer (some ⟨B, 0, none⟩), .bool same, .int .i64 0]) ∧ DocR w' B (DocS.readBack ls file every h hd.number) fp ∧ (∀ x ∈ fp, w.heap.size ≤ x) ∧ Kept no w w' := by
  have hfind := (find_swap b o cap secs w hs hl h64 hcap hcm hbl).mono (R' := fun e w' => e = .returned (.tuple #[.agg #[sv (textOf ls), .int .i64 hd.file.len, .int .u32 (hd.file.sum : Int), .bool true, .bool true, .int .i64 (h : Int), .int .u64 (hd.number : Int)], .bool true]) ∧ Kept no w w') (fun e w' ⟨hk, hh⟩ => by
    rcases hh with ⟨h', hd', t', hF', he⟩ | ⟨hno, _⟩
    · obtain ⟨rfl, rfl, rfl⟩ := hF.unique hF'
      exact ⟨he, hk⟩
    · exact absurd hF.reads (hno h hF.half hd _))
  have hlen := hok.length
  have hcut : ∀ W : World, _ := fun W => (cut_any (textOf ls) W (by omega)).mono (R' := fun e w' => ∃ v, e = .returned (.tuple #[v, .bool true]) ∧ Row w' 9 1 v ls.length (ls.map sv) ∧ Kept no W w') (fun e w' ⟨hh, hk⟩ => by
    rcases hh with ⟨ls', v, hok', hls, he, hr, _⟩ | ⟨hno, _⟩
    · have e1 : ls' = ls := textOf_inj (fun l hl => (hok'.lines l hl).2) (fun l hl => (hok.lines l hl).2) hls
      subst e1
      exact ⟨v, he, hr, hk⟩
    · exact absurd ⟨ls, hok, rfl⟩ hno)
  have hh1 := hF.half
  clear hF
  generalize textOf ls = t at hfind hcut hlen
  go_enter Tryz.func48, Tryz.ntmps48
  go_wp2_with fail
  refine hfind.mono ?_
  rintro e w1 ⟨rfl, hk1⟩
  go_wp2_with fail
  obtain ⟨hn2, hsz2, hk2⟩ := new1 w1 (Obj.cells #[.string ⟨t.toArray⟩, .int .i64 hd.file.len, .int .u32 (hd.file.sum : Int), .bool true, .bool true, .int .i64 (h : Int), .int .u64 (hd.number : Int)] 136)
  have hs1 := hk1.size
  generalize w1.alloc (Obj.cells #[.string ⟨t.toArray⟩, .int .i64 hd.file.len, .int .u32 (hd.file.sum : Int), .bool true, .bool true, .int .i64 (h : Int), .int .u64 (hd.number : Int)] 136) = w2 at hn2 hsz2 hk2 ⊢
  obtain ⟨R, hR⟩ : ∃ R, R = w1.heap.size := ⟨_, rfl⟩
  rw [← hR] at hn2 hsz2 ⊢
  have HR : Hid (R = w1.heap.size) := hR
  clear hR
  have hk02 : Kept no w w2 := hk1.step hk2
  refine (hcut w2).mono ?_
  rintro e w3 ⟨v, rfl, hr, hk3⟩
  have hn3 := hk3.get hn2 (fun h => h)
  have hs3 := hk3.size
  go_wp2_with fail
  refine (newDoc_any hr hok file hfl every _ rfl).mono ?_
  rintro e w4 ⟨B, fp, rfl, hT, hfp, hk4⟩
  have hn4 := hk4.get hn3 (fun h => h)
  obtain ⟨hc4, hf4⟩ := cells_of hn4
  have hRB : R ≠ B := fun e => by have := hfp B hT.mem; have := HR.out; omega
  obtain ⟨vi, vk, hB⟩ := hT.count
  obtain ⟨hcB, hfB⟩ := cells_of hB
  go_wp2_with fail
  have hst : ∀ vi vk cnt, w4.heap[B]? = some (.cells (vi :: vk :: cnt :: docRest (DocS.fresh ls file every) (.slice none 0 0)).toArray docT (0, 0)) → ((((w4.setCell ⟨B, 8, none⟩ (.bool true)).setCell ⟨B, 9, none⟩ (.bool true)).setCell ⟨B, 10, none⟩ (.int .i64 (h : Int))).setCell ⟨B, 11, none⟩ (.int .u64 (hd.number : Int))).heap[B]? = some (.cells (vi :: vk :: cnt :: docRest (DocS.readBack ls file every h hd.number) (.slice none 0 0)).toArray docT (0, 0)) := fun vi vk cnt hh => by
    rw [heap_set_same (heap_set_same (heap_set_same (heap_set_same hh)))]
    simp [DocS.readBack, DocS.fresh]
  have hks5 : Kept (fun x => x = B) w4 ((((w4.setCell ⟨B, 8, none⟩ (.bool true)).setCell ⟨B, 9, none⟩ (.bool true)).setCell ⟨B, 10, none⟩ (.int .i64 (h : Int))).setCell ⟨B, 11, none⟩ (.int .u64 (hd.number : Int))) := ((Kept.cell1.step Kept.cell1).step Kept.cell1).step Kept.cell1
  have hT5 := hT.store (rest' := docRest (DocS.readBack ls file every h hd.number) (.slice none 0 0)) hks5 hst
  have hB5 := hst _ _ _ hB
  have hR5 := hks5.get hn4 (fun e => hRB e)
  clear hst hc4 hf4 hcB hfB
  generalize ((((w4.setCell ⟨B, 8, none⟩ (.bool true)).setCell ⟨B, 9, none⟩ (.bool true)).setCell ⟨B, 10, none⟩ (.int .i64 (h : Int))).setCell ⟨B, 11, none⟩ (.int .u64 (hd.number : Int))) = w5 at hks5 hT5 hB5 hR5 ⊢
  refine wp_region3 (fun W => W.heap[B]? = some (.cells (vi :: vk :: .int .i64 (ls.length : Int) :: docRest (DocS.readBack ls file every h hd.number) (.slice none 0 0)).toArray docT (0, 0)) ∧ W.heap[R]? = some (.cells #[.string ⟨t.toArray⟩, .int .i64 hd.file.len, .int .u32 (hd.file.sum : Int), .bool true, .bool true, .int .i64 (h : Int), .int .u64 (hd.number : Int)] 136 (0, 0))) [(0, true), (1, true), (2, true), (3, true), (4, false), (5, true), (6, false), (7, true)] [8, 9, 10] (by kernel_rfl) (by kernel_rfl) (fun _ _ d _ _ h => by cases d <;> exact h) ⟨hB5, hR5⟩ ?_
  repeat ((first | refine wpPre3_pure rfl rfl (fun W => (by go_simp; rfl)) ?_ | refine wpPre3_read rfl rfl (fun W hW => (by obtain ⟨hc, _⟩ := cells_of hW.1; obtain ⟨hc2, _⟩ := cells_of hW.2; go_simp; rfl)) ?_); simp only [Act.put, List.setIfInBounds_toArray, List.set])
  refine wpPre3_pure rfl rfl (v := .bool same) (fun W => ?_) ?_
  · go_simp
    rw [show (DocS.readBack ls file every h hd.number).file = markOf file from rfl]
    cases same with
    | true => rw [hsame.1 rfl]; simp
    | false =>
      by_cases e1 : (markOf file).len = hd.file.len
      · by_cases e2 : ((markOf file).sum : Int) = (hd.file.sum : Int)
        · exact absurd (hsame.2 (mark_ext e1 (by omega))) (by decide)
        · rw [if_pos e1, if_neg e2]
      · rw [if_neg e1]
  simp only [Act.put, List.setIfInBounds_toArray, List.set]
  refine wpPre3_nil ?_
  refine wpTail3_cons rfl rfl (fun K hK => ?_)
  go_wp2_with fail
  try refine ⟨fun h => h, ?_⟩
  refine wpTail3_cons rfl rfl (fun K hK => ?_)
  go_wp2_with fail
  try refine ⟨fun h => h, ?_⟩
  refine wpTail3_cons rfl rfl (fun K hK => ?_)
  go_wp2_with fail
  try refine ⟨fun h => h, ?_⟩
  refine wpTail3_nil ?_
  go_wp2
  have hbase : (DocS.readBack ls file every h hd.number).Base := ⟨hok, he1, he2, hh1, hnum, crc_lt _, by simp only [DocS.readBack, DocS.fresh, markOf]; omega, by simp only [DocS.readBack, DocS.fresh, markOf]; omega⟩
  have hkw : Kept no w w5.drew := (((hk02.step hk3).step hk4).step' hks5 (fun x hx hlt => by have := hfp x (hx ▸ hT.mem); have := hk02.size; omega)).drew
  refine bodyPost_ret (v := .tuple #[.pointer (some ⟨B, 0, none⟩), .bool same, .int .i64 0]) (by simp [results, Tryz.results48, go_sem]) rfl ⟨B, fp, rfl, ⟨.slice none 0 0, fp, [], ⟨hT5.kept (S := no) ((Kept.refl _ _).drew) (fun _ _ h => h), .inl ⟨rfl, rfl, rfl⟩, by simp, ⟨hbase, by show 0 < every; omega, by show 0 ≤ 2; omega, by simp [DocS.readBack, DocS.fresh]⟩⟩, by simp⟩, fun x hx => ?_, hkw⟩
  have := hfp x hx
  have := hk02.size
  omega
end Go.Proofs.YtdpfohgkikjeaaaGreat
