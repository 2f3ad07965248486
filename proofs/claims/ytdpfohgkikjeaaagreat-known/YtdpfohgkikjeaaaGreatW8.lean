/- Part W 8 of the proof: see its parts. -/
import Derived.Deep.QuietTactic
import Derived.Test.YtdpfohgkikjeaaaGreatW7
/- Find: the walk. -/
namespace Go.Proofs.YtdpfohgkikjeaaaGreat
open Go.RowKit
set_option linter.unusedVariables false
set_option linter.unusedSimpArgs false

/-- The cells of what Find answers. -/
def foundCells (hd : Head) (h : Nat) (t : Str) : List Value := [sv t, .int .i64 hd.file.len, .int .u32 (hd.file.sum : Int), .bool true, .bool true, .int .i64 (h : Int), .int .u64 (hd.number : Int)]
def foundVal (hd : Head) (h : Nat) (t : Str) : Value := .agg #[sv t, .int .i64 hd.file.len, .int .u32 (hd.file.sum : Int), .bool true, .bool true, .int .i64 (h : Int), .int .u64 (hd.number : Int)]

/-- No text is read of a half. -/
def NoText (img : Img) (h : Nat) : Prop := ∀ hd t, ¬ ReadsHalf img h hd t

/-- In the midst of Find: at the label l, the half h is at hand, the last one is la. -/
structure FindAt (img : Img) (w0 : World) (R h la l : Nat) (w' : World) : Prop where
  kept : Kept no w0 w'
  res : w'.heap[R]? = some (.cells #[.string ⟨#[]⟩, .int .i64 0, .int .u32 0, .bool false, .bool false, .int .i64 0, .int .u64 0] 136 (0, 0))
  head : ∃ x0 x1 x2 x3 x4, w'.heap[R + 1]? = some (.cells #[x0, x1, x2, x3, x4] 164 (0, 0))
  half : h ≤ 1
  last : la ≤ 1
  new : w0.heap.size ≤ R
  at1 : l = 1 → h = la ∧ NoText img (1 - la)
  at0 : l ≠ 1 → NoText img h ∧ (h = la → NoText img (1 - la))

/-- What holds at the labels. -/
def FindJ (img : Img) (w0 : World) (b o cap R la : Nat) (l : Nat) (a : Act) (w' : World) : Prop :=
  l ≤ 1 ∧ ∃ u2 u3 u5 u7 u8 u11 u12 u13 u14 u15 u16 u17 u18 u19 u20 u21 u22 u23 u24 u25 u26 u27 u28 u29 u30 u31 u32 u33 u34 u35 u36 u37 u38 u39 u40 u41 u42 u43 u44 u45 u46 u47 u48 u49 u50 u51 u52 : Value, ∃ h : Nat, a = ⟨#[.slice (some ⟨b, o, none⟩) 400 cap, .func (.func 79) #[] #[], u2, u3, .pointer (some ⟨R, 0, none⟩), u5, .pointer (some ⟨R + 1, 0, none⟩), u7, u8, .int .i64 (h : Int), .int .i64 (la : Int), u11, u12, u13, u14, u15, u16, u17, u18, u19, u20, u21, u22, u23, u24, u25, u26, u27, u28, u29, u30, u31, u32, u33, u34, u35, u36, u37, u38, u39, u40, u41, u42, u43, u44, u45, u46, u47, u48, u49, u50, u51, u52], []⟩ ∧ FindAt img w0 R h la l w'

def findMu (l : Nat) (a : Act) : Nat := if l = 1 then 2 else if intOf (a.tmps.getD 9 undef) = intOf (a.tmps.getD 10 undef) then 1 else 3

/-- A body that was read, and is a text. -/
theorem reads_of {img : Img} {h : Nat} {hd : Head} {t : Str} (h1 : readHead (img (40 * h)) = some hd) (h2 : bodyTo img h hd.text = (t, true)) (h3 : IsText t) : ReadsHalf img h hd t := by
  unfold bodyTo at h2
  split at h2
  · cases h2
  · rename_i hn
    simp only [Prod.mk.injEq, decide_eq_true_iff] at h2
    exact ⟨h1, by omega, by omega, h2.1.symm, by rw [← h2.1]; exact h2.2, h3⟩
theorem noText_head {img : Img} {h : Nat} (h1 : readHead (img (40 * h)) = none) : NoText img h := fun hd t r => by
  have := r.head; rw [h1] at this; cases this
theorem noText_body {img : Img} {h : Nat} {hd : Head} {t : Str} (h1 : readHead (img (40 * h)) = some hd) (h2 : bodyTo img h hd.text = (t, false)) : NoText img h := fun hd' t' r => by
  obtain rfl : hd = hd' := Option.some.inj (h1.symm.trans r.head)
  unfold bodyTo at h2
  rw [if_neg (by have := r.len0; have := r.len1; omega)] at h2
  simp only [Prod.mk.injEq, decide_eq_false_iff_not] at h2
  have e := r.text
  rw [h2.1] at e
  exact h2.2 (by rw [h2.1, ← e]; exact r.sum)
theorem noText_fits {img : Img} {h : Nat} {hd : Head} {t : Str} {ok : Bool} (h1 : readHead (img (40 * h)) = some hd) (h2 : bodyTo img h hd.text = (t, ok)) (h3 : ¬ IsText t) : NoText img h := fun hd' t' r => by
  obtain rfl : hd = hd' := Option.some.inj (h1.symm.trans r.head)
  unfold bodyTo at h2
  rw [if_neg (by have := r.len0; have := r.len1; omega)] at h2
  simp only [Prod.mk.injEq] at h2
  have e := r.text
  rw [h2.1] at e
  exact h3 (e ▸ r.fits)
theorem bodyTo_length {img : Img} {h : Nat} {m : Mark} {t : Str} {ok : Bool} (h2 : bodyTo img h m = (t, ok)) (hl : (bodyOf img h).length ≤ 2496) : t.length ≤ 2496 := by
  unfold bodyTo at h2
  split at h2
  · cases h2; simp
  · simp only [Prod.mk.injEq] at h2
    rw [← h2.1, List.length_take]; omega

theorem jumpsTo_ret {J : Nat → Act → World → Prop} {Q : Exit → Act → World → Prop} {a : Act} {w : World} (h : Q .ret a w) : jumpsTo J Q .ret a w := h

structure FindTop (img : Img) (w0 : World) (R h : Nat) (w' : World) : Prop where
  kept : Kept no w0 w'
  res : w'.heap[R]? = some (.cells #[.string ⟨#[]⟩, .int .i64 0, .int .u32 0, .bool false, .bool false, .int .i64 0, .int .u64 0] 136 (0, 0))
  head : ∃ x0 x1 x2 x3 x4, w'.heap[R + 1]? = some (.cells #[x0, x1, x2, x3, x4] 164 (0, 0))
  half : h ≤ 1
  new : w0.heap.size ≤ R

theorem found_stored {W : World} {Hb : Nat} {T : TypeId} {c0 c1 c2 c3 c4 c5 c6 v0 v1 v2 v3 v4 v5 v6 : Value} (h : W.heap[Hb]? = some (.cells #[c0, c1, c2, c3, c4, c5, c6] T (0, 0))) :
    (((((((W.setCell ⟨Hb, 0, none⟩ v0).setCell ⟨Hb, 1, none⟩ v1).setCell ⟨Hb, 2, none⟩ v2).setCell ⟨Hb, 3, none⟩ v3).setCell ⟨Hb, 4, none⟩ v4).setCell ⟨Hb, 5, none⟩ v5).setCell ⟨Hb, 6, none⟩ v6).heap[Hb]? = some (.cells #[v0, v1, v2, v3, v4, v5, v6] T (0, 0)) ∧
    Kept (fun x => x = Hb) W (((((((W.setCell ⟨Hb, 0, none⟩ v0).setCell ⟨Hb, 1, none⟩ v1).setCell ⟨Hb, 2, none⟩ v2).setCell ⟨Hb, 3, none⟩ v3).setCell ⟨Hb, 4, none⟩ v4).setCell ⟨Hb, 5, none⟩ v5).setCell ⟨Hb, 6, none⟩ v6) := by
  have e1 := heap_set_same (o := 0) (v := v0) h
  have e2 := heap_set_same (o := 1) (v := v1) e1
  have e3 := heap_set_same (o := 2) (v := v2) e2
  have e4 := heap_set_same (o := 3) (v := v3) e3
  have e5 := heap_set_same (o := 4) (v := v4) e4
  have e6 := heap_set_same (o := 5) (v := v5) e5
  have e7 := heap_set_same (o := 6) (v := v6) e6
  exact ⟨by rw [e7]; simp, (((((Kept.cell1.step Kept.cell1).step Kept.cell1).step Kept.cell1).step Kept.cell1).step Kept.cell1).step Kept.cell1⟩

set_option maxHeartbeats 4000000 in
set_option maxRecDepth 100000 in
theorem find_swap (b o cap : Nat) (secs : List Str) (w : World) (hs : StrsAt w b o secs) (hl : secs.length = 400) (h64 : ∀ s ∈ secs, s.length = 64) (hcap : 400 ≤ cap) (hcm : cap ≤ 9223372036854775807) (hbl : b < w.heap.size) :
    Calls Tryz.prog 78 #[.slice (some ⟨b, o, none⟩) 400 cap, .func (.func 79) #[] #[]] w fun e w' => Kept no w w' ∧
      ((∃ h hd t, Finds (imgOf secs) h hd t ∧ e = .returned (.tuple #[foundVal hd h t, .bool true])) ∨ ((∀ h, h ≤ 1 → NoText (imgOf secs) h) ∧ e = .returned (.tuple #[.agg #[.string ⟨#[]⟩, .int .i64 0, .int .u32 0, .bool false, .bool false, .int .i64 0, .int .u64 0], .bool false]))) := by
  have hlh : ∀ W, StrsAt W b o secs → _ := fun W hW => laterHalf_any b o cap secs W hW hl h64 hcap
  obtain ⟨fh, hfh⟩ : ∃ fh, laterHalf (secs.getD 0 []) (secs.getD 40 []) = fh := ⟨_, rfl⟩
  have hfh1 : fh ≤ 1 := by rw [← hfh]; exact laterHalf_le _ _
  have hfhI : Hid (laterHalf (imgOf secs 0) (imgOf secs 40) = fh) := by show laterHalf (imgOf secs 0) (imgOf secs 40) = fh; rw [← hfh]; simp [imgOf]
  simp only [hfh] at hlh
  clear hfh
  obtain ⟨la, hlaE⟩ : ∃ la, la = 1 - fh := ⟨_, rfl⟩
  have hla : la ≤ 1 := by omega
  have HLA : Hid (la = 1 - fh) := hlaE
  clear hlaE
  go_enter Tryz.func78, Tryz.ntmps78
  go_wp2_with fail
  obtain ⟨R, hR⟩ : ∃ R, R = w.heap.size := ⟨_, rfl⟩
  have HR : Hid (R = w.heap.size) := hR
  clear hR
  refine wp_scope_all (FindJ (imgOf secs) w b o cap R la) findMu ?first ?pass
  case first =>
    go_wp2_with fail
    obtain ⟨hn1, hsz1, hk1a⟩ := new1 w (Obj.cells #[.string ⟨#[]⟩, .int .i64 0, .int .u32 0, .bool false, .bool false, .int .i64 0, .int .u64 0] 136)
    generalize w.alloc (Obj.cells #[.string ⟨#[]⟩, .int .i64 0, .int .u32 0, .bool false, .bool false, .int .i64 0, .int .u64 0] 136) = wa at *
    obtain ⟨hn2, hsz2, hk2a⟩ := new1 wa (Obj.cells #[.int .u64 0, .int .i64 0, .int .u32 0, .int .i64 0, .int .u32 0] 164)
    have hn1' := hk2a.get hn1 (fun h => h)
    have hkb := hk1a.step hk2a
    rw [hsz1] at hn2
    generalize wa.alloc (Obj.cells #[.int .u64 0, .int .i64 0, .int .u32 0, .int .i64 0, .int .u32 0] 164) = wb at *
    have hRle : w.heap.size ≤ R := Nat.le_of_eq HR.out.symm
    rw [← HR.out] at hn1' hn2 ⊢
    refine (hlh wb (hs.kept hkb (fun h => h))).mono ?_
    rintro e wc ⟨rfl, hkc⟩
    have hnr := hkc.get hn1' (fun h => h)
    have hnh := hkc.get hn2 (fun h => h)
    have hF : FindTop (imgOf secs) w R fh wc := ⟨hkb.step hkc, hnr, ⟨_, _, _, _, _, hnh⟩, hfh1, hRle⟩
    clear hnr hnh hn1' hn2 hn1 hkb hk1a hk2a hsz1 hsz2 hlh hkc hRle
    obtain ⟨h, hE⟩ : ∃ h, h = fh := ⟨_, rfl⟩
    subst hE
    have hlaI : (1 : Int) - (h : Int) = (la : Int) := by have := HLA.out; omega
    go_wp2_with fail
    try go_step3
    obtain ⟨x0, x1', x2', x3', x4', hhd⟩ := hF.head
    have hkx := hF.kept
    have hsx := hs.kept hkx (fun h => h)
    obtain ⟨q, hq⟩ : ∃ q : Nat, q = 40 * h := ⟨_, rfl⟩
    have hh1 := hF.half
    have hqI : (h : Int) * 40 = (q : Int) := by omega
    have hq4 : q < 400 := by omega
    have hqi : (q : Int) < 400 := by omega
    obtain ⟨sec, hsec⟩ : ∃ sec, secs[q]? = some sec := ⟨_, List.getElem?_eq_getElem (by omega)⟩
    have hcs := hsx q sec hsec
    have hs64 := h64 sec (List.mem_of_getElem? hsec)
    have himg : imgOf secs (40 * h) = sec := by unfold imgOf; rw [← hq, hsec]; rfl
    have hR0 := hF.new
    have HQ : Hid (q = 40 * h) := hq
    clear hsec hq
    have hbody : (bodyOf (imgOf secs) h).length ≤ 2496 := by
      rw [bodyOf_length (fun j hj => ?_)]; exact Nat.le_refl _
      unfold imgOf
      rw [List.getElem?_eq_getElem (by omega)]
      exact h64 _ (List.getElem_mem _)
    cases hrd : readHead sec with
    | none =>
      have hno : NoText (imgOf secs) h := noText_head (by rw [himg]; exact hrd)
      have hrh := fun W => (readHead_any ⟨sec.toArray⟩ W (by rw [size_mk]; exact hs64)).mono (R' := fun e x1 => e = .returned (.tuple #[.agg #[.int .u64 0, .int .i64 0, .int .u32 0, .int .i64 0, .int .u32 0], .bool false]) ∧ Kept no W x1) (fun e x1 ⟨he, hk⟩ => ⟨by rw [he]; have : (⟨sec.toArray⟩ : ByteArray).data.toList = sec := rfl; rw [this, hrd]; rfl, hk⟩)
      go_wp2_with fail
      refine (headAt_any (h : Int) _ (by omega) (by omega)).mono ?_
      rintro e x1 ⟨rfl, hw⟩
      rw [hw, hqI]
      clear hw
      go_wp2_with fail
      refine (hrh _).mono ?_
      rintro e x1 ⟨rfl, hk1⟩
      have hhd1 := hk1.get hhd (fun h => h)
      have hres1 := hk1.get hF.res (fun h => h)
      obtain ⟨hcz, hfz⟩ := cells_of hhd1
      obtain ⟨hst, hks⟩ := head_stored (v0 := .int .u64 0) (v1 := .int .i64 0) (v2 := .int .u32 0) (v3 := .int .i64 0) (v4 := .int .u32 0) hhd1
      go_wp2_with fail
      try refine wp_goto ?_
      exact ⟨by decide, _, _, _, _, _, _, _, _, _, _, _, _, _, _, _, _, _, _, _, _, _, _, _, _, _, _, _, _, _, _, _, _, _, _, _, _, _, _, _, _, _, _, _, _, _, _, _, h, rfl, ⟨(hkx.step hk1).step' hks (fun x hx hlt => by omega), hks.get hres1 (fun e => by omega), ⟨_, _, _, _, _, hst⟩, hh1, hla, hR0, fun e => absurd e (by decide), fun _ => ⟨hno, fun e => by have := HLA.out; omega⟩⟩⟩
    | some hd =>
      have hrh := fun W => (readHead_any ⟨sec.toArray⟩ W (by rw [size_mk]; exact hs64)).mono (R' := fun e x1 => e = .returned (.tuple #[.agg #[.int .u64 (hd.number : Int), .int .i64 hd.text.len, .int .u32 (hd.text.sum : Int), .int .i64 hd.file.len, .int .u32 (hd.file.sum : Int)], .bool true]) ∧ Kept no W x1) (fun e x1 ⟨he, hk⟩ => ⟨by rw [he]; have : (⟨sec.toArray⟩ : ByteArray).data.toList = sec := rfl; rw [this, hrd]; rfl, hk⟩)
      have hrd' : readHead (imgOf secs (40 * h)) = some hd := by rw [himg]; exact hrd
      clear hrd himg
      have HRD : Hid (readHead (imgOf secs (40 * h)) = some hd) := hrd'
      clear hrd'
      obtain ⟨t, ok, hbt⟩ : ∃ t ok, bodyTo (imgOf secs) h hd.text = (t, ok) := ⟨_, _, rfl⟩
      have hrb := fun W (hsW : StrsAt W b o secs) (hbW : b < W.heap.size) => (readBody_any b o cap secs h (h : Int) rfl hd.text W hsW hl h64 hcap hcm hh1 hbW).mono (R' := fun e x1 => e = .returned (.tuple #[sv t, .bool ok]) ∧ Kept no W x1) (fun e x1 ⟨he, hk⟩ => ⟨by rw [he, hbt], hk⟩)
      have htl := bodyTo_length hbt hbody
      have HBT : Hid (bodyTo (imgOf secs) h hd.text = (t, ok)) := hbt
      clear hbt
      go_wp2_with fail
      refine (headAt_any (h : Int) _ (by omega) (by omega)).mono ?_
      rintro e x1 ⟨rfl, hw⟩
      rw [hw, hqI]
      clear hw
      go_wp2_with fail
      refine (hrh _).mono ?_
      rintro e x1 ⟨rfl, hk1⟩
      have hhd1 := hk1.get hhd (fun h => h)
      have hres1 := hk1.get hF.res (fun h => h)
      obtain ⟨hcz, hfz⟩ := cells_of hhd1
      obtain ⟨hst, hks⟩ := head_stored (v0 := .int .u64 (hd.number : Int)) (v1 := .int .i64 hd.text.len) (v2 := .int .u32 (hd.text.sum : Int)) (v3 := .int .i64 hd.file.len) (v4 := .int .u32 (hd.file.sum : Int)) hhd1
      have hkx2 : Kept no w (((((x1.setCell ⟨R + 1, 0, none⟩ (.int .u64 (hd.number : Int))).setCell ⟨R + 1, 1, none⟩ (.int .i64 hd.text.len)).setCell ⟨R + 1, 2, none⟩ (.int .u32 (hd.text.sum : Int))).setCell ⟨R + 1, 3, none⟩ (.int .i64 hd.file.len)).setCell ⟨R + 1, 4, none⟩ (.int .u32 (hd.file.sum : Int))) := (hkx.step hk1).step' hks (fun x hx hlt => by omega)
      have hres2 := hks.get hres1 (fun e => by omega)
      go_wp2_with fail
      clear hcz hfz
      generalize (((((x1.setCell ⟨R + 1, 0, none⟩ (.int .u64 (hd.number : Int))).setCell ⟨R + 1, 1, none⟩ (.int .i64 hd.text.len)).setCell ⟨R + 1, 2, none⟩ (.int .u32 (hd.text.sum : Int))).setCell ⟨R + 1, 3, none⟩ (.int .i64 hd.file.len)).setCell ⟨R + 1, 4, none⟩ (.int .u32 (hd.file.sum : Int))) = x2 at hst hkx2 hres2 ⊢
      refine (hrb x2 (hs.kept hkx2 (fun h => h)) (Nat.lt_of_lt_of_le hbl hkx2.size)).mono ?_
      rintro e x3 ⟨rfl, hk3⟩
      have hst3 := hk3.get hst (fun h => h)
      have hres3 := hk3.get hres2 (fun h => h)
      have hkx3 := hkx2.step hk3
      cases ok with
      | false =>
        have hno : NoText (imgOf secs) h := noText_body HRD.out HBT.out
        go_wp2_with fail
        try refine wp_goto ?_
        exact ⟨by decide, _, _, _, _, _, _, _, _, _, _, _, _, _, _, _, _, _, _, _, _, _, _, _, _, _, _, _, _, _, _, _, _, _, _, _, _, _, _, _, _, _, _, _, _, _, _, _, h, rfl, ⟨hkx3, hres3, ⟨_, _, _, _, _, hst3⟩, hh1, hla, hR0, fun e => absurd e (by decide), fun _ => ⟨hno, fun e => by have := HLA.out; omega⟩⟩⟩
      | true =>
        by_cases hit : IsText t
        · have hrt : ReadsHalf (imgOf secs) h hd t := reads_of HRD.out HBT.out hit
          go_wp2_with fail
          refine (isText_any t _ (by omega) true (by simp [hit])).mono ?_
          rintro e x4 ⟨rfl, hk4⟩
          have hst4 := hk4.get hst3 (fun h => h)
          have hres4 := hk4.get hres3 (fun h => h)
          have hkx4 := hkx3.step hk4
          obtain ⟨hch, _⟩ := cells_of hst4
          obtain ⟨hcr, hfr⟩ := cells_of hres4
          go_wp2
          obtain ⟨hst5, hks5⟩ := found_stored (v0 := sv t) (v1 := .int .i64 hd.file.len) (v2 := .int .u32 (hd.file.sum : Int)) (v3 := .bool true) (v4 := .bool true) (v5 := .int .i64 (h : Int)) (v6 := .int .u64 (hd.number : Int)) hres4
          obtain ⟨hc5, _⟩ := cells_of hst5
          clear hcr hfr
          refine jumpsTo_ret ?_
          refine bodyPost_ret (v := .tuple #[.agg #[sv t, .int .i64 hd.file.len, .int .u32 (hd.file.sum : Int), .bool true, .bool true, .int .i64 (h : Int), .int .u64 (hd.number : Int)], .bool true]) (by simp [results, Tryz.results78, go_sem, hc5]) rfl ⟨hkx4.step' hks5 (fun x hx hlt => by have := HR.out; omega), .inl ⟨h, hd, t, ⟨hh1, hrt, .inl hfhI.out.symm⟩, rfl⟩⟩
        · have hno : NoText (imgOf secs) h := noText_fits HRD.out HBT.out hit
          go_wp2_with fail
          refine (isText_any t _ (by omega) false (by simp [hit])).mono ?_
          rintro e x4 ⟨rfl, hk4⟩
          have hst4 := hk4.get hst3 (fun h => h)
          have hres4 := hk4.get hres3 (fun h => h)
          have hkx4 := hkx3.step hk4
          go_wp2_with fail
          try refine wp_goto ?_
          exact ⟨by decide, _, _, _, _, _, _, _, _, _, _, _, _, _, _, _, _, _, _, _, _, _, _, _, _, _, _, _, _, _, _, _, _, _, _, _, _, _, _, _, _, _, _, _, _, _, _, _, h, rfl, ⟨hkx4, hres4, ⟨_, _, _, _, _, hst4⟩, hh1, hla, hR0, fun e => absurd e (by decide), fun _ => ⟨hno, fun e => by have := HLA.out; omega⟩⟩⟩
  case pass =>
    intro l a w' hJ
    obtain ⟨hl1, hJ⟩ := hJ
    obtain ⟨u2, hJ⟩ := hJ
    obtain ⟨u3, hJ⟩ := hJ
    obtain ⟨u5, hJ⟩ := hJ
    obtain ⟨u7, hJ⟩ := hJ
    obtain ⟨u8, hJ⟩ := hJ
    obtain ⟨u11, hJ⟩ := hJ
    obtain ⟨u12, hJ⟩ := hJ
    obtain ⟨u13, hJ⟩ := hJ
    obtain ⟨u14, hJ⟩ := hJ
    obtain ⟨u15, hJ⟩ := hJ
    obtain ⟨u16, hJ⟩ := hJ
    obtain ⟨u17, hJ⟩ := hJ
    obtain ⟨u18, hJ⟩ := hJ
    obtain ⟨u19, hJ⟩ := hJ
    obtain ⟨u20, hJ⟩ := hJ
    obtain ⟨u21, hJ⟩ := hJ
    obtain ⟨u22, hJ⟩ := hJ
    obtain ⟨u23, hJ⟩ := hJ
    obtain ⟨u24, hJ⟩ := hJ
    obtain ⟨u25, hJ⟩ := hJ
    obtain ⟨u26, hJ⟩ := hJ
    obtain ⟨u27, hJ⟩ := hJ
    obtain ⟨u28, hJ⟩ := hJ
    obtain ⟨u29, hJ⟩ := hJ
    obtain ⟨u30, hJ⟩ := hJ
    obtain ⟨u31, hJ⟩ := hJ
    obtain ⟨u32, hJ⟩ := hJ
    obtain ⟨u33, hJ⟩ := hJ
    obtain ⟨u34, hJ⟩ := hJ
    obtain ⟨u35, hJ⟩ := hJ
    obtain ⟨u36, hJ⟩ := hJ
    obtain ⟨u37, hJ⟩ := hJ
    obtain ⟨u38, hJ⟩ := hJ
    obtain ⟨u39, hJ⟩ := hJ
    obtain ⟨u40, hJ⟩ := hJ
    obtain ⟨u41, hJ⟩ := hJ
    obtain ⟨u42, hJ⟩ := hJ
    obtain ⟨u43, hJ⟩ := hJ
    obtain ⟨u44, hJ⟩ := hJ
    obtain ⟨u45, hJ⟩ := hJ
    obtain ⟨u46, hJ⟩ := hJ
    obtain ⟨u47, hJ⟩ := hJ
    obtain ⟨u48, hJ⟩ := hJ
    obtain ⟨u49, hJ⟩ := hJ
    obtain ⟨u50, hJ⟩ := hJ
    obtain ⟨u51, hJ⟩ := hJ
    obtain ⟨u52, hJ⟩ := hJ
    obtain ⟨h, rfl, hF⟩ := hJ
    by_cases hl0 : l = 1
    · subst hl0
      refine ⟨_, rfl, ?_⟩
      obtain ⟨x0, x1', x2', x3', x4', hhd⟩ := hF.head
      have hkx := hF.kept
      have hsx := hs.kept hkx (fun h => h)
      obtain ⟨q, hq⟩ : ∃ q : Nat, q = 40 * h := ⟨_, rfl⟩
      have hh1 := hF.half
      have hqI : (h : Int) * 40 = (q : Int) := by omega
      have hq4 : q < 400 := by omega
      have hqi : (q : Int) < 400 := by omega
      obtain ⟨sec, hsec⟩ : ∃ sec, secs[q]? = some sec := ⟨_, List.getElem?_eq_getElem (by omega)⟩
      have hcs := hsx q sec hsec
      have hs64 := h64 sec (List.mem_of_getElem? hsec)
      have himg : imgOf secs (40 * h) = sec := by unfold imgOf; rw [← hq, hsec]; rfl
      have hR0 := hF.new
      have HQ : Hid (q = 40 * h) := hq
      clear hsec hq
      have hbody : (bodyOf (imgOf secs) h).length ≤ 2496 := by
        rw [bodyOf_length (fun j hj => ?_)]; exact Nat.le_refl _
        unfold imgOf
        rw [List.getElem?_eq_getElem (by omega)]
        exact h64 _ (List.getElem_mem _)
      cases hrd : readHead sec with
      | none =>
        have hno : NoText (imgOf secs) h := noText_head (by rw [himg]; exact hrd)
        have hrh := fun W => (readHead_any ⟨sec.toArray⟩ W (by rw [size_mk]; exact hs64)).mono (R' := fun e x1 => e = .returned (.tuple #[.agg #[.int .u64 0, .int .i64 0, .int .u32 0, .int .i64 0, .int .u32 0], .bool false]) ∧ Kept no W x1) (fun e x1 ⟨he, hk⟩ => ⟨by rw [he]; have : (⟨sec.toArray⟩ : ByteArray).data.toList = sec := rfl; rw [this, hrd]; rfl, hk⟩)
        go_wp2_with fail
        refine (headAt_any (h : Int) _ (by omega) (by omega)).mono ?_
        rintro e x1 ⟨rfl, hw⟩
        rw [hw, hqI]
        clear hw
        go_wp2_with fail
        refine (hrh _).mono ?_
        rintro e x1 ⟨rfl, hk1⟩
        have hhd1 := hk1.get hhd (fun h => h)
        have hres1 := hk1.get hF.res (fun h => h)
        obtain ⟨hcz, hfz⟩ := cells_of hhd1
        obtain ⟨hst, hks⟩ := head_stored (v0 := .int .u64 0) (v1 := .int .i64 0) (v2 := .int .u32 0) (v3 := .int .i64 0) (v4 := .int .u32 0) hhd1
        go_wp2_with fail
        try refine wp_goto ?_
        exact ⟨⟨by decide, _, _, _, _, _, _, _, _, _, _, _, _, _, _, _, _, _, _, _, _, _, _, _, _, _, _, _, _, _, _, _, _, _, _, _, _, _, _, _, _, _, _, _, _, _, _, _, h, rfl, ⟨(hkx.step hk1).step' hks (fun x hx hlt => by omega), hks.get hres1 (fun e => by omega), ⟨_, _, _, _, _, hst⟩, hh1, hla, hR0, fun e => absurd e (by decide), fun _ => ⟨hno, fun _ => (hF.at1 rfl).2⟩⟩⟩, by have := (hF.at1 rfl).1; subst this; simp [findMu, intOf]⟩
      | some hd =>
        have hrh := fun W => (readHead_any ⟨sec.toArray⟩ W (by rw [size_mk]; exact hs64)).mono (R' := fun e x1 => e = .returned (.tuple #[.agg #[.int .u64 (hd.number : Int), .int .i64 hd.text.len, .int .u32 (hd.text.sum : Int), .int .i64 hd.file.len, .int .u32 (hd.file.sum : Int)], .bool true]) ∧ Kept no W x1) (fun e x1 ⟨he, hk⟩ => ⟨by rw [he]; have : (⟨sec.toArray⟩ : ByteArray).data.toList = sec := rfl; rw [this, hrd]; rfl, hk⟩)
        have hrd' : readHead (imgOf secs (40 * h)) = some hd := by rw [himg]; exact hrd
        clear hrd himg
        have HRD : Hid (readHead (imgOf secs (40 * h)) = some hd) := hrd'
        clear hrd'
        obtain ⟨t, ok, hbt⟩ : ∃ t ok, bodyTo (imgOf secs) h hd.text = (t, ok) := ⟨_, _, rfl⟩
        have hrb := fun W (hsW : StrsAt W b o secs) (hbW : b < W.heap.size) => (readBody_any b o cap secs h (h : Int) rfl hd.text W hsW hl h64 hcap hcm hh1 hbW).mono (R' := fun e x1 => e = .returned (.tuple #[sv t, .bool ok]) ∧ Kept no W x1) (fun e x1 ⟨he, hk⟩ => ⟨by rw [he, hbt], hk⟩)
        have htl := bodyTo_length hbt hbody
        have HBT : Hid (bodyTo (imgOf secs) h hd.text = (t, ok)) := hbt
        clear hbt
        go_wp2_with fail
        refine (headAt_any (h : Int) _ (by omega) (by omega)).mono ?_
        rintro e x1 ⟨rfl, hw⟩
        rw [hw, hqI]
        clear hw
        go_wp2_with fail
        refine (hrh _).mono ?_
        rintro e x1 ⟨rfl, hk1⟩
        have hhd1 := hk1.get hhd (fun h => h)
        have hres1 := hk1.get hF.res (fun h => h)
        obtain ⟨hcz, hfz⟩ := cells_of hhd1
        obtain ⟨hst, hks⟩ := head_stored (v0 := .int .u64 (hd.number : Int)) (v1 := .int .i64 hd.text.len) (v2 := .int .u32 (hd.text.sum : Int)) (v3 := .int .i64 hd.file.len) (v4 := .int .u32 (hd.file.sum : Int)) hhd1
        have hkx2 : Kept no w (((((x1.setCell ⟨R + 1, 0, none⟩ (.int .u64 (hd.number : Int))).setCell ⟨R + 1, 1, none⟩ (.int .i64 hd.text.len)).setCell ⟨R + 1, 2, none⟩ (.int .u32 (hd.text.sum : Int))).setCell ⟨R + 1, 3, none⟩ (.int .i64 hd.file.len)).setCell ⟨R + 1, 4, none⟩ (.int .u32 (hd.file.sum : Int))) := (hkx.step hk1).step' hks (fun x hx hlt => by omega)
        have hres2 := hks.get hres1 (fun e => by omega)
        go_wp2_with fail
        clear hcz hfz
        generalize (((((x1.setCell ⟨R + 1, 0, none⟩ (.int .u64 (hd.number : Int))).setCell ⟨R + 1, 1, none⟩ (.int .i64 hd.text.len)).setCell ⟨R + 1, 2, none⟩ (.int .u32 (hd.text.sum : Int))).setCell ⟨R + 1, 3, none⟩ (.int .i64 hd.file.len)).setCell ⟨R + 1, 4, none⟩ (.int .u32 (hd.file.sum : Int))) = x2 at hst hkx2 hres2 ⊢
        refine (hrb x2 (hs.kept hkx2 (fun h => h)) (Nat.lt_of_lt_of_le hbl hkx2.size)).mono ?_
        rintro e x3 ⟨rfl, hk3⟩
        have hst3 := hk3.get hst (fun h => h)
        have hres3 := hk3.get hres2 (fun h => h)
        have hkx3 := hkx2.step hk3
        cases ok with
        | false =>
          have hno : NoText (imgOf secs) h := noText_body HRD.out HBT.out
          go_wp2_with fail
          try refine wp_goto ?_
          exact ⟨⟨by decide, _, _, _, _, _, _, _, _, _, _, _, _, _, _, _, _, _, _, _, _, _, _, _, _, _, _, _, _, _, _, _, _, _, _, _, _, _, _, _, _, _, _, _, _, _, _, _, h, rfl, ⟨hkx3, hres3, ⟨_, _, _, _, _, hst3⟩, hh1, hla, hR0, fun e => absurd e (by decide), fun _ => ⟨hno, fun _ => (hF.at1 rfl).2⟩⟩⟩, by have := (hF.at1 rfl).1; subst this; simp [findMu, intOf]⟩
        | true =>
          by_cases hit : IsText t
          · have hrt : ReadsHalf (imgOf secs) h hd t := reads_of HRD.out HBT.out hit
            go_wp2_with fail
            refine (isText_any t _ (by omega) true (by simp [hit])).mono ?_
            rintro e x4 ⟨rfl, hk4⟩
            have hst4 := hk4.get hst3 (fun h => h)
            have hres4 := hk4.get hres3 (fun h => h)
            have hkx4 := hkx3.step hk4
            obtain ⟨hch, _⟩ := cells_of hst4
            obtain ⟨hcr, hfr⟩ := cells_of hres4
            go_wp2
            obtain ⟨hst5, hks5⟩ := found_stored (v0 := sv t) (v1 := .int .i64 hd.file.len) (v2 := .int .u32 (hd.file.sum : Int)) (v3 := .bool true) (v4 := .bool true) (v5 := .int .i64 (h : Int)) (v6 := .int .u64 (hd.number : Int)) hres4
            obtain ⟨hc5, _⟩ := cells_of hst5
            clear hcr hfr
            refine jumpsTo_ret ?_
            refine bodyPost_ret (v := .tuple #[.agg #[sv t, .int .i64 hd.file.len, .int .u32 (hd.file.sum : Int), .bool true, .bool true, .int .i64 (h : Int), .int .u64 (hd.number : Int)], .bool true]) (by simp [results, Tryz.results78, go_sem, hc5]) rfl ⟨hkx4.step' hks5 (fun x hx hlt => by have := HR.out; omega), .inl ⟨h, hd, t, ⟨hh1, hrt, .inr (by have := (hF.at1 rfl); rw [this.1]; exact this.2)⟩, rfl⟩⟩
          · have hno : NoText (imgOf secs) h := noText_fits HRD.out HBT.out hit
            go_wp2_with fail
            refine (isText_any t _ (by omega) false (by simp [hit])).mono ?_
            rintro e x4 ⟨rfl, hk4⟩
            have hst4 := hk4.get hst3 (fun h => h)
            have hres4 := hk4.get hres3 (fun h => h)
            have hkx4 := hkx3.step hk4
            go_wp2_with fail
            try refine wp_goto ?_
            exact ⟨⟨by decide, _, _, _, _, _, _, _, _, _, _, _, _, _, _, _, _, _, _, _, _, _, _, _, _, _, _, _, _, _, _, _, _, _, _, _, _, _, _, _, _, _, _, _, _, _, _, _, h, rfl, ⟨hkx4, hres4, ⟨_, _, _, _, _, hst4⟩, hh1, hla, hR0, fun e => absurd e (by decide), fun _ => ⟨hno, fun _ => (hF.at1 rfl).2⟩⟩⟩, by have := (hF.at1 rfl).1; subst this; simp [findMu, intOf]⟩

    · obtain rfl : l = 0 := by omega
      refine ⟨_, rfl, ?_⟩
      obtain ⟨hno, hno2⟩ := hF.at0 (by decide)
      obtain ⟨hcr, hfr⟩ := cells_of hF.res
      by_cases heq : h = la
      · have hb : ((h : Int) == (la : Int)) = true := by rw [beq_iff_eq]; omega
        go_wp2_with fail
        obtain ⟨hst5, hks5⟩ := found_stored (v0 := .string ⟨#[]⟩) (v1 := .int .i64 0) (v2 := .int .u32 0) (v3 := .bool false) (v4 := .bool false) (v5 := .int .i64 0) (v6 := .int .u64 0) hF.res
        obtain ⟨hc5, _⟩ := cells_of hst5
        clear hcr hfr
        refine jumpsTo_ret ?_
        refine bodyPost_ret (v := .tuple #[.agg #[.string ⟨#[]⟩, .int .i64 0, .int .u32 0, .bool false, .bool false, .int .i64 0, .int .u64 0], .bool false]) (by simp [results, Tryz.results78, go_sem, hc5]) rfl ⟨hF.kept.step' hks5 (fun x hx hlt => by have := HR.out; omega), .inr ⟨fun k hk => (show k = h ∨ k = 1 - la by omega).elim (fun e => by rw [e]; exact hno) (fun e => by rw [e]; exact hno2 heq), rfl⟩⟩
      · have hb : ((h : Int) == (la : Int)) = false := by rw [beq_eq_false_iff_ne]; omega
        go_wp2_with fail
        refine wp_goto ?_
        refine ⟨⟨by decide, _, _, _, _, _, _, _, _, _, _, _, _, _, _, _, _, _, _, _, _, _, _, _, _, _, _, _, _, _, _, _, _, _, _, _, _, _, _, _, _, _, _, _, _, _, _, _, la, rfl, ⟨hF.kept, hF.res, hF.head, hla, hla, hF.new, fun _ => ⟨rfl, ?_⟩, fun e => absurd rfl e⟩⟩, by simp only [findMu]; rw [if_pos trivial, if_neg (by decide), if_neg (by simp [intOf]; omega)]; decide⟩
        have := hF.half
        rw [show 1 - la = h by omega]
        exact hno
end Go.Proofs.YtdpfohgkikjeaaaGreat
/- isSwap, readBack, Recover. -/
namespace Go.Proofs.YtdpfohgkikjeaaaGreat
open Go.RowKit
set_option linter.unusedVariables false
set_option linter.unusedSimpArgs false

set_option maxHeartbeats 1000000 in
set_option maxRecDepth 100000 in
theorem isSwap_any {w : World} {v : Value} {secs : List Str} (hr : Row w 9 1 v secs.length (secs.map sv)) (t : Bool) (ht : t = true ↔ (secs.length = 400 ∧ ∀ s ∈ secs, s.length = 64)) :
    Calls Tryz.prog 47 #[v] w fun e w' => e = .returned (.bool t) ∧ w' = w := by
  obtain ⟨pv, cv, rfl⟩ := hr.slice
  obtain ⟨n, hn⟩ : ∃ n, n = secs.length := ⟨_, rfl⟩
  have HT : Hid (t = true ↔ (secs.length = 400 ∧ ∀ s ∈ secs, s.length = 64)) := ht
  clear ht
  rw [← hn] at hr ⊢
  have HN : Hid (n = secs.length) := hn
  clear hn
  by_cases h400 : n = 400
  · subst h400
    go_enter Tryz.func47, Tryz.ntmps47
    go_wp2
    go_loopw [10] (fun i wr => ∃ j : Nat, j ≤ 400 ∧ i = .int .i64 ((j : Nat) : Int) ∧ (∀ s ∈ secs.take j, s.length = 64) ∧ wr = w) (fun i _ => 400 - (intOf i).toNat)
    case atStart => exact ⟨0, Nat.zero_le _, rfl, by simp, rfl⟩
    case round =>
      obtain ⟨j, hj, rfl, hall, rfl⟩ := hrel
      by_cases hlt : j < 400
      · rcases hr.shape with ⟨_, h1, _⟩ | ⟨g, c', hv, _, _⟩
        · omega
        simp only [Value.slice.injEq, true_and] at hv
        obtain ⟨rfl, rfl⟩ := hv
        obtain ⟨_, _, _, hcell⟩ := hr.cell
        have hlt' : j < secs.length := by have := HN.out; omega
        have hcj := hcell j (sv secs[j]) (by simp [hlt'])
        clear hcell
        have htk : Hid (secs.take (j + 1) = secs.take j ++ [secs[j]]) := List.take_succ_eq_append_getElem hlt'
        have hmem : secs[j] ∈ secs := List.getElem_mem hlt'
        generalize secs[j] = x at hcj htk hmem
        by_cases h64 : x.length = 64
        · have hb : ((x.length : Int) != 64) = false := by simp; omega
          go_wp2
          go_roundw
          case rel =>
            refine ⟨j + 1, hlt, by go_num, ?_, trivial⟩
            rw [htk.out]
            intro s hs
            rcases List.mem_append.1 hs with hs | hs
            · exact hall s hs
            · rw [List.mem_singleton.1 hs]; exact h64
          case measure => simp [intOf]; omega
        · have hb : ((x.length : Int) != 64) = true := by simp; omega
          go_wp2
          have : t = false := by
            cases t with
            | false => rfl
            | true => exact absurd ((HT.out.1 rfl).2 x hmem) h64
          subst this
          go_ret
          exact ⟨rfl, rfl⟩
      · obtain rfl : j = 400 := by omega
        have : t = true := HT.out.2 ⟨HN.out.symm, by rw [List.take_of_length_le (by have := HN.out; omega)] at hall; exact hall⟩
        subst this
        go_wp2
        go_ret
        exact ⟨rfl, rfl⟩
  · have : t = false := by
      cases t with
      | false => rfl
      | true => exact absurd (HN.out.trans (HT.out.1 rfl).1) h400
    subst this
    have hb : ((n : Int) != 400) = true := by simp; omega
    go_enter Tryz.func47, Tryz.ntmps47
    go_wp2
    go_ret
    exact ⟨rfl, rfl⟩
end Go.Proofs.YtdpfohgkikjeaaaGreat
/- readBack. -/
namespace Go.Proofs.YtdpfohgkikjeaaaGreat
open Go.RowKit
set_option linter.unusedVariables false
set_option linter.unusedSimpArgs false

theorem mark_ext {a b : Mark} (h1 : a.len = b.len) (h2 : a.sum = b.sum) : a = b := by
  cases a; cases b
  cases h1; cases h2; rfl

/-- A document as it is read back. -/
def DocS.readBack (ls : List Str) (file : Str) (every h num : Nat) : DocS := { DocS.fresh ls file every with wr := ⟨true, true, h, num⟩ }

set_option maxHeartbeats 2000000 in
set_option maxRecDepth 100000 in
theorem readBack_some (b o cap : Nat) (secs : List Str) (w : World) (hs : StrsAt w b o secs) (hl : secs.length = 400) (h64 : ∀ s ∈ secs, s.length = 64) (hcap : 400 ≤ cap) (hcm : cap ≤ 9223372036854775807) (hbl : b < w.heap.size)
    (h : Nat) (hd : Head) (ls : List Str) (hok : TextOk ls) (hF : Finds (imgOf secs) h hd (textOf ls)) (file : Str) (hfl : file.length ≤ 1099511627776) (every : Nat) (evI : Int) (hev : evI = (every : Int)) (he1 : 1 ≤ every) (he2 : every ≤ 20) (hnum : hd.number < 18446744073709551616) (same : Bool) (hsame : same = true ↔ markOf file = hd.file) :
    Calls Tryz.prog 48 #[.slice (some ⟨b, o, none⟩) 400 cap, .string ⟨file.toArray⟩, .int .i64 evI] w fun e w' => ∃ B fp, e = .returned (.tuple #[.pointer (some ⟨B, 0, none⟩), .bool same, .int .i64 0]) ∧ DocR w' B (DocS.readBack ls file every h hd.number) fp ∧ (∀ x ∈ fp, w.heap.size ≤ x) ∧ Kept no w w' := by
  have hfind := (find_swap b o cap secs w hs hl h64 hcap hcm hbl).mono (R' := fun e w' => e = .returned (.tuple #[.agg #[sv (textOf ls), .int .i64 hd.file.len, .int .u32 (hd.file.sum : Int), .bool true, .bool true, .int .i64 (h : Int), .int .u64 (hd.number : Int)], .bool true]) ∧ Kept no w w') (fun e w' ⟨hk, hh⟩ => by
    rcases hh with ⟨h', hd', t', hF', he⟩ | ⟨hno, _⟩
    · obtain ⟨rfl, rfl, rfl⟩ := hF.unique hF'
      exact ⟨he, hk⟩
    · exact absurd hF.reads (hno h hF.half hd _))
  have hlen := hok.length
  have hcut : ∀ W : World, _ := fun W => (cut_any (textOf ls) W (by omega)).mono (R' := fun e w' => ∃ v, e = .returned (.tuple #[v, .bool true]) ∧ Row w' 9 1 v ls.length (ls.map sv) ∧ Kept no W w') (fun e w' ⟨hh, hk⟩ => by
    rcases hh with ⟨ls', v, hok', hls, he, hr, _⟩ | ⟨hno, _⟩
    · have e1 : ls' = ls := textOf_inj (fun l hl => (hok'.lines l hl).2) (fun l hl => (hok.lines l hl).2) hls
      subst e1
      exact ⟨v, he, hr, hk⟩
    · exact absurd ⟨ls, hok, rfl⟩ hno)
  have hh1 := hF.half
  clear hF
  generalize textOf ls = t at hfind hcut hlen
  go_enter Tryz.func48, Tryz.ntmps48
  go_wp2_with fail
  refine hfind.mono ?_
  rintro e w1 ⟨rfl, hk1⟩
  go_wp2_with fail
  obtain ⟨hn2, hsz2, hk2⟩ := new1 w1 (Obj.cells #[.string ⟨t.toArray⟩, .int .i64 hd.file.len, .int .u32 (hd.file.sum : Int), .bool true, .bool true, .int .i64 (h : Int), .int .u64 (hd.number : Int)] 136)
  have hs1 := hk1.size
  generalize w1.alloc (Obj.cells #[.string ⟨t.toArray⟩, .int .i64 hd.file.len, .int .u32 (hd.file.sum : Int), .bool true, .bool true, .int .i64 (h : Int), .int .u64 (hd.number : Int)] 136) = w2 at hn2 hsz2 hk2 ⊢
  obtain ⟨R, hR⟩ : ∃ R, R = w1.heap.size := ⟨_, rfl⟩
  rw [← hR] at hn2 hsz2 ⊢
  have HR : Hid (R = w1.heap.size) := hR
  clear hR
  have hk02 : Kept no w w2 := hk1.step hk2
  refine (hcut w2).mono ?_
  rintro e w3 ⟨v, rfl, hr, hk3⟩
  have hn3 := hk3.get hn2 (fun h => h)
  have hs3 := hk3.size
  go_wp2_with fail
  refine (newDoc_any hr hok file hfl every _ rfl).mono ?_
  rintro e w4 ⟨B, fp, rfl, hT, hfp, hk4⟩
  have hn4 := hk4.get hn3 (fun h => h)
  obtain ⟨hc4, hf4⟩ := cells_of hn4
  have hRB : R ≠ B := fun e => by have := hfp B hT.mem; have := HR.out; omega
  obtain ⟨vi, vk, hB⟩ := hT.count
  obtain ⟨hcB, hfB⟩ := cells_of hB
  go_wp2_with fail
  have hst : ∀ vi vk cnt, w4.heap[B]? = some (.cells (vi :: vk :: cnt :: docRest (DocS.fresh ls file every) (.slice none 0 0)).toArray docT (0, 0)) → ((((w4.setCell ⟨B, 8, none⟩ (.bool true)).setCell ⟨B, 9, none⟩ (.bool true)).setCell ⟨B, 10, none⟩ (.int .i64 (h : Int))).setCell ⟨B, 11, none⟩ (.int .u64 (hd.number : Int))).heap[B]? = some (.cells (vi :: vk :: cnt :: docRest (DocS.readBack ls file every h hd.number) (.slice none 0 0)).toArray docT (0, 0)) := fun vi vk cnt hh => by
    rw [heap_set_same (heap_set_same (heap_set_same (heap_set_same hh)))]
    simp [DocS.readBack, DocS.fresh]
  have hks5 : Kept (fun x => x = B) w4 ((((w4.setCell ⟨B, 8, none⟩ (.bool true)).setCell ⟨B, 9, none⟩ (.bool true)).setCell ⟨B, 10, none⟩ (.int .i64 (h : Int))).setCell ⟨B, 11, none⟩ (.int .u64 (hd.number : Int))) := ((Kept.cell1.step Kept.cell1).step Kept.cell1).step Kept.cell1
  have hT5 := hT.store (rest' := docRest (DocS.readBack ls file every h hd.number) (.slice none 0 0)) hks5 hst
  have hB5 := hst _ _ _ hB
  have hR5 := hks5.get hn4 (fun e => hRB e)
  clear hst hc4 hf4 hcB hfB
  generalize ((((w4.setCell ⟨B, 8, none⟩ (.bool true)).setCell ⟨B, 9, none⟩ (.bool true)).setCell ⟨B, 10, none⟩ (.int .i64 (h : Int))).setCell ⟨B, 11, none⟩ (.int .u64 (hd.number : Int))) = w5 at hks5 hT5 hB5 hR5 ⊢
  refine wp_region3 (fun W => W.heap[B]? = some (.cells (vi :: vk :: .int .i64 (ls.length : Int) :: docRest (DocS.readBack ls file every h hd.number) (.slice none 0 0)).toArray docT (0, 0)) ∧ W.heap[R]? = some (.cells #[.string ⟨t.toArray⟩, .int .i64 hd.file.len, .int .u32 (hd.file.sum : Int), .bool true, .bool true, .int .i64 (h : Int), .int .u64 (hd.number : Int)] 136 (0, 0))) [(0, true), (1, true), (2, true), (3, true), (4, false), (5, true), (6, false), (7, true)] [8, 9, 10] (by kernel_rfl) (by kernel_rfl) (fun _ _ d _ _ h => by cases d <;> exact h) ⟨hB5, hR5⟩ ?_
  repeat ((first | refine wpPre3_pure rfl rfl (fun W => (by go_simp; rfl)) ?_ | refine wpPre3_read rfl rfl (fun W hW => (by obtain ⟨hc, _⟩ := cells_of hW.1; obtain ⟨hc2, _⟩ := cells_of hW.2; go_simp; rfl)) ?_); simp only [Act.put, List.setIfInBounds_toArray, List.set])
  refine wpPre3_pure rfl rfl (v := .bool same) (fun W => ?_) ?_
  · go_simp
    rw [show (DocS.readBack ls file every h hd.number).file = markOf file from rfl]
    cases same with
    | true => rw [hsame.1 rfl]; simp
    | false =>
      by_cases e1 : (markOf file).len = hd.file.len
      · by_cases e2 : ((markOf file).sum : Int) = (hd.file.sum : Int)
        · exact absurd (hsame.2 (mark_ext e1 (by omega))) (by decide)
        · rw [if_pos e1, if_neg e2]
      · rw [if_neg e1]
  simp only [Act.put, List.setIfInBounds_toArray, List.set]
  refine wpPre3_nil ?_
  refine wpTail3_cons rfl rfl (fun K hK => ?_)
  go_wp2_with fail
  try refine ⟨fun h => h, ?_⟩
  refine wpTail3_cons rfl rfl (fun K hK => ?_)
  go_wp2_with fail
  try refine ⟨fun h => h, ?_⟩
  refine wpTail3_cons rfl rfl (fun K hK => ?_)
  go_wp2_with fail
  try refine ⟨fun h => h, ?_⟩
  refine wpTail3_nil ?_
  go_wp2
  have hbase : (DocS.readBack ls file every h hd.number).Base := ⟨hok, he1, he2, hh1, hnum, crc_lt _, by simp only [DocS.readBack, DocS.fresh, markOf]; omega, by simp only [DocS.readBack, DocS.fresh, markOf]; omega⟩
  have hkw : Kept no w w5.drew := (((hk02.step hk3).step hk4).step' hks5 (fun x hx hlt => by have := hfp x (hx ▸ hT.mem); have := hk02.size; omega)).drew
  refine bodyPost_ret (v := .tuple #[.pointer (some ⟨B, 0, none⟩), .bool same, .int .i64 0]) (by simp [results, Tryz.results48, go_sem]) rfl ⟨B, fp, rfl, ⟨.slice none 0 0, fp, [], ⟨hT5.kept (S := no) ((Kept.refl _ _).drew) (fun _ _ h => h), .inl ⟨rfl, rfl, rfl⟩, by simp, ⟨hbase, by show 0 < every; omega, by show 0 ≤ 2; omega, by simp [DocS.readBack, DocS.fresh]⟩⟩, by simp⟩, fun x hx => ?_, hkw⟩
  have := hfp x hx
  have := hk02.size
  omega
end Go.Proofs.YtdpfohgkikjeaaaGreat
/- readBack of nothing; Recover. -/
namespace Go.Proofs.YtdpfohgkikjeaaaGreat
open Go.RowKit
set_option linter.unusedVariables false
set_option linter.unusedSimpArgs false

theorem readHead_num {s : Str} {hd : Head} (h : readHead s = some hd) : hd.number < 18446744073709551616 := by
  unfold readHead at h
  split at h
  · cases h
    have h2 := unle_lt' (l := (s.drop 8).take 8) (n := 8) (by rw [List.length_take]; omega)
    exact Nat.lt_of_lt_of_le h2 (by decide)
  · cases h

set_option maxHeartbeats 1000000 in
set_option maxRecDepth 100000 in
theorem readBack_none (b o cap : Nat) (secs : List Str) (w : World) (hs : StrsAt w b o secs) (hl : secs.length = 400) (h64 : ∀ s ∈ secs, s.length = 64) (hcap : 400 ≤ cap) (hcm : cap ≤ 9223372036854775807) (hbl : b < w.heap.size)
    (hno : ∀ h hd t, ¬ Finds (imgOf secs) h hd t) (file : Str) (evI : Int) :
    Calls Tryz.prog 48 #[.slice (some ⟨b, o, none⟩) 400 cap, .string ⟨file.toArray⟩, .int .i64 evI] w fun e w' => e = .returned (.tuple #[.pointer none, .bool false, .int .i64 7]) ∧ Kept no w w' := by
  have hfind := (find_swap b o cap secs w hs hl h64 hcap hcm hbl).mono (R' := fun e w' => e = .returned (.tuple #[.agg #[.string ⟨#[]⟩, .int .i64 0, .int .u32 0, .bool false, .bool false, .int .i64 0, .int .u64 0], .bool false]) ∧ Kept no w w') (fun e w' ⟨hk, hh⟩ => by
    rcases hh with ⟨h', hd', t', hF', he⟩ | ⟨_, he⟩
    · exact absurd hF' (hno _ _ _)
    · exact ⟨he, hk⟩)
  go_enter Tryz.func48, Tryz.ntmps48
  go_wp2_with fail
  refine hfind.mono ?_
  rintro e w1 ⟨rfl, hk1⟩
  go_wp2
  refine bodyPost_ret (v := .tuple #[.pointer none, .bool false, .int .i64 7]) (by simp [results, Tryz.results48, go_sem]) rfl ⟨rfl, hk1.alloc _⟩

/-- What Recover answers. -/
theorem recover_arg (v : Value) (secs : List Str) (file : Str) (n : Int) (w : World) (hr : Row w 9 1 v secs.length (secs.map sv)) (h : n < 1 ∨ 20 < n ∨ ¬ (secs.length = 400 ∧ ∀ s ∈ secs, s.length = 64)) :
    Calls Tryz.prog 20 #[v, .string ⟨file.toArray⟩, .int .i64 n] w fun e w' => e = .returned (.tuple #[.pointer none, .bool false, .int .i64 1]) ∧ w' = w := by
  by_cases h1 : n < 1
  · have hd : decide (n < 1) = true := by simpa using h1
    clear h
    go_enter Tryz.func20, Tryz.ntmps20
    go_wp2
    refine bodyPost_ret (v := .tuple #[.pointer none, .bool false, .int .i64 1]) (by simp [results, Tryz.results20, go_sem]) rfl ⟨rfl, rfl⟩
  · have hd : decide (n < 1) = false := by simpa using h1
    by_cases h2 : 20 < n
    · have hd2 : decide (20 < n) = true := by simpa using h2
      clear h
      go_enter Tryz.func20, Tryz.ntmps20
      go_wp2
      refine bodyPost_ret (v := .tuple #[.pointer none, .bool false, .int .i64 1]) (by simp [results, Tryz.results20, go_sem]) rfl ⟨rfl, rfl⟩
    · have hd2 : decide (20 < n) = false := by simpa using h2
      have hsw := isSwap_any hr false (by simp only [Bool.false_eq_true, false_iff]; rcases h with h | h | h; exact absurd h h1; exact absurd h h2; exact h)
      clear h
      go_enter Tryz.func20, Tryz.ntmps20
      go_wp2_with fail
      refine hsw.mono ?_
      rintro e w1 ⟨rfl, hw⟩
      rw [hw]
      clear hw
      go_wp2
      refine bodyPost_ret (v := .tuple #[.pointer none, .bool false, .int .i64 1]) (by simp [results, Tryz.results20, go_sem]) rfl ⟨rfl, rfl⟩

set_option maxHeartbeats 1000000 in
theorem recover_any (b o cap : Nat) (secs : List Str) (w : World) (hr : Row w 9 1 (.slice (some ⟨b, o, none⟩) 400 cap) secs.length (secs.map sv)) (hl : secs.length = 400) (h64 : ∀ s ∈ secs, s.length = 64) (file : Str) (n : Int) (h1 : 1 ≤ n) (h2 : n ≤ 20)
    (R : Ending → World → Prop) (hb : Calls Tryz.prog 48 #[.slice (some ⟨b, o, none⟩) 400 cap, .string ⟨file.toArray⟩, .int .i64 n] w fun e w' => ∃ v0 v1 v2, e = .returned (.tuple #[v0, v1, v2]) ∧ R e w') :
    Calls Tryz.prog 20 #[.slice (some ⟨b, o, none⟩) 400 cap, .string ⟨file.toArray⟩, .int .i64 n] w R := by
  have hd : decide (n < 1) = false := by simp; omega
  have hd2 : decide (20 < n) = false := by simp; omega
  have hsw := isSwap_any hr true (by simp only [true_iff]; exact ⟨hl, h64⟩)
  go_enter Tryz.func20, Tryz.ntmps20
  go_wp2_with fail
  refine hsw.mono ?_
  rintro e w1 ⟨rfl, hw⟩
  rw [hw]
  clear hw
  go_wp2_with fail
  refine hb.mono ?_
  rintro e w1 ⟨v0, v1, v2, rfl, hR⟩
  go_wp2
  exact bodyPost_ret (v := .tuple #[v0, v1, v2]) (by simp [results, Tryz.results20, go_sem]) rfl hR
end Go.Proofs.YtdpfohgkikjeaaaGreat
/- A disk in memory; Of. -/
namespace Go.Proofs.YtdpfohgkikjeaaaGreat
open Go.RowKit
set_option linter.unusedVariables false
set_option linter.unusedSimpArgs false

abbrev diskT : TypeId := 52
abbrev rowT : TypeId := 34
theorem tyRow : SliceTy Tryz.prog 50 34 1 24 := SliceTy.mk' (z := .slice none 0 0) (by kernel_rfl) (by kernel_rfl) rfl (by decide)

/-- A sector: all that it may be, in a row that is only read. -/
def SecAt (w : World) (v : Value) (l : List Str) (bl : List Nat) : Prop := ∃ g o c, v = .slice (some ⟨g, o, none⟩) l.length c ∧ g ∈ bl ∧ l.length ≤ c ∧ c ≤ maxLen ∧ StrsAt w g o l

theorem SecAt.kept {S : Blocks} {w w' : World} {v l bl} (h : SecAt w v l bl) (k : Kept S w w') (hl : ∀ x ∈ bl, x < w.heap.size) (hn : ∀ x ∈ bl, ¬ S x) : SecAt w' v l bl := by
  obtain ⟨g, o, c, hv, hg, h1, h2, hc⟩ := h
  refine ⟨g, o, c, hv, hg, h1, h2, fun j s hs => ?_⟩
  rw [World.cell?_of_block (w := w) (k.block g (hl g hg) (hn g hg))]
  exact hc j s hs

theorem SecAt.mono {w : World} {v l bl bl'} (h : SecAt w v l bl) (hs : ∀ x ∈ bl, x ∈ bl') : SecAt w v l bl' := by
  obtain ⟨g, o, c, hv, hg, hr⟩ := h
  exact ⟨g, o, c, hv, hs g hg, hr⟩

abbrev diskCells (d : DiskS) (vs : Value) : Array Value := #[vs, sv d.file, sv d.before, .bool d.renamed, .int .i64 (d.safe : Int), sv d.new, .int .i64 (d.newSafe : Int)]

structure DiskAt (w : World) (b : Nat) (d : DiskS) (vs : Value) (vals : List Value) (bl : List Nat) : Prop where
  cells : w.heap[b]? = some (.cells (diskCells d vs) diskT (0, 0))
  row : Row w rowT 1 vs vals.length vals
  len : vals.length = d.sw.length
  secs : ∀ (i : Nat) (v : Value) (l : List Str), vals[i]? = some v → d.sw[i]? = some l → SecAt w v l bl
  low : ∀ x ∈ bl, x < w.heap.size
  b_vs : b ∉ fpv vs
  b_bl : b ∉ bl
  vs_bl : ∀ x ∈ fpv vs, x ∉ bl

/-- The disk d lies at b; its blocks are fp. -/
def DiskR (w : World) (b : Nat) (d : DiskS) (fp : List Nat) : Prop := ∃ vs vals bl, DiskAt w b d vs vals bl ∧ fp = b :: (fpv vs ++ bl)

theorem DiskAt.kept {S : Blocks} {w w' : World} {b d vs vals bl} (h : DiskAt w b d vs vals bl) (k : Kept S w w') (hn : ∀ x ∈ b :: (fpv vs ++ bl), ¬ S x) : DiskAt w' b d vs vals bl := by
  have hb : ∀ x ∈ bl, ¬ S x := fun x hx => hn x (by simp [hx])
  exact ⟨k.get h.cells (hn b (by simp)), h.row.kept k (fun x hx => hn x (by simp [hx])), h.len, fun i v l hv hl => (h.secs i v l hv hl).kept k h.low hb, fun x hx => Nat.lt_of_lt_of_le (h.low x hx) k.size, h.b_vs, h.b_bl, h.vs_bl⟩

theorem DiskR.kept {S : Blocks} {w w' : World} {b d fp} (h : DiskR w b d fp) (k : Kept S w w') (hn : ∀ x ∈ fp, ¬ S x) : DiskR w' b d fp := by
  obtain ⟨vs, vals, bl, h, rfl⟩ := h
  exact ⟨vs, vals, bl, h.kept k hn, rfl⟩

theorem DiskR.lt {w : World} {b d fp} (h : DiskR w b d fp) : ∀ x ∈ fp, x < w.heap.size := fun x hx => by
  obtain ⟨vs, vals, bl, h, rfl⟩ := h
  simp only [List.mem_cons, List.mem_append] at hx
  rcases hx with rfl | hx | hx
  · exact lt_of_heap h.cells
  · exact h.row.lt x hx
  · exact h.low x hx

theorem DiskR.mem {w : World} {b d fp} (h : DiskR w b d fp) : b ∈ fp := by
  obtain ⟨vs, vals, bl, h, rfl⟩ := h
  simp

/-- What a call leaves of a disk. -/
structure DiskTo (w w' : World) (b : Nat) (fp : List Nat) (d' : DiskS) : Prop where
  ex : ∃ fp', DiskR w' b d' fp' ∧ ∀ x ∈ fp', x ∈ fp ∨ w.heap.size ≤ x
  kept : Kept (fun x => x ∈ fp) w w'

theorem strs_one {w : World} {g : Nat} {s : Str} {T : TypeId} {f : Nat × Nat} (h : w.heap[g]? = some (.cells #[sv s] T f)) : StrsAt w g 0 [s] := fun j x hx => by
  rw [cells_of' h]
  match j, hx with
  | 0, hx => simp at hx; subst hx; rfl

/-- One sector more. -/
theorem DiskAt.push {w w1 w2 : World} {b : Nat} {d d' : DiskS} {vs vs' : Value} {vals : List Value} {bl : List Nat} {g : Nat} {s : Str} (h : DiskAt w b d vs vals bl)
    (hg : w1.heap[g]? = some (.cells #[sv s] 9 (0, 0))) (hgn : w.heap.size ≤ g) (hk1 : Kept no w w1)
    (hr : Row w2 rowT 1 vs' (vals.length + 1) (vals ++ [.slice (some ⟨g, 0, none⟩) 1 1])) (hG : Grew w1 w2 vs vs')
    (hsw : d'.sw = d.sw ++ [[s]]) (he : d' = { d with sw := d'.sw }) : DiskAt (w2.setCell ⟨b, 0, none⟩ vs') b d' vs' (vals ++ [.slice (some ⟨g, 0, none⟩) 1 1]) (g :: bl) := by
  have hs1 := hk1.size
  have hs2 := hG.1.size
  have hbl : b < w.heap.size := lt_of_heap h.cells
  have hvl := h.row.lt
  have hbvs' : b ∉ fpv vs' := fun hx => by
    rcases hG.2 b hx with hx | hx
    · exact h.b_vs hx
    · omega
  have hg1 : g < w1.heap.size := lt_of_heap hg
  have hgv : g ∉ fpv vs := fun hx => by have := hvl g hx; omega
  have hgb : g ≠ b := by omega
  have hg2 := hG.1.get hg hgv
  have hc2 : w2.heap[b]? = some (.cells (diskCells d vs) diskT (0, 0)) := hG.1.get (hk1.get h.cells (fun h => h)) h.b_vs
  have hset := heap_set_same (o := 0) (v := vs') hc2
  have hk : Kept (fun x => x = b) w2 (w2.setCell ⟨b, 0, none⟩ vs') := Kept.cell1
  have hg3 := hk.get hg2 hgb
  have hlow : ∀ x ∈ bl, x < w1.heap.size := fun x hx => by have := h.low x hx; omega
  refine ⟨?_, ?_, ?_, ?_, ?_, hbvs', ?_, ?_⟩
  · rw [hset, he]; simp [diskCells]
  · have e : (vals ++ [Value.slice (some ⟨g, 0, none⟩) 1 1]).length = vals.length + 1 := by simp
    rw [e]
    exact hr.kept hk (fun x hx e => hbvs' (e ▸ hx))
  · rw [hsw]; simp [h.len]
  · intro i v l hv hl
    rw [hsw] at hl
    have hlen := h.len
    by_cases hi : i < vals.length
    · rw [List.getElem?_append_left hi] at hv
      rw [List.getElem?_append_left (by omega)] at hl
      have h1 := (h.secs i v l hv hl).kept hk1 h.low (fun _ _ h => h)
      have h2 := h1.kept hG.1 hlow (fun x hx hx2 => h.vs_bl x hx2 hx)
      have h3 := h2.kept hk (fun x hx => by have := hlow x hx; omega) (fun x hx e => h.b_bl (e ▸ hx))
      exact h3.mono (fun x hx => List.mem_cons_of_mem _ hx)
    · have hi' : i = vals.length := by
        have := (List.getElem?_eq_some_iff.1 hv).1
        simp at this; omega
      subst hi'
      rw [List.getElem?_append_right (Nat.le_refl _)] at hv
      rw [List.getElem?_append_right (by omega)] at hl
      simp [hlen] at hv hl
      subst hv; subst hl
      exact ⟨g, 0, 1, rfl, by simp, Nat.le_refl _, by simp [maxLen], strs_one hg3⟩
  · intro x hx
    have := hk.size
    rcases List.mem_cons.1 hx with rfl | hx
    · omega
    · have := hlow x hx; omega
  · intro hx
    rcases List.mem_cons.1 hx with hx | hx
    · exact hgb hx.symm
    · exact h.b_bl hx
  · intro x hx hx2
    rcases List.mem_cons.1 hx2 with rfl | hx2
    · rcases hG.2 x hx with hx | hx
      · exact hgv hx
      · omega
    · rcases hG.2 x hx with hx | hx
      · exact h.vs_bl x hx hx2
      · have := hlow x hx2; omega
end Go.Proofs.YtdpfohgkikjeaaaGreat
/- Of, Fresh. -/
namespace Go.Proofs.YtdpfohgkikjeaaaGreat
open Go.RowKit
set_option linter.unusedVariables false
set_option linter.unusedSimpArgs false

theorem of_take (secs : List Str) (file : Str) {k : Nat} (h : k < secs.length) : (DiskS.of (secs.take (k + 1)) file).sw = (DiskS.of (secs.take k) file).sw ++ [[secs[k]]] := by
  show (secs.take (k + 1)).map _ = (secs.take k).map _ ++ _
  rw [List.take_succ_eq_append_getElem h, List.map_append]; rfl

set_option maxRecDepth 100000 in
set_option maxHeartbeats 1000000 in
theorem of_any {w : World} {v : Value} {secs : List Str} (hr : Row w 9 1 v secs.length (secs.map sv)) (hl : secs.length = 400) (file : Str) :
    Calls Tryz.prog 30 #[v, sv file] w fun e w' => ∃ b fp, e = .returned (.pointer (some ⟨b, 0, none⟩)) ∧ DiskR w' b (DiskS.of secs file) fp ∧ (∀ x ∈ fp, w.heap.size ≤ x) ∧ Kept no w w' := by
  obtain ⟨g, c, rfl, hc1, hcell⟩ : ∃ g c, v = .slice (some ⟨g, 0, none⟩) 400 c ∧ g < w.heap.size ∧ ∀ k (h : k < secs.length), w.cell? ⟨g, k, none⟩ = some (sv secs[k]) := by
    have hlt := hr.lt
    rcases hr.shape with ⟨_, h1, _⟩ | ⟨g, c, hv, _, _⟩
    · omega
    · subst hv
      have hh := hr.cell
      refine ⟨g, c, by rw [hl], hlt g (by simp [fpv_some]), fun k h => ?_⟩
      exact hh.2.2.2 k (sv secs[k]) (by simp [h])
  clear hr
  go_enter Tryz.func30, Tryz.ntmps30
  go_wp2_with fail
  obtain ⟨hn1, hsz1, hk1⟩ := new1 w (Obj.cells #[.slice none 0 0, .string ⟨file.toArray⟩, .string ⟨#[]⟩, .bool false, .int .i64 0, .string ⟨#[]⟩, .int .i64 0] 52)
  generalize hB : w.heap.size = B at hn1 hsz1 ⊢
  generalize w.alloc (Obj.cells #[.slice none 0 0, .string ⟨file.toArray⟩, .string ⟨#[]⟩, .bool false, .int .i64 0, .string ⟨#[]⟩, .int .i64 0] 52) = w1 at hn1 hsz1 hk1 ⊢
  have hd0 : DiskAt w1 B (DiskS.of (secs.take 0) file) (.slice none 0 0) [] [] := ⟨by rw [hn1]; rfl, ⟨rfl, .inl ⟨rfl, rfl⟩⟩, by simp [DiskS.of], by simp, by simp, by simp [fpv_nil], by simp, by simp⟩
  go_loopw [6, 7] (fun s6 s7 wr => ∃ (k : Nat) (vs : Value) (vals : List Value) (bl : List Nat), k ≤ 400 ∧ s6 = .int .i64 ((k : Nat) : Int) ∧ DiskAt wr B (DiskS.of (secs.take k) file) vs vals bl ∧ (∀ x ∈ fpv vs ++ bl, B ≤ x) ∧ Kept no w wr) (fun s6 _ _ => 400 - (intOf s6).toNat)
  case atStart => exact ⟨0, _, _, _, by omega, rfl, hd0, by simp [fpv_nil], hk1⟩
  case round =>
    obtain ⟨k, vs, vals, bl, hk, rfl, hd, hge, hkw⟩ := hrel
    by_cases hlt : k < 400
    · have hk2 : k < secs.length := by omega
      have hcl := hcell k hk2
      rw [← World.cell?_of_block (w' := wr) (a := ⟨g, k, none⟩) (hkw.block g (by omega) (fun h => h))] at hcl
      have hot := of_take secs file hk2
      have HOT : Hid ((DiskS.of (secs.take (k + 1)) file).sw = (DiskS.of (secs.take k) file).sw ++ [[secs[k]]]) := hot
      clear hot hcell
      generalize secs[k] = s at hcl HOT
      go_wp2_with fail
      refine (nought_any wr).mono ?_
      rintro e w2 ⟨rfl, hk2w⟩
      have hd2 := hd.kept hk2w (fun _ _ h => h)
      have hcl2 : w2.cell? ⟨g, k, none⟩ = some (sv s) := by
        rw [World.cell?_of_block (w := wr) (hk2w.block g (by have := hkw.size; omega) (fun h => h))]; exact hcl
      obtain ⟨hcB, hfB⟩ := cells_of hd2.cells
      have hsz2 := hk2w.size
      have hvl : vals.length ≤ 400 := by rw [hd2.len]; simp [DiskS.of]; omega
      have hrow2 := hd2.row
      generalize hn : vals.length = n at hrow2 hvl
      go_wp2_with (at_builtin; apply hold)
      delta Hid
      obtain ⟨hg1, hz1, hkk1⟩ := new1 w2 (Obj.cells #[sv s] 9)
      generalize hG : w2.heap.size = G at hg1 hz1 ⊢
      generalize w2.alloc (Obj.cells #[sv s] 9) = w3 at hg1 hz1 hkk1 ⊢
      obtain ⟨hg2, hz2, hkk2⟩ := new1 w3 (Obj.cells #[.slice (some ⟨G, 0, none⟩) 1 1] 34)
      have hg1' := hkk2.get hg1 (fun h => h)
      have hkk := hkk1.step hkk2
      rw [hz1] at hg2
      generalize w3.alloc (Obj.cells #[.slice (some ⟨G, 0, none⟩) 1 1] 34) = w4 at hg2 hz2 hkk2 hg1' hkk ⊢
      refine wpList_push rfl _ _ 50 rfl tyRow vs _ _ rfl (hrow2.kept hkk (fun _ _ h => h)) (G + 1) 1 (.slice (some ⟨G, 0, none⟩) 1 1) rfl (by rw [(cells_of hg2).1]; rfl) rfl (by decide) (by omega) ?_
      intro v' w5 hown' hgrow
      subst hn
      have hd5 := hd2.push hg1' (by omega) hkk hown' hgrow HOT.out rfl
      obtain ⟨pv, cv, rfl⟩ := hown'.slice
      have hB5 := hgrow.1.get (hkk.get hd2.cells (fun h => h)) hd2.b_vs
      have hbl2 := hd2.low
      have hvl2 := hrow2.lt
      obtain ⟨hc5, hf5⟩ := cells_of hB5
      clear hcB hfB hB5
      go_wp2
      refine ⟨⟨k + 1, _, _, _, by omega, by go_num, hd5, fun x hx => ?_, ?_⟩, by simp [intOf]; omega⟩
      · simp only [List.mem_append, List.mem_cons] at hx
        have hs2 := hkw.size
        have hbn : ∀ y ∈ fpv vs ++ bl, B ≤ y := hge
        rcases hx with hx | rfl | hx
        · rcases hgrow.2 x hx with hx | hx
          · exact hge x (by simp [hx])
          · omega
        · omega
        · exact hge x (by simp [hx])
      · refine (((hkw.step hk2w).step hkk).step' hgrow.1 (fun x hx hlt => ?_)).setNew (by show w.heap.size ≤ B; omega) _
        have := hge x (by simp [hx])
        omega
    · obtain rfl : k = 400 := by omega
      go_wp2
      go_ret
      refine ⟨B, _, rfl, ⟨vs, vals, bl, ?_, rfl⟩, fun x hx => ?_, hkw⟩
      · rw [List.take_of_length_le (by omega)] at hd; exact hd
      · rcases List.mem_cons.1 hx with rfl | hx
        · omega
        · have := hge x hx; omega
end Go.Proofs.YtdpfohgkikjeaaaGreat
/- Fresh. -/
namespace Go.Proofs.YtdpfohgkikjeaaaGreat
open Go.RowKit
set_option linter.unusedVariables false
set_option linter.unusedSimpArgs false

/-- What is read in a world that has grown. -/
theorem Kept.read {S : Blocks} {w W : World} (h : Kept S w W) {b o : Nat} {v : Value} (hc : w.cell? ⟨b, o, none⟩ = some v) (hn : ¬ S b) : W.cell? ⟨b, o, none⟩ = some v := by
  rw [World.cell?_of_block (w := w) (h.block b (World.block_lt_of_cell? w _ hc) hn)]
  exact hc

theorem wp_push {P : Program} {w : World} {o : Oper} {a : Act} {Q : Exit → Act → World → Prop} {K : Act → World → Prop} (s x : Operand) (t : TypeId) (ho : o.op = .call { callee := .builtin .append, args := #[s, x], argTypes := #[t, t] })
    {e : TypeId} {bytes : Nat} (T : SliceTy P t e 1 bytes) (v : Value) (n : Nat) (xs : List Value) (hs : a.eval s = v) (hown : Row w e 1 v n xs)
    (g c : Nat) (u : Value) (hx : a.eval x = .slice (some ⟨g, 0, none⟩) 1 c) (hu : w.cell? ⟨g, 0, none⟩ = some u) (h1 : u.oneCell' = true) (hb : bytes ≤ 64) (hn : n ≤ 1099511627776)
    (h : ∀ v' w', Row w' e 1 v' (n + 1) (xs ++ [u]) → Grew w w' v v' → K (a.put o.dst v') w') : o.wp P a w K Q := by
  obtain ⟨v', w', hr, h2, h3, _⟩ := run_app T o.type w v n xs hown g 0 1 c [u] rfl (fun j u' hj => by
    match j, hj with
    | 0, hj => simp at hj; subst hj; simpa using hu) (fun u' hu' => by simp at hu'; subst hu'; exact h1) (by
    have : (n + 1) * bytes ≤ 1099511627777 * 64 := Nat.mul_le_mul (by omega) hb
    omega) (by omega)
  unfold Oper.wp execOp
  simp only [ho, resolve, invoke, builtin, Sem.run_bind, Sem.run_pure, Result.andThen_ok, List.map_toArray, List.map_cons, List.map_nil, hs, hx, hr]
  exact h v' w' h2 h3

set_option maxRecDepth 100000 in
set_option maxHeartbeats 1000000 in
theorem fresh_disk (w : World) (file : Str) :
    Calls Tryz.prog 29 #[sv file] w fun e w' => ∃ b fp, e = .returned (.pointer (some ⟨b, 0, none⟩)) ∧ DiskR w' b (DiskS.of (List.replicate 400 blank) file) fp ∧ (∀ x ∈ fp, w.heap.size ≤ x) ∧ Kept no w w' := by
  go_enter Tryz.func29, Tryz.ntmps29
  go_wp2_with fail
  obtain ⟨hn1, hsz1, hk1⟩ := new1 w (Obj.cells #[.slice none 0 0, .string ⟨file.toArray⟩, .string ⟨#[]⟩, .bool false, .int .i64 0, .string ⟨#[]⟩, .int .i64 0] 52)
  generalize hB : w.heap.size = B at hn1 hsz1 ⊢
  generalize w.alloc (Obj.cells #[.slice none 0 0, .string ⟨file.toArray⟩, .string ⟨#[]⟩, .bool false, .int .i64 0, .string ⟨#[]⟩, .int .i64 0] 52) = w1 at hn1 hsz1 hk1 ⊢
  have hd0 : DiskAt w1 B (DiskS.of (List.replicate 0 blank) file) (.slice none 0 0) [] [] := ⟨by rw [hn1]; rfl, ⟨rfl, .inl ⟨rfl, rfl⟩⟩, by simp [DiskS.of], by simp, by simp, by simp [fpv_nil], by simp, by simp⟩
  have hot : ∀ k, (DiskS.of (List.replicate (k + 1) blank) file).sw = (DiskS.of (List.replicate k blank) file).sw ++ [[blank]] := fun k => by simp [DiskS.of, List.replicate_succ']
  have HOT : Hid (∀ k, (DiskS.of (List.replicate (k + 1) blank) file).sw = (DiskS.of (List.replicate k blank) file).sw ++ [[blank]]) := hot
  clear hot
  go_loopw [4] (fun s4 wr => ∃ (k : Nat) (vs : Value) (vals : List Value) (bl : List Nat), k ≤ 400 ∧ s4 = .int .i64 ((k : Nat) : Int) ∧ DiskAt wr B (DiskS.of (List.replicate k blank) file) vs vals bl ∧ (∀ x ∈ fpv vs ++ bl, B ≤ x) ∧ Kept no w wr) (fun s4 _ => 400 - (intOf s4).toNat)
  case atStart => exact ⟨0, _, _, _, by omega, rfl, hd0, by simp [fpv_nil], hk1⟩
  case round =>
    obtain ⟨k, vs, vals, bl, hk, rfl, hd, hge, hkw⟩ := hrel
    by_cases hlt : k < 400
    · have hot := HOT.out k
      have HOT1 : Hid ((DiskS.of (List.replicate (k + 1) blank) file).sw = (DiskS.of (List.replicate k blank) file).sw ++ [[blank]]) := hot
      clear hot
      have hB0 : ∀ W, Kept no wr W → W.cell? ⟨B, 0, none⟩ = some vs := fun W hW => hW.read (by rw [(cells_of hd.cells).1]; rfl) (fun h => h)
      go_wp2_with fail
      refine wp_region3 (fun W => Kept no wr W) [(0, true), (1, true), (2, true), (3, true), (4, false)] [5, 6, 7, 8, 9, 10, 11] (by kernel_rfl) (by kernel_rfl) (fun _ _ d _ _ h => by cases d <;> exact h) ((Kept.refl _ _).drew) ?_
      repeat ((first | refine wpPre3_pure rfl rfl (fun W => (by go_simp; rfl)) ?_ | refine wpPre3_read rfl rfl (fun W hW => (by have h1 := hB0 W hW; go_simp; rfl)) ?_); simp only [Act.put, List.setIfInBounds_toArray, List.set])
      refine wpPre3_nil ?_
      refine wpTail3_cons rfl rfl (fun K hK => ?_)
      go_wp2_with fail
      refine (nought_any _).mono ?_
      rintro e w2 ⟨rfl, hk2w⟩
      refine hK _ _ ⟨fun h => h.step hk2w, ?_⟩
      clear hK
      replace hk2w : Kept no wr w2 := hk2w.of_drew
      have hsz2 := hk2w.size
      have hd2 := hd.kept hk2w (fun _ _ h => h)
      have hvl : vals.length ≤ 400 := by rw [hd2.len]; simp [DiskS.of]; omega
      have hrow2 := hd2.row
      generalize hn : vals.length = n at hrow2 hvl
      generalize hbl : blank = s at *
      have HBL : Hid (blank = s) := hbl
      clear hbl
      refine wpTail3_cons rfl rfl (fun K hK => ?_)
      go_wp2_with fail
      refine ⟨fun h => h.alloc _, ?_⟩
      obtain ⟨hg1, hz1, hkk1⟩ := new1 w2 (Obj.cells #[sv s] 9)
      generalize hG : w2.heap.size = G at hg1 hz1 ⊢
      generalize w2.alloc (Obj.cells #[sv s] 9) = w3 at hg1 hz1 hkk1 ⊢
      refine wpTail3_cons rfl rfl (fun K hK => ?_)
      go_wp2_with fail
      refine ⟨fun h => h.alloc _, ?_⟩
      obtain ⟨hg2, hz2, hkk2⟩ := new1 w3 (Obj.cells #[.slice (some ⟨G, 0, none⟩) 1 1] 34)
      have hg1' := hkk2.get hg1 (fun h => h)
      have hkk := hkk1.step hkk2
      rw [hz1] at hg2
      generalize w3.alloc (Obj.cells #[.slice (some ⟨G, 0, none⟩) 1 1] 34) = w4 at hg2 hz2 hkk2 hg1' hkk ⊢
      refine wpTail3_last (by kernel_rfl) rfl rfl (fun K hK => ?_)
      refine wp_push _ _ 50 rfl tyRow vs _ _ rfl (hrow2.kept hkk (fun _ _ h => h)) (G + 1) 1 (.slice (some ⟨G, 0, none⟩) 1 1) rfl (by rw [(cells_of hg2).1]; rfl) rfl (by decide) (by omega) ?_
      intro v' w5 hown' hgrow
      refine hK _ _ ?_
      clear hK
      subst hn
      have hd5 := hd2.push hg1' (by omega) hkk hown' hgrow HOT1.out rfl
      obtain ⟨pv, cv, rfl⟩ := hown'.slice
      have hB5 := hgrow.1.get (hkk.get hd2.cells (fun h => h)) hd2.b_vs
      have hbl2 := hd2.low
      have hvl2 := hrow2.lt
      obtain ⟨hc5, hf5⟩ := cells_of hB5
      clear hB5
      refine wpTail3_last (by kernel_rfl) rfl rfl (fun K hK => ?_)
      go_wp2_with fail
      refine wpTail3_last (by kernel_rfl) rfl rfl (fun K hK => ?_)
      go_wp2_with fail
      refine wpTail3_last (by kernel_rfl) rfl rfl (fun K hK => ?_)
      go_wp2_with fail
      refine wpTail3_nil ?_
      go_wp2
      rw [HBL.out]
      refine ⟨⟨k + 1, _, _, _, by omega, by go_num, hd5, fun x hx => ?_, ?_⟩, by simp [intOf]; omega⟩
      · simp only [List.mem_append, List.mem_cons] at hx
        have hs2 := hkw.size
        rcases hx with hx | rfl | hx
        · rcases hgrow.2 x hx with hx | hx
          · exact hge x (by simp [hx])
          · omega
        · omega
        · exact hge x (by simp [hx])
      · refine (((hkw.step hk2w).step hkk).step' hgrow.1 (fun x hx hlt => ?_)).setNew (by show w.heap.size ≤ B; omega) _
        have := hge x (by simp [hx])
        omega
    · obtain rfl : k = 400 := by omega
      go_wp2
      go_ret
      refine ⟨B, _, rfl, ⟨vs, vals, bl, hd, rfl⟩, fun x hx => ?_, hkw⟩
      rcases List.mem_cons.1 hx with rfl | hx
      · omega
      · have := hge x hx; omega
end Go.Proofs.YtdpfohgkikjeaaaGreat
/- Right; Do. -/
namespace Go.Proofs.YtdpfohgkikjeaaaGreat
open Go.RowKit
set_option linter.unusedVariables false
set_option linter.unusedSimpArgs false

set_option maxRecDepth 100000 in
set_option maxHeartbeats 1000000 in
theorem right_any (a : PAct) (h : RightA a) (w : World) : Calls Tryz.prog 43 #[a.val] w fun e w' => e = .returned (.bool true) ∧ Kept no w w' := by
  obtain ⟨kind, at_, data⟩ := a
  rcases h with ⟨hk, h1, h2⟩ | ⟨hk, h1⟩ | ⟨hk, h1, h2⟩
  · simp only at hk h1 h2
    subst hk
    have h2' : (data.length : Int) = 64 := by omega
    clear h2
    go_enter Tryz.func43, Tryz.ntmps43
    go_wp2
    go_ret
    exact ⟨by simp, (Kept.refl _ _).alloc _⟩
  · simp only at hk h1
    subst hk
    subst h1
    go_enter Tryz.func43, Tryz.ntmps43
    go_wp2
    go_ret
    exact ⟨by simp, (Kept.refl _ _).alloc _⟩
  · simp only at hk h1 h2
    subst h1
    subst h2
    rcases hk with rfl | rfl | rfl | rfl | rfl
    all_goals
      go_enter Tryz.func43, Tryz.ntmps43
      go_wp2
      go_ret
      exact ⟨by simp, (Kept.refl _ _).alloc _⟩
end Go.Proofs.YtdpfohgkikjeaaaGreat
/- Do: a Write. -/
namespace Go.Proofs.YtdpfohgkikjeaaaGreat
open Go.RowKit
set_option linter.unusedVariables false
set_option linter.unusedSimpArgs false

/-- What is known of a sector in memory. -/
theorem DiskAt.sec {w b d vs vals bl} (h : DiskAt w b d vs vals bl) {p : Nat} {l : List Str} (hl : d.sw[p]? = some l) : ∃ g c g2 o2 c2, vs = .slice (some ⟨g, 0, none⟩) vals.length c ∧ p < vals.length ∧ vals.length ≤ c ∧ c ≤ 9223372036854775807 ∧ g ≠ b ∧ g < w.heap.size ∧ w.cell? ⟨g, p, none⟩ = some (.slice (some ⟨g2, o2, none⟩) l.length c2) ∧ g2 ∈ bl ∧ g2 < w.heap.size ∧ l.length ≤ c2 ∧ c2 ≤ 9223372036854775807 ∧ StrsAt w g2 o2 l := by
  have hlen := h.len
  have hp : p < d.sw.length := (List.getElem?_eq_some_iff.1 hl).1
  obtain ⟨g, c, hvs, hc1, hc2⟩ : ∃ g c, vs = .slice (some ⟨g, 0, none⟩) vals.length c ∧ vals.length ≤ c ∧ c ≤ maxLen := by
    rcases h.row.shape with ⟨_, h1, _⟩ | ⟨g, c, hv, h1, h2⟩
    · omega
    · exact ⟨g, c, hv, h1, h2⟩
  have hv : vals[p]? = some (vals[p]'(by omega)) := by simp [show p < vals.length by omega]
  obtain ⟨g2, o2, c2, hv2, hg2, h21, h22, hs2⟩ := h.secs p _ l hv hl
  rw [hv2] at hv
  have hrow := h.row
  rw [hvs] at hrow
  have hcell := hrow.cell
  refine ⟨g, c, g2, o2, c2, hvs, by omega, hc1, by unfold maxLen at hc2; omega, fun e => h.b_vs (by rw [hvs, fpv_some, ← e]; simp), h.row.lt g (by rw [hvs, fpv_some]; simp), hcell.2.2.2 p _ hv, hg2, h.low g2 hg2, h21, by unfold maxLen at h22; omega, hs2⟩

/-- A row one cell of which is turned. -/
theorem Row.put {w : World} {e : TypeId} {g n c : Nat} {xs : List Value} (h : Row w e 1 (.slice (some ⟨g, 0, none⟩) n c) n xs) {p : Nat} (hp : p < n) (u : Value) : Row (w.setCell ⟨g, p, none⟩ u) e 1 (.slice (some ⟨g, 0, none⟩) n c) n (xs.set p u) := by
  have hl := h.len
  rcases h.2 with ⟨h0, _⟩ | ⟨g', cap, cur, hv, hg0, hh, h1, h2, h3, h4⟩
  · cases h0
  · simp only [Value.slice.injEq, Option.some.injEq, Addr.mk.injEq, and_true, true_and] at hv
    obtain ⟨rfl, rfl⟩ := hv
    refine ⟨by simp [hl], .inr ⟨g, c, cur.setIfInBounds p u, rfl, hg0, heap_set_same hh, h1, h2, by simpa using h3, ?_⟩⟩
    rw [← h4, Array.toList_setIfInBounds, Nat.mul_one]
    rw [List.take_set]

theorem Row.heap {w : World} {e : TypeId} {g n c : Nat} {xs : List Value} (h : Row w e 1 (.slice (some ⟨g, 0, none⟩) n c) n xs) : ∃ cur : Array Value, w.heap[g]? = some (.cells cur e (0, 0)) ∧ n ≤ cur.size := by
  rcases h.2 with ⟨h0, _⟩ | ⟨g', cap, cur, hv, hg0, hh, h1, h2, h3, h4⟩
  · cases h0
  · simp only [Value.slice.injEq, Option.some.injEq, Addr.mk.injEq, and_true, true_and] at hv
    obtain ⟨rfl, rfl⟩ := hv
    exact ⟨cur, hh, by omega⟩

theorem DiskAt.put {w w4 : World} {b d vs vals bl} (h : DiskAt w b d vs vals bl) (hk : Kept no w w4) {p g c : Nat} (hvs : vs = .slice (some ⟨g, 0, none⟩) vals.length c) (hp : p < vals.length) {v2 : Value} {l2 : List Str} {bl2 : List Nat}
    (hs : SecAt w4 v2 l2 bl2) (hsub : ∀ x ∈ bl, x ∈ bl2) (hlow : ∀ x ∈ bl2, x < w4.heap.size) (hap : ∀ x ∈ bl2, x ≠ b ∧ x ≠ g) :
    DiskAt (w4.setCell ⟨g, p, none⟩ v2) b { d with sw := d.sw.set p l2 } vs (vals.set p v2) bl2 := by
  have hf : fpv vs = [g] := by rw [hvs]; exact fpv_some
  have hbg : b ≠ g := fun e => h.b_vs (by rw [hf, e]; simp)
  have h4 := h.kept hk (fun _ _ h => h)
  have hks : Kept (fun x => x = g) w4 (w4.setCell ⟨g, p, none⟩ v2) := Kept.cell1
  have hlen := h.len
  refine ⟨?_, ?_, by simp [hlen], ?_, fun x hx => Nat.lt_of_lt_of_le (hlow x hx) hks.size, h.b_vs, fun hx => (hap b hx).1 rfl, fun x hx hx2 => ?_⟩
  · exact hks.get h4.cells hbg
  · have hrow := h4.row
    rw [hvs] at hrow ⊢
    have := hrow.put hp v2
    rw [List.length_set]
    exact this
  · intro i v l hv hl
    by_cases e : i = p
    · subst e
      have h1 : v2 = v := by
        rw [List.getElem?_set_self hp] at hv; exact Option.some.inj hv
      have h2 : l2 = l := by
        rw [List.getElem?_set_self (by omega)] at hl; exact Option.some.inj hl
      subst h1; subst h2
      exact hs.kept hks hlow (fun x hx => (hap x hx).2)
    · rw [List.getElem?_set_ne (Ne.symm e)] at hv
      rw [List.getElem?_set_ne (Ne.symm e)] at hl
      exact ((h4.secs i v l hv hl).mono hsub).kept hks hlow (fun x hx => (hap x hx).2)
  · rw [hf] at hx
    simp only [List.mem_cons, List.not_mem_nil, or_false] at hx
    exact (hap x hx2).2 hx

theorem wp_app1 {P : Program} {w : World} {o : Oper} {a : Act} {Q : Exit → Act → World → Prop} {K : Act → World → Prop} (s x : Operand) (t : TypeId) (ho : o.op = .call { callee := .builtin .append, args := #[s, x], argTypes := #[t, t] })
    {e : TypeId} {bytes : Nat} (T : SliceTy P t e 1 bytes) (v : Value) (n : Nat) (xs : List Value) (hs : a.eval s = v) (hown : Row w e 1 v n xs)
    (g off m c : Nat) (news : List Value) (hx : a.eval x = .slice (some ⟨g, off, none⟩) m c) (hl : news.length = m) (hu : ∀ j u, news[j]? = some u → w.cell? ⟨g, off + j, none⟩ = some u) (h1 : ∀ u ∈ news, u.oneCell' = true) (hb : bytes ≤ 64) (hn : n + m ≤ 1099511627776)
    (h : ∀ v' w', Row w' e 1 v' (n + m) (xs ++ news) → Grew w w' v v' → K (a.put o.dst v') w') : o.wp P a w K Q := by
  obtain ⟨v', w', hr, h2, h3, _⟩ := run_app T o.type w v n xs hown g off m c news (by omega) hu h1 (by
    have : (n + m) * bytes ≤ 1099511627776 * 64 := Nat.mul_le_mul (by omega) hb
    omega) (by omega)
  unfold Oper.wp execOp
  simp only [ho, resolve, invoke, builtin, Sem.run_bind, Sem.run_pure, Result.andThen_ok, List.map_toArray, List.map_cons, List.map_nil, hs, hx, hr]
  exact h v' w' h2 h3

theorem tyStr : SliceTy Tryz.prog 34 9 1 16 := SliceTy.mk' (z := .string ⟨#[]⟩) (by kernel_rfl) (by kernel_rfl) rfl (by decide)

set_option maxRecDepth 100000 in
set_option maxHeartbeats 2000000 in
theorem do_write {w b d vs vals bl} (h : DiskAt w b d vs vals bl) (p : Nat) (s : Str) (l : List Str) (hl : d.sw[p]? = some l) (hN : l.length ≤ 1000000000000) (hne : l ≠ []) :
    Calls Tryz.prog 44 #[.pointer (some ⟨b, 0, none⟩), .agg #[.int .i64 1, .int .i64 (p : Int), sv s]] w fun e w' => e = .returned (.tuple #[]) ∧ DiskTo w w' b (b :: (fpv vs ++ bl)) { d with sw := d.sw.set p (l ++ [s]) } := by
  obtain ⟨g, c, g2, o2, c2, hvs, hpv, hc1, hc2, hgb, hgl, hcp, hg2, hg2l, h21, h22, hs2⟩ := h.sec hl
  have hbw : b < w.heap.size := lt_of_heap h.cells
  have hln : 0 < l.length := List.length_pos_iff.2 hne
  generalize hn : vals.length = n at *
  go_enter Tryz.func44, Tryz.ntmps44
  go_wp2_with fail
  obtain ⟨hn1, hsz1, hk1⟩ := new1 w (Obj.cells #[.int .i64 1, .int .i64 (p : Int), sv s] 80)
  have hb1 := hk1.get h.cells (fun h => h)
  have hcp1 := hk1.read hcp (fun h => h)
  have hs21 := hs2.kept hk1 (fun h => h)
  generalize hA : w.heap.size = A at *
  generalize w.alloc (Obj.cells #[.int .i64 1, .int .i64 (p : Int), sv s] 80) = w1 at *
  obtain ⟨hcb, hfb⟩ := cells_of hb1
  obtain ⟨hca, hfa⟩ := cells_of hn1
  rw [hvs] at hcb
  have h0 : (0 : Int) ≤ (p : Int) := by omega
  go_quiet (fail)
  go_wp2_with fail
  have hkn : Kept no w1 (w1.drewN nq) := (Kept.refl _ _).drewN _
  have hB0 : ∀ W, Kept no w1 W → W.cell? ⟨b, 0, none⟩ = some (.slice (some ⟨g, 0, none⟩) n c) := fun W hW => hW.read (by rw [hcb]; rfl) (fun h => h)
  have hA1 : ∀ W, Kept no w1 W → W.cell? ⟨A, 1, none⟩ = some (.int .i64 (p : Int)) := fun W hW => hW.read (by rw [hca]; rfl) (fun h => h)
  have hgp : ∀ W, Kept no w1 W → W.cell? ⟨g, p, none⟩ = some (.slice (some ⟨g2, o2, none⟩) l.length c2) := fun W hW => hW.read hcp1 (fun h => h)
  refine wp_region3 (fun W => Kept no w1 W) [(0, true), (1, true), (2, true), (3, true), (4, false), (5, true), (6, false), (7, true), (8, false)] [9, 10] (by kernel_rfl) (by kernel_rfl) (fun _ _ d _ _ h => by cases d <;> exact h) hkn.drew ?_
  repeat ((first | refine wpPre3_pure rfl rfl (fun W => (by go_simp; rfl)) ?_ | refine wpPre3_read rfl rfl (fun W hW => (by have h1 := hB0 W hW; have h2 := hA1 W hW; have h3 := hgp W hW; go_simp; rfl)) ?_); simp only [Act.put, List.setIfInBounds_toArray, List.set])
  refine wpPre3_nil ?_
  have hk12 : Kept no w1 (w1.drewN nq).drew := hkn.drew
  generalize (w1.drewN nq).drew = w2 at hk12 ⊢
  clear hkn hca hfa hcb hfb
  have hs22 := hs21.kept hk12 (fun h => h)
  refine wpTail3_last (by kernel_rfl) rfl rfl (fun K hK => ?_)
  refine wp_app1 _ _ 34 rfl tyStr (.slice none 0 0) 0 [] rfl ⟨rfl, .inl ⟨rfl, rfl⟩⟩ g2 o2 l.length c2 (l.map sv) rfl (by simp) (fun j u hu => ?_) (fun u hu => ?_) (by decide) (by omega) ?_
  · simp only [List.getElem?_map, Option.map_eq_some_iff] at hu
    obtain ⟨x, hx, rfl⟩ := hu
    exact hs22 j x hx
  · simp only [List.mem_map] at hu
    obtain ⟨x, _, rfl⟩ := hu
    rfl
  intro v3 w3 hr3 hG3
  rw [Nat.zero_add, List.nil_append] at hr3
  refine hK _ _ ?_
  clear hK
  have hk23 : Kept no w2 w3 := hG3.1.mono (fun i hi _ => by simp [fpv_nil] at hi)
  have hk13 := hk12.step hk23
  have hv3 : ∀ x ∈ fpv v3, w2.heap.size ≤ x := fun x hx => by
    rcases hG3.2 x hx with hx | hx
    · simp [fpv_nil] at hx
    · exact hx
  have hs12 := hk12.size
  obtain ⟨g3, c3, rfl, hc31, hc32⟩ : ∃ g3 c3, v3 = .slice (some ⟨g3, 0, none⟩) l.length c3 ∧ l.length ≤ c3 ∧ c3 ≤ maxLen := by
    rcases hr3.shape with ⟨_, h1, _⟩ | ⟨g, c, hv, h1, h2⟩
    · omega
    · exact ⟨g, c, hv, h1, h2⟩
  have hg3 := hv3 g3 (by simp [fpv_some])
  refine wpTail3_last (by kernel_rfl) rfl rfl (fun K hK => ?_)
  go_wp2_with fail
  refine wpTail3_nil ?_
  go_wp2_with fail
  have hB0 : ∀ W, Kept (fun x => x = g3) w3 W → W.cell? ⟨b, 0, none⟩ = some (.slice (some ⟨g, 0, none⟩) n c) := fun W hW => hW.read (hB0 w3 hk13) (fun e => by omega)
  have hA1 : ∀ W, Kept (fun x => x = g3) w3 W → W.cell? ⟨A, 1, none⟩ = some (.int .i64 (p : Int)) := fun W hW => hW.read (hA1 w3 hk13) (fun e => by omega)
  have hA2 : ∀ W, Kept (fun x => x = g3) w3 W → W.cell? ⟨A, 2, none⟩ = some (sv s) := fun W hW => hW.read (hk13.read (v := sv s) (by rw [(cells_of hn1).1]; rfl) (fun h => h)) (fun e => by omega)
  refine wp_region3 (fun W => Kept (fun x => x = g3) w3 W) [(0, true), (1, true), (2, true), (3, false), (4, true), (5, false), (6, true), (7, true), (8, false)] [9, 10, 11, 12] (by kernel_rfl) (by kernel_rfl) (fun _ _ d _ _ h => by cases d <;> exact h) ((Kept.refl _ _).drew) ?_
  repeat ((first | refine wpPre3_pure rfl rfl (fun W => (by go_simp; rfl)) ?_ | refine wpPre3_read rfl rfl (fun W hW => (by have h1 := hB0 W hW; have h2 := hA1 W hW; have h3 := hA2 W hW; go_simp; rfl)) ?_); simp only [Act.put, List.setIfInBounds_toArray, List.set])
  refine wpPre3_nil ?_
  have hk34 : Kept no w3 w3.drew := (Kept.refl _ _).drew
  have hr4 : Row w3.drew 9 1 (.slice (some ⟨g3, 0, none⟩) l.length c3) l.length (l.map sv) := hr3.drew
  generalize w3.drew = w4 at hk34 hr4 ⊢
  have hs34 := hk34.size
  have hs23 := hk23.size
  refine wpTail3_cons rfl rfl (fun K hK => ?_)
  go_wp2_with fail
  obtain ⟨hn5, hsz5, hk5⟩ := new1 w4 (Obj.cells #[sv s] 9)
  refine ⟨fun h => h.alloc _, ?_⟩
  generalize hG5 : w4.heap.size = G5 at hn5 hsz5 ⊢
  generalize w4.alloc (Obj.cells #[sv s] 9) = w5 at hn5 hsz5 hk5 ⊢
  refine wpTail3_cons rfl rfl (fun K hK => ?_)
  refine wp_push _ _ 34 rfl tyStr (.slice (some ⟨g3, 0, none⟩) l.length c3) _ _ rfl (hr4.kept hk5 (fun _ _ h => h)) G5 1 (sv s) rfl (by rw [(cells_of hn5).1]; rfl) rfl (by decide) (by omega) ?_
  intro v6 w6 hr6 hG6
  refine hK _ _ ⟨fun hh => hh.step (hG6.1.mono (fun i hi _ => by rw [fpv_some] at hi; simpa using hi)), ?_⟩
  clear hK
  have hk15 : Kept no w1 w5 := (hk13.step hk34).step hk5
  have hk16 : Kept no w1 w6 := hk15.step' hG6.1 (fun i hi hlt => by rw [fpv_some] at hi; simp at hi; omega)
  have hk06 : Kept no w w6 := hk1.step hk16
  have hrow6 := (h.kept hk06 (fun _ _ h => h)).row
  have hput := fun v2 l2 bl2 hs h1 h2 h3 => h.put (v2 := v2) (l2 := l2) (bl2 := bl2) hk06 (p := p) (g := g) (c := c) (by rw [hn]; exact hvs) (by omega) hs h1 h2 h3
  rw [hn, hvs] at hrow6
  obtain ⟨cur, hcur, hcs⟩ := hrow6.heap
  obtain ⟨hcg, hfg⟩ := cells_of hcur
  have hcg2 : w6.cell? ⟨g, p, none⟩ = some (cur[p]'(by omega)) := by rw [hcg]; simp [show p < cur.size by omega]
  have hfg2 := hfg p
  have hv6 := hr6.lt
  have hr6s := hr6.shape
  obtain ⟨g6, c6, rfl, hc61, hc62⟩ : ∃ g6 c6, v6 = .slice (some ⟨g6, 0, none⟩) (l.length + 1) c6 ∧ l.length + 1 ≤ c6 ∧ c6 ≤ maxLen := by
    rcases hr6s with ⟨_, h1, _⟩ | ⟨g, c, hv, h1, h2⟩
    · omega
    · exact ⟨g, c, hv, h1, h2⟩
  have hg6 : A + 1 ≤ g6 := by
    have hs5 := hk5.size
    rcases hG6.2 g6 (by simp [fpv_some]) with hx | hx
    · rw [fpv_some] at hx; simp at hx; omega
    · omega
  have hg6l := hv6 g6 (by simp [fpv_some])
  clear hcg hfg hcur hr6s
  refine wpTail3_last (by kernel_rfl) rfl rfl (fun K hK => ?_)
  go_wp2_with fail
  refine wpTail3_last (by kernel_rfl) rfl rfl (fun K hK => ?_)
  go_wp2_with fail
  refine wpTail3_nil ?_
  go_wp2
  have hbl := h.low
  go_end0
  refine ⟨rfl, ⟨_, ⟨_, _, _, hput _ (l ++ [s]) (g6 :: bl) ⟨g6, 0, c6, by simp, by simp, by simpa using hc61, hc62, ?_⟩ (fun x hx => List.mem_cons_of_mem _ hx) ?_ ?_, rfl⟩, ?_⟩, ?_⟩
  · intro j x hx
    have hh := hr6.cell.2.2.2 j (sv x) (by
      have e : l.map sv ++ [sv s] = (l ++ [s]).map sv := by simp
      rw [e, List.getElem?_map, hx]; rfl)
    simpa using hh
  · intro x hx
    rcases List.mem_cons.1 hx with rfl | hx
    · exact hg6l
    · have := hbl x hx; have := hk06.size; omega
  · intro x hx
    rcases List.mem_cons.1 hx with rfl | hx
    · exact ⟨by omega, by omega⟩
    · exact ⟨fun e => h.b_bl (e ▸ hx), fun e => h.vs_bl g (by rw [hvs, fpv_some]; simp) (e ▸ hx)⟩
  · intro x hx
    simp only [List.mem_cons, List.mem_append] at hx ⊢
    rcases hx with rfl | hx | rfl | hx
    · exact .inl (.inl rfl)
    · exact .inl (.inr (.inl hx))
    · exact .inr (by omega)
    · exact .inl (.inr (.inr hx))
  · exact (hk06.mono (fun _ h _ => h.elim)).setCell (p := ⟨g, p, none⟩) (fun _ => by rw [hvs, fpv_some]; simp) _
end Go.Proofs.YtdpfohgkikjeaaaGreat
/- Do: what turns one cell of the disk. -/
namespace Go.Proofs.YtdpfohgkikjeaaaGreat
open Go.RowKit
set_option linter.unusedVariables false
set_option linter.unusedSimpArgs false

/-- The cells of a disk are turned, its sectors stay. -/
theorem DiskAt.store {w w' : World} {b d d' vs vals bl} (h : DiskAt w b d vs vals bl) (hk : Kept (fun x => x = b) w w') (hc : w'.heap[b]? = some (.cells (diskCells d' vs) diskT (0, 0))) (hsw : d'.sw = d.sw) : DiskAt w' b d' vs vals bl := by
  refine ⟨hc, h.row.kept hk (fun x hx e => h.b_vs (e ▸ hx)), by rw [hsw]; exact h.len, fun i v l hv hl => ?_, fun x hx => Nat.lt_of_lt_of_le (h.low x hx) hk.size, h.b_vs, h.b_bl, h.vs_bl⟩
  rw [hsw] at hl
  exact (h.secs i v l hv hl).kept hk h.low (fun x hx e => h.b_bl (e ▸ hx))

theorem DiskAt.to {w w' : World} {b d d' vs vals bl} (h : DiskAt w b d vs vals bl) (hk : Kept (fun x => x = b) w w') (hc : w'.heap[b]? = some (.cells (diskCells d' vs) diskT (0, 0))) (hsw : d'.sw = d.sw) : DiskTo w w' b (b :: (fpv vs ++ bl)) d' :=
  ⟨⟨_, ⟨_, _, _, h.store hk hc hsw, rfl⟩, fun x hx => .inl hx⟩, hk.mono (fun i e _ => by rw [e]; simp)⟩

set_option maxRecDepth 100000 in
set_option maxHeartbeats 1000000 in
theorem do_begin {w b d vs vals bl} (h : DiskAt w b d vs vals bl) :
    Calls Tryz.prog 44 #[.pointer (some ⟨b, 0, none⟩), .agg #[.int .i64 3, .int .i64 0, .string ⟨#[]⟩]] w fun e w' => e = .returned (.tuple #[]) ∧ DiskTo w w' b (b :: (fpv vs ++ bl)) { d with new := [], newSafe := 0 } := by
  have hbw : b < w.heap.size := lt_of_heap h.cells
  obtain ⟨hc, hf⟩ := cells_of h.cells
  have hb1 := (new1 w (Obj.cells #[.int .i64 3, .int .i64 0, .string ⟨#[]⟩] 80)).2.2.get h.cells (fun h => h)
  have hka := (new1 w (Obj.cells #[.int .i64 3, .int .i64 0, .string ⟨#[]⟩] 80)).2.2
  have hkb := hka.mono (T := fun x => x = b) (fun _ h _ => h.elim)
  go_enter Tryz.func44, Tryz.ntmps44
  go_wp2
  go_end0
  refine ⟨rfl, h.to ((Kept.cell1.step Kept.cell1).alloc _) ?_ rfl⟩
  rw [heap_alloc_lt (by simpa using hbw), heap_set_same (heap_set_same h.cells)]
  simp [diskCells]

set_option maxRecDepth 100000 in
set_option maxHeartbeats 1000000 in
theorem do_append {w b d vs vals bl} (h : DiskAt w b d vs vals bl) (s : Str) (hs : d.new.length + s.length ≤ 1099511627776) :
    Calls Tryz.prog 44 #[.pointer (some ⟨b, 0, none⟩), .agg #[.int .i64 4, .int .i64 0, sv s]] w fun e w' => e = .returned (.tuple #[]) ∧ DiskTo w w' b (b :: (fpv vs ++ bl)) { d with new := d.new ++ s } := by
  have hbw : b < w.heap.size := lt_of_heap h.cells
  obtain ⟨hc, hf⟩ := cells_of h.cells
  have hb1 := (new1 w (Obj.cells #[.int .i64 4, .int .i64 0, sv s] 80)).2.2.get h.cells (fun h => h)
  have hka := (new1 w (Obj.cells #[.int .i64 4, .int .i64 0, sv s] 80)).2.2
  have hkb := hka.mono (T := fun x => x = b) (fun _ h _ => h.elim)
  go_enter Tryz.func44, Tryz.ntmps44
  have hap := sv_append d.new s
  have hl2 : (d.new ++ s).length ≤ 1099511627776 := by rw [List.length_append]; exact hs
  go_wp2_with fail
  obtain ⟨hn1, hsz1, hk1⟩ := new1 w (Obj.cells #[.int .i64 4, .int .i64 0, sv s] 80)
  clear hka hkb
  generalize hA : w.heap.size = A at *
  generalize w.alloc (Obj.cells #[.int .i64 4, .int .i64 0, sv s] 80) = w1 at *
  have hB5 : ∀ W, Kept no w1 W → W.cell? ⟨b, 5, none⟩ = some (sv d.new) := fun W hW => hW.read (by rw [(cells_of hb1).1]; rfl) (fun h => h)
  have hA2 : ∀ W, Kept no w1 W → W.cell? ⟨A, 2, none⟩ = some (sv s) := fun W hW => hW.read (by rw [(cells_of hn1).1]; rfl) (fun h => h)
  refine wp_region3 (fun W => Kept no w1 W) [(0, true), (1, true), (2, true), (3, true), (4, false), (5, true), (6, false), (7, true)] [8, 9, 10] (by kernel_rfl) (by kernel_rfl) (fun _ _ d _ _ h => by cases d <;> exact h) ((Kept.refl _ _).drew) ?_
  repeat ((first | refine wpPre3_pure rfl rfl (fun W => (by go_simp; rfl)) ?_ | refine wpPre3_read rfl rfl (fun W hW => (by have h1 := hB5 W hW; have h2 := hA2 W hW; go_simp; rfl)) ?_); simp only [Act.put, List.setIfInBounds_toArray, List.set])
  refine wpPre3_pure rfl rfl (v := sv (d.new ++ s)) (fun W => ?_) ?_
  · go_simp
    omega
  simp only [Act.put, List.setIfInBounds_toArray, List.set]
  refine wpPre3_nil ?_
  have hk12 : Kept no w1 w1.drew := (Kept.refl _ _).drew
  generalize w1.drew = w2 at hk12 ⊢
  have hb2 := hk12.get hb1 (fun h => h)
  obtain ⟨hc2, hf2⟩ := cells_of hb2
  refine wpTail3_last (by kernel_rfl) rfl rfl (fun K hK => ?_)
  go_wp2_with fail
  refine wpTail3_last (by kernel_rfl) rfl rfl (fun K hK => ?_)
  go_wp2_with fail
  refine wpTail3_last (by kernel_rfl) rfl rfl (fun K hK => ?_)
  go_wp2_with fail
  refine wpTail3_nil ?_
  go_wp2
  go_end0
  refine ⟨rfl, h.to (((hk1.step hk12).mono (fun _ h _ => h.elim)).step Kept.cell1) ?_ rfl⟩
  rw [heap_set_same hb2]
  simp [diskCells]

set_option maxRecDepth 100000 in
set_option maxHeartbeats 1000000 in
theorem do_syncFile {w b d vs vals bl} (h : DiskAt w b d vs vals bl) :
    Calls Tryz.prog 44 #[.pointer (some ⟨b, 0, none⟩), .agg #[.int .i64 5, .int .i64 0, .string ⟨#[]⟩]] w fun e w' => e = .returned (.tuple #[]) ∧ DiskTo w w' b (b :: (fpv vs ++ bl)) { d with newSafe := d.new.length } := by
  have hbw : b < w.heap.size := lt_of_heap h.cells
  obtain ⟨hc, hf⟩ := cells_of h.cells
  have hb1 := (new1 w (Obj.cells #[.int .i64 5, .int .i64 0, .string ⟨#[]⟩] 80)).2.2.get h.cells (fun h => h)
  have hka := (new1 w (Obj.cells #[.int .i64 5, .int .i64 0, .string ⟨#[]⟩] 80)).2.2
  have hkb := hka.mono (T := fun x => x = b) (fun _ h _ => h.elim)
  go_enter Tryz.func44, Tryz.ntmps44
  go_wp2
  go_end0
  refine ⟨rfl, h.to (Kept.cell1.alloc _) ?_ rfl⟩
  rw [heap_alloc_lt (by simpa using hbw), heap_set_same h.cells]
  simp [diskCells]

set_option maxRecDepth 100000 in
set_option maxHeartbeats 1000000 in
theorem do_rename {w b d vs vals bl} (h : DiskAt w b d vs vals bl) :
    Calls Tryz.prog 44 #[.pointer (some ⟨b, 0, none⟩), .agg #[.int .i64 6, .int .i64 0, .string ⟨#[]⟩]] w fun e w' => e = .returned (.tuple #[]) ∧ DiskTo w w' b (b :: (fpv vs ++ bl)) { d with before := if d.renamed then d.before else d.file, renamed := true, file := d.new, safe := d.newSafe } := by
  have hbw : b < w.heap.size := lt_of_heap h.cells
  obtain ⟨hc, hf⟩ := cells_of h.cells
  have hb1 := (new1 w (Obj.cells #[.int .i64 6, .int .i64 0, .string ⟨#[]⟩] 80)).2.2.get h.cells (fun h => h)
  have hka := (new1 w (Obj.cells #[.int .i64 6, .int .i64 0, .string ⟨#[]⟩] 80)).2.2
  have hkb := hka.mono (T := fun x => x = b) (fun _ h _ => h.elim)
  go_enter Tryz.func44, Tryz.ntmps44
  cases hre : d.renamed with
  | true =>
    go_wp2
    go_end0
    refine ⟨rfl, h.to (((Kept.cell1.step Kept.cell1).step Kept.cell1).alloc _) ?_ rfl⟩
    rw [heap_alloc_lt (by simpa using hbw), heap_set_same (heap_set_same (heap_set_same h.cells))]
    simp [diskCells]
  | false =>
    have hD := h
    clear h
    go_wp2
    go_end0
    refine ⟨rfl, hD.to ((((Kept.cell1.step Kept.cell1).step Kept.cell1).step Kept.cell1).alloc _) ?_ rfl⟩
    rw [heap_alloc_lt (by simpa using hbw), heap_set_same (heap_set_same (heap_set_same (heap_set_same hD.cells)))]
    simp [diskCells]

set_option maxRecDepth 100000 in
set_option maxHeartbeats 1000000 in
theorem do_syncDir {w b d vs vals bl} (h : DiskAt w b d vs vals bl) :
    Calls Tryz.prog 44 #[.pointer (some ⟨b, 0, none⟩), .agg #[.int .i64 7, .int .i64 0, .string ⟨#[]⟩]] w fun e w' => e = .returned (.tuple #[]) ∧ DiskTo w w' b (b :: (fpv vs ++ bl)) { d with renamed := false } := by
  have hbw : b < w.heap.size := lt_of_heap h.cells
  obtain ⟨hc, hf⟩ := cells_of h.cells
  have hb1 := (new1 w (Obj.cells #[.int .i64 7, .int .i64 0, .string ⟨#[]⟩] 80)).2.2.get h.cells (fun h => h)
  have hka := (new1 w (Obj.cells #[.int .i64 7, .int .i64 0, .string ⟨#[]⟩] 80)).2.2
  have hkb := hka.mono (T := fun x => x = b) (fun _ h _ => h.elim)
  go_enter Tryz.func44, Tryz.ntmps44
  go_wp2
  go_end0
  refine ⟨rfl, h.to (Kept.cell1.alloc _) ?_ rfl⟩
  rw [heap_alloc_lt (by simpa using hbw), heap_set_same h.cells]
  simp [diskCells]

end Go.Proofs.YtdpfohgkikjeaaaGreat
