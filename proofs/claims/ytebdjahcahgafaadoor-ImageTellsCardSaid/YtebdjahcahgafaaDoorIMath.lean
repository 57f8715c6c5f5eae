/- Plain mathematics of images: their bytes, how bytes are read as an image, and that each undoes the other. -/
import Derived.Test.YtebdjahcahgafaaDoorTexts
import Derived.Test.YtebdjahcahgafaaDoorTkM
namespace Go.Proofs.YtebdjahcahgafaaDoor

structure GlobR where
  ty : Int
  size : Int
  val : Int
structure InsR where
  op : Int
  a : Int
  b : Int
structure FnR where
  name : ByteArray
  params : List Int
  result : Int
  locals : List Int
  code : List InsR
structure ImgR where
  globs : List GlobR
  fns : List FnR

/-! ### Which are valid -/
def typeK (t : Int) : Bool := decide (1 ≤ t) && decide (t ≤ 4)
def globK (g : GlobR) : Bool :=
  typeK g.ty && (!decide (g.size < 0) && (!decide (256 < g.size) &&
    (if 0 < g.size ∨ g.ty = 4 then g.val == 0 else if g.ty = 3 then (g.val == 0 || g.val == 1) else true)))
def insK (i : InsR) : Bool := !decide (i.op < 1) && (!decide (33 < i.op) && (!decide (i.b < 0) && !decide (4 < i.b)))
def nameK (s : ByteArray) : Bool := !wordB (bytesOf s) && (decide (nameN (bytesOf s) = s.size) && (decide (1 ≤ s.size) && decide (s.size ≤ 24)))
def headK (f : FnR) : Bool :=
  nameK f.name && (f.params.all typeK && (f.locals.all typeK && ((typeK f.result || f.result == 0) && (decide (f.params.length ≤ 8) && (decide (f.locals.length ≤ 32) && (decide (f.params.length ≤ f.locals.length) && decide (f.code.length ≤ 32768)))))))
def fnK (f : FnR) : Bool := headK f && (decide (f.locals.take f.params.length = f.params) && f.code.all insK)
def imgK (x : ImgR) : Bool := decide (x.globs.length ≤ 64) && (decide (x.fns.length ≤ 64) && (x.globs.all globK && x.fns.all fnK))

/-! ### Their bytes -/
def natB (n : Int) : List Nat := vn n.toNat
def intB (n : Int) : List Nat := vn (zz n)
def listB {α : Type} (f : α → List Nat) (l : List α) : List Nat := vn l.length ++ l.flatMap f
def textB' (s : ByteArray) : List Nat := vn s.size ++ bytesOf s
def globB (g : GlobR) : List Nat := natB g.ty ++ (natB g.size ++ intB g.val)
def insB (i : InsR) : List Nat := natB i.op ++ (intB i.a ++ natB i.b)
def fnB (f : FnR) : List Nat := textB' f.name ++ (listB natB f.params ++ (natB f.result ++ (listB natB (f.locals.drop f.params.length) ++ listB insB f.code)))
def bodyI (x : ImgR) : List Nat := listB globB x.globs ++ listB fnB x.fns
def imgB (x : ImgR) : List Nat := [84, 73, 76, 84] ++ bodyI x

/-! ### Reading -/
abbrev Prs (α : Type) := List Nat → Option (α × List Nat)
def pNat : Prs Int := fun l => match rd 9 0 0 l with
  | .ok (z, c) => some ((z : Int), l.drop c)
  | .error _ => none
def pInt : Prs Int := fun l => match rd 10 0 0 l with
  | .ok (z, c) => some (uz z, l.drop c)
  | .error _ => none
def pText : Prs ByteArray := fun l => (pNat l).bind fun q => if 65536 < q.1.toNat then none else if q.2.length < q.1.toNat then none else some (strOf (q.2.take q.1.toNat), q.2.drop q.1.toNat)
def pRep {α : Type} (p : Prs α) : Nat → Prs (List α)
  | 0, l => some ([], l)
  | n + 1, l => (p l).bind fun q => (pRep p n q.2).bind fun s => some (q.1 :: s.1, s.2)
def pMany (most : Nat) : Prs Int := fun l => (pNat l).bind fun q => if (most : Int) < q.1 then none else some q
def pList {α : Type} (most : Nat) (p : Prs α) : Prs (List α) := fun l => (pMany most l).bind fun q => pRep p q.1.toNat q.2
def pGlob : Prs GlobR := fun l => (pNat l).bind fun q => (pNat q.2).bind fun s => (pInt s.2).bind fun t => some (⟨q.1, s.1, t.1⟩, t.2)
def pIns : Prs InsR := fun l => (pNat l).bind fun q => (pInt q.2).bind fun s => (pNat s.2).bind fun t => some (⟨q.1, s.1, t.1⟩, t.2)
def pFn : Prs FnR := fun l => (pText l).bind fun q => (pList 8 pNat q.2).bind fun s => (pNat s.2).bind fun t => (pList 32 pNat t.2).bind fun u => (pList 32768 pIns u.2).bind fun v =>
  some (⟨q.1, s.1, t.1, s.1 ++ u.1, v.1⟩, v.2)
def pImg : Prs ImgR := fun l => (pList 64 pGlob l).bind fun q => (pList 64 pFn q.2).bind fun s => some (⟨q.1, s.1⟩, s.2)

/-- The image that the bytes within a frame are. -/
def readI (l : List Nat) : Option ImgR :=
  if l.take 4 = [84, 73, 76, 84] then (pImg (l.drop 4)).bind fun q => if q.2 = [] ∧ imgK q.1 = true then some q.1 else none else none

/-! ### There -/
def kNat (n : Int) : Prop := 0 ≤ n ∧ n < 9223372036854775808
def kInt (n : Int) : Prop := -9223372036854775808 ≤ n ∧ n < 9223372036854775808
def Rt {α : Type} (p : Prs α) (f : α → List Nat) (x : α) : Prop := ∀ r, p (f x ++ r) = some (x, r)

theorem rt_nat {n : Int} (h : kNat n) : Rt pNat natB n := by
  intro r
  obtain ⟨h0, h1⟩ := h
  unfold pNat natB
  rw [rd_num (by omega)]
  simp only [List.drop_left]
  rw [Int.toNat_of_nonneg h0]
theorem rt_int {n : Int} (h : kInt n) : Rt pInt intB n := by
  intro r
  unfold pInt intB
  rw [rd_int (zz_lt h.1 h.2)]
  simp only [List.drop_left, uz_zz]
theorem rt_rep {α : Type} {p : Prs α} {f : α → List Nat} : ∀ {l : List α}, (∀ x ∈ l, Rt p f x) → ∀ r, pRep p l.length (l.flatMap f ++ r) = some (l, r)
  | [], _, r => by simp [pRep]
  | x :: l, h, r => by
    have h1 := h x List.mem_cons_self
    have h2 := rt_rep (p := p) (f := f) (l := l) (fun y hy => h y (List.mem_cons_of_mem _ hy)) r
    simp only [List.length_cons, pRep, List.flatMap_cons, List.append_assoc]
    rw [h1]
    simp [h2]
theorem rt_list {α : Type} {p : Prs α} {f : α → List Nat} {most : Nat} {l : List α} (h : ∀ x ∈ l, Rt p f x) (hm : l.length ≤ most) (hk : most < 9223372036854775808) : Rt (pList most p) (listB f) l := by
  intro r
  have h1 := rt_nat (n := (l.length : Int)) ⟨by omega, by omega⟩ (l.flatMap f ++ r)
  unfold natB at h1
  rw [Int.toNat_natCast] at h1
  unfold pList pMany listB
  rw [List.append_assoc, h1]
  simp only [Option.bind_some]
  rw [if_neg (by omega)]
  simp only [Option.bind_some, Int.toNat_natCast]
  exact rt_rep h r
theorem rt_text {s : ByteArray} (h : s.size ≤ 65536) : Rt pText textB' s := by
  intro r
  have h1 := rt_nat (n := (s.size : Int)) ⟨by omega, by omega⟩ (bytesOf s ++ r)
  unfold natB at h1
  rw [Int.toNat_natCast] at h1
  unfold pText textB'
  rw [List.append_assoc, h1]
  simp only [Option.bind_some, Int.toNat_natCast]
  rw [if_neg (by omega), if_neg (by rw [List.length_append, bytesOf_length]; omega)]
  have e := bytesOf_length s
  rw [← e, List.take_left, List.drop_left, strOf_bytesOf]

theorem typeK_nat {t : Int} (h : typeK t = true) : kNat t := by
  simp only [typeK, Bool.and_eq_true, decide_eq_true_eq] at h
  exact ⟨by omega, by omega⟩
theorem rt_glob {g : GlobR} (h : globK g = true) (hv : kInt g.val) : Rt pGlob globB g := by
  intro r
  simp only [globK, Bool.and_eq_true, Bool.not_eq_true', decide_eq_false_iff_not] at h
  obtain ⟨h1, h2, h3, _⟩ := h
  unfold pGlob globB
  simp only [List.append_assoc]
  rw [rt_nat (typeK_nat h1)]
  simp only [Option.bind_some]
  rw [rt_nat (n := g.size) ⟨by omega, by omega⟩]
  simp only [Option.bind_some]
  rw [rt_int hv]
  simp only [Option.bind_some]
theorem rt_ins {i : InsR} (h : insK i = true) (hv : kInt i.a) : Rt pIns insB i := by
  intro r
  simp only [insK, Bool.and_eq_true, Bool.not_eq_true', decide_eq_false_iff_not] at h
  obtain ⟨h1, h2, h3, h4⟩ := h
  unfold pIns insB
  simp only [List.append_assoc]
  rw [rt_nat (n := i.op) ⟨by omega, by omega⟩]
  simp only [Option.bind_some]
  rw [rt_int hv]
  simp only [Option.bind_some]
  rw [rt_nat (n := i.b) ⟨by omega, by omega⟩]
  simp only [Option.bind_some]

/-- The numbers are those of 64 bits. -/
structure FnR.wide (f : FnR) : Prop where
  result : kInt f.result
  params : ∀ n ∈ f.params, kInt n
  locals : ∀ n ∈ f.locals, kInt n
  code : ∀ i ∈ f.code, kInt i.op ∧ kInt i.a ∧ kInt i.b
structure ImgR.wide (x : ImgR) : Prop where
  globs : ∀ g ∈ x.globs, kInt g.ty ∧ kInt g.size ∧ kInt g.val
  fns : ∀ f ∈ x.fns, f.wide

structure FnR.good (f : FnR) : Prop where
  name : nameK f.name = true
  size : 1 ≤ f.name.size ∧ f.name.size ≤ 24
  params : ∀ t ∈ f.params, typeK t = true
  locals : ∀ t ∈ f.locals, typeK t = true
  result : typeK f.result = true ∨ f.result = 0
  np : f.params.length ≤ 8
  nl : f.locals.length ≤ 32
  le : f.params.length ≤ f.locals.length
  nc : f.code.length ≤ 32768
  head : f.locals.take f.params.length = f.params
  code : ∀ i ∈ f.code, insK i = true
theorem fnK_iff {f : FnR} : fnK f = true ↔ f.good := by
  constructor
  · intro h
    simp only [fnK, headK, Bool.and_eq_true, Bool.or_eq_true, decide_eq_true_eq, List.all_eq_true, beq_iff_eq] at h
    obtain ⟨⟨h1, h2, h3, h4, h5, h6, h7, h8⟩, h9, h10⟩ := h
    refine ⟨h1, ?_, h2, h3, h4, h5, h6, h7, h8, h9, h10⟩
    simp only [nameK, Bool.and_eq_true, decide_eq_true_eq] at h1
    exact h1.2.2
  · rintro ⟨h1, _, h2, h3, h4, h5, h6, h7, h8, h9, h10⟩
    simp only [fnK, headK, Bool.and_eq_true, Bool.or_eq_true, decide_eq_true_eq, List.all_eq_true, beq_iff_eq]
    exact ⟨⟨h1, h2, h3, h4, h5, h6, h7, h8⟩, h9, h10⟩

theorem rt_fn {f : FnR} (h : fnK f = true) (hw : f.wide) : Rt pFn fnB f := by
  intro r
  have g := fnK_iff.1 h
  have hres : kNat f.result := by
    rcases g.result with h | h
    · exact typeK_nat h
    · rw [h]; exact ⟨by omega, by omega⟩
  unfold pFn fnB
  simp only [List.append_assoc]
  rw [rt_text (by have := g.size; omega)]
  simp only [Option.bind_some]
  rw [rt_list (fun x hx => rt_nat (typeK_nat (g.params x hx))) g.np (by omega)]
  simp only [Option.bind_some]
  rw [rt_nat hres]
  simp only [Option.bind_some]
  rw [rt_list (fun x hx => rt_nat (typeK_nat (g.locals x (List.mem_of_mem_drop hx)))) (by rw [List.length_drop]; have := g.nl; omega) (by omega)]
  simp only [Option.bind_some]
  rw [rt_list (fun x hx => rt_ins (g.code x hx) (hw.code x hx).2.1) g.nc (by omega)]
  simp only [Option.bind_some]
  congr 2
  have e := List.take_append_drop f.params.length f.locals
  rw [g.head] at e
  rw [e]

theorem imgK_iff {x : ImgR} : imgK x = true ↔ x.globs.length ≤ 64 ∧ x.fns.length ≤ 64 ∧ (∀ g ∈ x.globs, globK g = true) ∧ (∀ f ∈ x.fns, fnK f = true) := by
  simp only [imgK, Bool.and_eq_true, decide_eq_true_eq, List.all_eq_true]

/-- What was written is read. -/
theorem read_img {x : ImgR} (h : imgK x = true) (hw : x.wide) : readI (imgB x) = some x := by
  obtain ⟨h1, h2, h3, h4⟩ := imgK_iff.1 h
  have e1 : (imgB x).take 4 = [84, 73, 76, 84] := rfl
  have e2 : (imgB x).drop 4 = bodyI x := rfl
  unfold readI
  rw [if_pos e1, e2]
  have hg := rt_list (p := pGlob) (f := globB) (most := 64) (l := x.globs) (fun g hg => rt_glob (h3 g hg) (hw.globs g hg).2.2) h1 (by omega)
  have hf := rt_list (p := pFn) (f := fnB) (most := 64) (l := x.fns) (fun f hf => rt_fn (h4 f hf) (hw.fns f hf)) h2 (by omega) []
  unfold pImg bodyI
  rw [hg]
  simp only [Option.bind_some]
  rw [List.append_nil] at hf
  rw [hf]
  simp only [Option.bind_some]
  rw [if_pos ⟨trivial, h⟩]

/-! ### And back -/
def Bk {α : Type} (p : Prs α) (f : α → List Nat) (K : α → Prop) : Prop := ∀ l x r, (∀ y ∈ l, y < 256) → p l = some (x, r) → l = f x ++ r ∧ K x

theorem bk_nat : Bk pNat natB kNat := by
  intro l x r hl h
  unfold pNat at h
  cases hr : rd 9 0 0 l with
  | error e => rw [hr] at h; cases h
  | ok q =>
    obtain ⟨z, c⟩ := q
    rw [hr] at h
    injection h with h
    injection h with h1 h2
    subst h1 h2
    obtain ⟨b1, b2, b3, b4⟩ := rd_back hl hr
    have hlt := (rd_lt 9 l 0 0 z c (by omega) (by omega) (by decide) (by omega) hr).2 b4
    refine ⟨?_, by omega, by omega⟩
    unfold natB
    rw [Int.toNat_natCast, b2, List.take_append_drop]
theorem bk_int : Bk pInt intB kInt := by
  intro l x r hl h
  unfold pInt at h
  cases hr : rd 10 0 0 l with
  | error e => rw [hr] at h; cases h
  | ok q =>
    obtain ⟨z, c⟩ := q
    rw [hr] at h
    injection h with h
    injection h with h1 h2
    subst h1 h2
    obtain ⟨b1, b2, b3, b4⟩ := rd_back hl hr
    have hlt := rd_lt64 hr
    refine ⟨?_, ?_⟩
    · unfold intB
      rw [zz_uz, b2, List.take_append_drop]
    · unfold kInt uz
      split <;> omega
theorem bytes_tail {l a r : List Nat} (hl : ∀ y ∈ l, y < 256) (h : l = a ++ r) : ∀ y ∈ r, y < 256 := fun y hy => hl y (by rw [h]; exact List.mem_append_right _ hy)
theorem bk_text : Bk pText textB' (fun s => s.size ≤ 65536) := by
  intro l x r hl h
  unfold pText at h
  rw [Option.bind_eq_some_iff] at h
  obtain ⟨⟨n, l1⟩, h1, h2⟩ := h
  obtain ⟨e1, k1⟩ := bk_nat l n l1 hl h1
  have hl1 := bytes_tail hl e1
  simp only at h2
  split at h2
  · cases h2
  · split at h2
    · cases h2
    · injection h2 with h2
      injection h2 with h3 h4
      subst h3 h4
      have hb := bytesOf_strOf (l := l1.take n.toNat) (fun y hy => hl1 y (List.mem_of_mem_take hy))
      have hs : (strOf (l1.take n.toNat)).size = n.toNat := by
        rw [← bytesOf_length, hb, List.length_take]; omega
      refine ⟨?_, by omega⟩
      unfold textB'
      rw [hb, hs, List.append_assoc, List.take_append_drop]
      exact e1
theorem bk_rep {α : Type} {p : Prs α} {f : α → List Nat} {K : α → Prop} (hp : Bk p f K) : ∀ (n : Nat) l x r, (∀ y ∈ l, y < 256) → pRep p n l = some (x, r) → l = x.flatMap f ++ r ∧ x.length = n ∧ ∀ y ∈ x, K y
  | 0, l, x, r, hl, h => by
    unfold pRep at h
    injection h with h
    injection h with h1 h2
    subst h1 h2
    exact ⟨rfl, rfl, fun y hy => by cases hy⟩
  | n + 1, l, x, r, hl, h => by
    unfold pRep at h
    rw [Option.bind_eq_some_iff] at h
    obtain ⟨⟨y, l1⟩, h1, h2⟩ := h
    rw [Option.bind_eq_some_iff] at h2
    obtain ⟨⟨ys, l2⟩, h3, h4⟩ := h2
    injection h4 with h4
    injection h4 with h5 h6
    subst h5 h6
    obtain ⟨e1, k1⟩ := hp l y l1 hl h1
    obtain ⟨e2, k2, k3⟩ := bk_rep hp n l1 ys l2 (bytes_tail hl e1) h3
    refine ⟨?_, by rw [List.length_cons, k2], fun z hz => ?_⟩
    · rw [List.flatMap_cons, List.append_assoc, ← e2]; exact e1
    · rcases List.mem_cons.1 hz with rfl | hz
      · exact k1
      · exact k3 z hz
theorem bk_list {α : Type} {p : Prs α} {f : α → List Nat} {K : α → Prop} {most : Nat} (hp : Bk p f K) : Bk (pList most p) (listB f) (fun x => x.length ≤ most ∧ ∀ y ∈ x, K y) := by
  intro l x r hl h
  unfold pList pMany at h
  rw [Option.bind_eq_some_iff] at h
  obtain ⟨⟨n, l1⟩, h1, h2⟩ := h
  rw [Option.bind_eq_some_iff] at h1
  obtain ⟨⟨n', l1'⟩, h3, h4⟩ := h1
  simp only at h4
  split at h4
  · cases h4
  · injection h4 with h4
    injection h4 with h5 h6
    subst h5 h6
    obtain ⟨e1, k1⟩ := bk_nat l _ _ hl h3
    obtain ⟨e2, k2, k3⟩ := bk_rep hp _ _ x r (bytes_tail hl e1) h2
    obtain ⟨g0, g1⟩ := k1
    have hlen : x.length = n'.toNat := k2
    refine ⟨?_, by omega, k3⟩
    unfold listB
    rw [List.append_assoc, ← e2, hlen]
    exact e1
theorem bk_glob : Bk pGlob globB (fun g => kNat g.ty ∧ kNat g.size ∧ kInt g.val) := by
  intro l x r hl h
  unfold pGlob at h
  simp only [Option.bind_eq_some_iff] at h
  obtain ⟨⟨n1, l1⟩, h1, ⟨n2, l2⟩, h2, ⟨n3, l3⟩, h3, h4⟩ := h
  injection h4 with h4
  injection h4 with h5 h6
  subst h5 h6
  obtain ⟨e1, k1⟩ := bk_nat l _ _ hl h1
  have hl1 := bytes_tail hl e1
  obtain ⟨e2, k2⟩ := bk_nat _ _ _ hl1 h2
  have hl2 := bytes_tail hl1 e2
  obtain ⟨e3, k3⟩ := bk_int _ _ _ hl2 h3
  refine ⟨?_, k1, k2, k3⟩
  unfold globB
  simp only [List.append_assoc]
  rw [← e3, ← e2]
  exact e1
theorem bk_ins : Bk pIns insB (fun i => kNat i.op ∧ kInt i.a ∧ kNat i.b) := by
  intro l x r hl h
  unfold pIns at h
  simp only [Option.bind_eq_some_iff] at h
  obtain ⟨⟨n1, l1⟩, h1, ⟨n2, l2⟩, h2, ⟨n3, l3⟩, h3, h4⟩ := h
  injection h4 with h4
  injection h4 with h5 h6
  subst h5 h6
  obtain ⟨e1, k1⟩ := bk_nat l _ _ hl h1
  have hl1 := bytes_tail hl e1
  obtain ⟨e2, k2⟩ := bk_int _ _ _ hl1 h2
  have hl2 := bytes_tail hl1 e2
  obtain ⟨e3, k3⟩ := bk_nat _ _ _ hl2 h3
  refine ⟨?_, k1, k2, k3⟩
  unfold insB
  simp only [List.append_assoc]
  rw [← e3, ← e2]
  exact e1
theorem kInt_of {n : Int} (h : kNat n) : kInt n := ⟨by have := h.1; omega, h.2⟩
theorem bk_fn : Bk pFn fnB (fun f => f.wide ∧ f.locals.take f.params.length = f.params) := by
  intro l x r hl h
  unfold pFn at h
  simp only [Option.bind_eq_some_iff] at h
  obtain ⟨⟨n1, l1⟩, h1, ⟨n2, l2⟩, h2, ⟨n3, l3⟩, h3, ⟨n4, l4⟩, h4, ⟨n5, l5⟩, h5, h6⟩ := h
  injection h6 with h6
  injection h6 with h7 h8
  subst h7 h8
  obtain ⟨e1, k1⟩ := bk_text l _ _ hl h1
  have hl1 := bytes_tail hl e1
  obtain ⟨e2, k2, k2'⟩ := bk_list bk_nat _ _ _ hl1 h2
  have hl2 := bytes_tail hl1 e2
  obtain ⟨e3, k3⟩ := bk_nat _ _ _ hl2 h3
  have hl3 := bytes_tail hl2 e3
  obtain ⟨e4, k4, k4'⟩ := bk_list bk_nat _ _ _ hl3 h4
  have hl4 := bytes_tail hl3 e4
  obtain ⟨e5, k5, k5'⟩ := bk_list bk_ins _ _ _ hl4 h5
  refine ⟨?_, ⟨kInt_of k3, fun n hn => kInt_of (k2' n hn), fun n hn => ?_, fun i hi => ⟨kInt_of (k5' i hi).1, (k5' i hi).2.1, kInt_of (k5' i hi).2.2⟩⟩, List.take_left⟩
  · unfold fnB
    simp only [List.append_assoc, List.drop_left]
    rw [← e5, ← e4, ← e3, ← e2]
    exact e1
  · rcases List.mem_append.1 hn with h | h
    · exact kInt_of (k2' n h)
    · exact kInt_of (k4' n h)
theorem bk_img : Bk pImg bodyI (fun x => x.wide) := by
  intro l x r hl h
  unfold pImg at h
  simp only [Option.bind_eq_some_iff] at h
  obtain ⟨⟨n1, l1⟩, h1, ⟨n2, l2⟩, h2, h3⟩ := h
  injection h3 with h3
  injection h3 with h4 h5
  subst h4 h5
  obtain ⟨e1, k1, k1'⟩ := bk_list bk_glob l _ _ hl h1
  have hl1 := bytes_tail hl e1
  obtain ⟨e2, k2, k2'⟩ := bk_list bk_fn _ _ _ hl1 h2
  refine ⟨?_, ⟨fun g hg => ⟨kInt_of (k1' g hg).1, kInt_of (k1' g hg).2.1, (k1' g hg).2.2⟩, fun f hf => (k2' f hf).1⟩⟩
  unfold bodyI
  simp only [List.append_assoc]
  rw [← e2]
  exact e1

/-- What is read was written just so. -/
theorem img_read {l : List Nat} {x : ImgR} (hl : ∀ y ∈ l, y < 256) (h : readI l = some x) : l = imgB x ∧ imgK x = true ∧ x.wide := by
  unfold readI at h
  split at h
  · rename_i hm
    rw [Option.bind_eq_some_iff] at h
    obtain ⟨⟨y, r⟩, h1, h2⟩ := h
    simp only at h2
    split at h2
    · rename_i hc
      injection h2 with h2
      subst h2
      obtain ⟨rfl, hk⟩ := hc
      obtain ⟨e, w⟩ := bk_img _ _ _ (fun y hy => hl y (List.mem_of_mem_drop hy)) h1
      refine ⟨?_, hk, w⟩
      unfold imgB
      rw [List.append_nil] at e
      rw [← e, ← hm, List.take_append_drop]
    · cases h2
  · cases h

theorem imgB_lt {x : ImgR} : ∀ y ∈ imgB x, y < 256 := by
  have hn : ∀ (n : Int), ∀ y ∈ natB n, y < 256 := fun n => vn_lt _
  have hi : ∀ (n : Int), ∀ y ∈ intB n, y < 256 := fun n => vn_lt _
  have hl : ∀ {α : Type} (f : α → List Nat) (l : List α), (∀ x, ∀ y ∈ f x, y < 256) → ∀ y ∈ listB f l, y < 256 := by
    intro α f l h y hy
    rcases List.mem_append.1 hy with hy | hy
    · exact vn_lt _ y hy
    · obtain ⟨z, _, hz⟩ := List.mem_flatMap.1 hy
      exact h z y hz
  have hg : ∀ (g : GlobR), ∀ y ∈ globB g, y < 256 := by
    intro g y hy
    unfold globB at hy
    simp only [List.mem_append] at hy
    rcases hy with h | h | h
    · exact hn _ y h
    · exact hn _ y h
    · exact hi _ y h
  have hs : ∀ (g : InsR), ∀ y ∈ insB g, y < 256 := by
    intro g y hy
    unfold insB at hy
    simp only [List.mem_append] at hy
    rcases hy with h | h | h
    · exact hn _ y h
    · exact hi _ y h
    · exact hn _ y h
  have hf : ∀ (f : FnR), ∀ y ∈ fnB f, y < 256 := by
    intro f y hy
    unfold fnB textB' at hy
    simp only [List.mem_append] at hy
    rcases hy with (h | h) | h | h | h | h
    · exact vn_lt _ y h
    · exact bytesOf_lt _ y h
    · exact hl _ _ (fun x => hn x) y h
    · exact hn _ y h
    · exact hl _ _ (fun x => hn x) y h
    · exact hl _ _ hs y h
  intro y hy
  unfold imgB bodyI at hy
  simp only [List.mem_append] at hy
  rcases hy with h | h | h
  · simp only [List.mem_cons, List.not_mem_nil, or_false] at h; omega
  · exact hl _ _ hg y h
  · exact hl _ _ hf y h

end Go.Proofs.YtebdjahcahgafaaDoor
