/- awake: the program answers at the chapter's example. -/
import Derived.Test.YtebdjahcahgafaaDoorPEnc
import Derived.Test.YtebdjahcahgafaaDoorPDecM
import Derived.Test.YtebdjahcahgafaaDoorISame
import Derived.Test.YtebdjahcahgafaaDoorLBack
namespace Go.Proofs.YtebdjahcahgafaaDoor
open Go.RowKit

theorem Shows.blk {w : World} {g : Nat} {t : TypeId} {cs : List Value} {k n : Nat} (h : Blk w g t cs.toArray) (hl : cs.length = n * k) : Shows w (.slice (some ⟨g, 0, none⟩) n n) k n cs := by
  refine ⟨hl, _, _, rfl, Nat.le_refl _, fun _ => ⟨g, 0, rfl, h.lt, fun j u hu => ?_⟩⟩
  rw [Nat.zero_add, h.cell]
  simpa using hu

def awG : GlobR := ⟨1, 0, -3⟩
def awI : InsR := ⟨32, 0, 0⟩
def awF : FnR := ⟨⟨#[102]⟩, [], 0, [], [awI]⟩
def awX : ImgR := ⟨[awG], [awF]⟩
def awN : FnR := ⟨⟨#[]⟩, [], 0, [], []⟩
def awY : ImgR := ⟨[], [awN]⟩
theorem awX_K : imgK awX = true := by kernel_rfl
theorem awX_B : imgB awX = [84, 73, 76, 84, 1, 1, 0, 5, 1, 1, 102, 0, 0, 0, 1, 32, 0, 0] := by kernel_rfl
theorem awX_e : encE awX = 0 := by unfold encE; rw [if_pos awX_K, if_neg (by rw [frame_length, awX_B]; decide)]
theorem awX_i : encI awX = frame (imgB awX) := by unfold encI; rw [if_pos awX_K, if_neg (by rw [frame_length, awX_B]; decide)]
theorem awX_s : awX.small := ⟨by decide, by decide, fun f hf => by
  rw [show f = awF by simpa [awX] using hf]
  exact ⟨by decide, by decide, by decide, by decide⟩⟩
theorem awX_w : awX.wide := ⟨fun g hg => by
  rw [show g = awG by simpa [awX] using hg]
  exact ⟨⟨by decide, by decide⟩, ⟨by decide, by decide⟩, ⟨by decide, by decide⟩⟩, fun f hf => by
  rw [show f = awF by simpa [awX] using hf]
  exact ⟨⟨by decide, by decide⟩, fun n hn => by simp [awF] at hn, fun n hn => by simp [awF] at hn, fun i hi => by
    rw [show i = awI by simpa [awF] using hi]
    exact ⟨⟨by decide, by decide⟩, ⟨by decide, by decide⟩, ⟨by decide, by decide⟩⟩⟩⟩
theorem awX_d : decE (frame (imgB awX)) = 0 ∧ decX (frame (imgB awX)) = awX := by
  obtain ⟨_, h2, h3, h4⟩ := enc_ok awX_w awX_e
  rw [h2] at h3 h4
  exact ⟨h3, h4⟩
theorem awY_e : encE awY = 150 := by unfold encE; rw [if_neg (by rw [show imgK awY = false by kernel_rfl]; decide)]
theorem awY_s : awY.small := ⟨by decide, by decide, fun f hf => by
  rw [show f = awN by simpa [awY] using hf]
  exact ⟨by decide, by decide, by decide, by decide⟩⟩
theorem awY_w : awY.wide := ⟨fun g hg => by simp [awY] at hg, fun f hf => by
  rw [show f = awN by simpa [awY] using hf]
  exact ⟨⟨by decide, by decide⟩, fun n hn => by simp [awN] at hn, fun n hn => by simp [awN] at hn, fun i hi => by simp [awN] at hi⟩⟩
theorem aw_magic : decE [84, 73, 76, 84] = 150 := by kernel_rfl

theorem awX_shows {w : World} {b0 b1 b2 : Nat} (h0 : Blk w b0 48 #[.int .i64 1, .int .i64 0, .int .i64 (-3)]) (h1 : Blk w b1 50 #[.int .i64 32, .int .i64 0, .int .i64 0]) (h2 : Blk w b2 54 #[.string ⟨#[102]⟩, .slice none 0 0, .int .i64 0, .slice none 0 0, .slice (some ⟨b1, 0, none⟩) 1 1]) :
    ImgShows w (.slice (some ⟨b0, 0, none⟩) 1 1) (.slice (some ⟨b2, 0, none⟩) 1 1) awX := by
  refine ⟨Shows.blk (cs := globsV [awG]) h0 rfl, [(.slice none 0 0, .slice none 0 0, .slice (some ⟨b1, 0, none⟩) 1 1)], rfl, Shows.blk (cs := fnsV [awF] [(.slice none 0 0, .slice none 0 0, .slice (some ⟨b1, 0, none⟩) 1 1)]) h2 rfl, fun i f t hf ht => ?_⟩
  have hi : i = 0 := by
    have := (List.getElem?_eq_some_iff.1 hf).1
    simp [awX] at this
    omega
  subst hi
  simp [awX] at hf
  simp at ht
  subst hf ht
  exact ⟨Shows.nil _ _, Shows.nil _ _, Shows.blk (cs := codeV [awI]) h1 rfl⟩
theorem awY_shows {w : World} {b2 : Nat} (h2 : Blk w b2 54 #[.string ⟨#[]⟩, .slice none 0 0, .int .i64 0, .slice none 0 0, .slice none 0 0]) : ImgShows w (.slice none 0 0) (.slice (some ⟨b2, 0, none⟩) 1 1) awY := by
  refine ⟨Shows.nil _ _, [(.slice none 0 0, .slice none 0 0, .slice none 0 0)], rfl, Shows.blk (cs := fnsV [awN] [(.slice none 0 0, .slice none 0 0, .slice none 0 0)]) h2 rfl, fun i f t hf ht => ?_⟩
  have hi : i = 0 := by
    have := (List.getElem?_eq_some_iff.1 hf).1
    simp [awY] at this
    omega
  subst hi
  simp [awY] at hf
  simp at ht
  subst hf ht
  exact ⟨Shows.nil _ _, Shows.nil _ _, Shows.nil _ _⟩

set_option maxHeartbeats 8000000 in
set_option maxRecDepth 100000 in
theorem qA (w : World) (ht : Tab w) : Calls Tryd.prog 8 #[] w fun e w' => e = .returned (.bool true) ∧ Below w.heap.size w w' := by
  have HT := Lib.hid ht
  clear ht
  go_enter Tryd.func8, Tryd.ntmps8
  have K0 : Blk (w.alloc (.cells #[.int .i64 1, .int .i64 0, .int .i64 (-3)] 48)) w.heap.size 48 #[.int .i64 1, .int .i64 0, .int .i64 (-3)] := Blk.new _ _ _
  have L0 : Below w.heap.size w (w.alloc (.cells #[.int .i64 1, .int .i64 0, .int .i64 (-3)] 48)) := (Below.refl _ _).alloc (Nat.le_refl _) _
  have S0 : (w.alloc (.cells #[.int .i64 1, .int .i64 0, .int .i64 (-3)] 48)).heap.size = w.heap.size + 1 := by simp
  go_upto_region 2 with (fail)
  generalize w.alloc (.cells #[.int .i64 1, .int .i64 0, .int .i64 (-3)] 48) = wa at *
  have K1 := Blk.new wa 50 #[.int .i64 32, .int .i64 0, .int .i64 0]
  have L1 := L0.alloc (by omega) (.cells #[.int .i64 32, .int .i64 0, .int .i64 0] 50)
  have S1 : (wa.alloc (.cells #[.int .i64 32, .int .i64 0, .int .i64 0] 50)).heap.size = w.heap.size + 1 + 1 := by simp [S0]
  rw [S0] at K1
  have K0 := K0.alloc (.cells #[.int .i64 32, .int .i64 0, .int .i64 0] 50)
  generalize wa.alloc (.cells #[.int .i64 32, .int .i64 0, .int .i64 0] 50) = wb at *
  have K2 := Blk.new wb 54 #[.string ⟨#[102]⟩, .slice none 0 0, .int .i64 0, .slice none 0 0, .slice (some ⟨w.heap.size + 1, 0, none⟩) 1 1]
  have L2 := L1.alloc (by omega) (.cells #[.string ⟨#[102]⟩, .slice none 0 0, .int .i64 0, .slice none 0 0, .slice (some ⟨w.heap.size + 1, 0, none⟩) 1 1] 54)
  have S2 : (wb.alloc (.cells #[.string ⟨#[102]⟩, .slice none 0 0, .int .i64 0, .slice none 0 0, .slice (some ⟨w.heap.size + 1, 0, none⟩) 1 1] 54)).heap.size = w.heap.size + 1 + 1 + 1 := by simp [S1]
  rw [S1] at K2
  have K0 := K0.alloc (.cells #[.string ⟨#[102]⟩, .slice none 0 0, .int .i64 0, .slice none 0 0, .slice (some ⟨w.heap.size + 1, 0, none⟩) 1 1] 54)
  have K1 := K1.alloc (.cells #[.string ⟨#[102]⟩, .slice none 0 0, .int .i64 0, .slice none 0 0, .slice (some ⟨w.heap.size + 1, 0, none⟩) 1 1] 54)
  generalize wb.alloc (.cells #[.string ⟨#[102]⟩, .slice none 0 0, .int .i64 0, .slice none 0 0, .slice (some ⟨w.heap.size + 1, 0, none⟩) 1 1] 54) = wc at *
  have HI := Lib.hid (awX_shows K0 K1 K2)
  clear S0 S1 K0 K1 K2 L0 L1
  generalize w.heap.size + 1 + 1 = b2 at *
  obtain ⟨b0, hb0⟩ : ∃ b, b = w.heap.size := ⟨_, rfl⟩
  have HI : Hid (ImgShows wc (.slice (some ⟨b0, 0, none⟩) 1 1) (.slice (some ⟨b2, 0, none⟩) 1 1) awX) := by rw [hb0]; exact HI.out
  rw [show (some { block := w.heap.size, off := 0, spot := none } : Option Addr) = some ⟨b0, 0, none⟩ by rw [hb0]]
  have HK := Lib.hid (Blk.new wc 25 #[.slice (some ⟨b0, 0, none⟩) 1 1, .slice (some ⟨b2, 0, none⟩) 1 1])
  have HB := Lib.hid (L2.alloc L2.size (.cells #[.slice (some ⟨b0, 0, none⟩) 1 1, .slice (some ⟨b2, 0, none⟩) 1 1] 25))
  have HI := Lib.hid (HI.out.below ((Below.refl wc.heap.size wc).alloc (Nat.le_refl _) (.cells #[.slice (some ⟨b0, 0, none⟩) 1 1, .slice (some ⟨b2, 0, none⟩) 1 1] 25)))
  rw [← S2]
  clear S2 L2 hb0
  generalize wc.alloc (.cells #[.slice (some ⟨b0, 0, none⟩) 1 1, .slice (some ⟨b2, 0, none⟩) 1 1] 25) = w1 at *
  generalize wc.heap.size = b3 at *
  have k0 := HK.out.cell 0
  have k1 := HK.out.cell 1
  have HQ := Lib.hid (qE _ _ awX w1 (HT.out.below HB.out) HI.out awX_s awX_w)
  rw [awX_e, awX_i] at HQ
  have hlt : ∀ x ∈ frame (imgB awX), x < 256 := frame_lt imgB_lt
  have hln : (frame (imgB awX)).length = 22 := by rw [frame_length, awX_B]; rfl
  obtain ⟨hde, hdx⟩ := awX_d
  have hop : openIs (frame (imgB awX)) = true := by
    unfold openIs
    rw [frame_take]
    simp [hln]
  have hob : openB (frame (imgB awX)) = imgB awX := by
    unfold openB
    rw [frame_take, if_pos ⟨rfl, by omega⟩]
  have HLt := Lib.hid hlt
  have HLn := Lib.hid hln
  have HDe := Lib.hid hde
  have HDx := Lib.hid hdx
  have HOp := Lib.hid hop
  have HOb := Lib.hid hob
  clear hlt hln hde hdx hop hob
  obtain ⟨fr, hfr⟩ : ∃ fr, fr = frame (imgB awX) := ⟨_, rfl⟩
  rw [← hfr] at HQ HLt HLn HDe HDx HOp HOb
  clear hfr
  go_wp2_with fail
  refine HQ.out.mono ?_
  rintro e w2 ⟨u, rfl, Au, Fu, hf, hb⟩
  have hval := hf.val
  have HS := Lib.hid hf.sl
  have HB2 := Lib.hid (HB.out.trans (hb.mono HB.out.size))
  have HK2 := Lib.hid (HK.out.below hb HK.out.lt)
  have HI2 := Lib.hid (HI.out.below hb)
  obtain ⟨nf, hnf⟩ : ∃ k, k = fr.length := ⟨_, rfl⟩
  rw [← hnf] at hval
  subst hval
  clear hf hb HQ HB HK HI k0 k1 hnf
  have HD := Lib.hid (qD _ fr w2 (HT.out.below HB2.out) HS.out (by have := HLn.out; omega) HLt.out)
  go_wp2_with fail
  refine HD.out.mono ?_
  rintro e w3 hdr
  obtain ⟨hb3, gv, fv, he3, ho3⟩ := dec_own hdr
  rw [HDe.out] at he3
  rw [HDx.out] at ho3
  obtain rfl := he3
  have HS3 := Lib.hid (HS.out.below hb3)
  have HB3 := Lib.hid (HB2.out.trans (hb3.mono HB2.out.size))
  have HK3 := Lib.hid (HK2.out.below hb3 HK2.out.lt)
  have HI3 := Lib.hid (HI2.out.below hb3)
  have hsh3 := ho3.shows
  obtain ⟨Ag, cg, hg, _⟩ := hsh3.globs.slice
  subst hg
  obtain ⟨_, _, _, hf0, _⟩ := hsh3
  obtain ⟨Af, cf, hg, _⟩ := hf0.slice
  subst hg
  have HO3 := Lib.hid ho3.shows
  clear hdr hb3 ho3 hf0 HD HS HB2 HK2 HI2
  have e1 : awX.globs.length = 1 := rfl
  have e2 : awX.fns.length = 1 := rfl
  rw [e1, e2] at *
  have hb4 : Below w3.heap.size w3 (w3.alloc (.cells #[.slice Ag 1 cg, .slice Af 1 cf] 25)) := (Below.refl _ _).alloc (Nat.le_refl _) _
  have HS4 := Lib.hid (HS3.out.below hb4)
  have HB4 := Lib.hid (HB3.out.trans (hb4.mono HB3.out.size))
  have HK4 := Lib.hid (HK3.out.below hb4 HK3.out.lt)
  have HI4 := Lib.hid (HI3.out.below hb4)
  have HO4 := Lib.hid (HO3.out.below hb4)
  have HY4 := Lib.hid (Blk.new w3 25 #[.slice Ag 1 cg, .slice Af 1 cf])
  clear hb4 HS3 HB3 HK3 HI3 HO3
  go_upto_region 4 with (fail)
  generalize w3.alloc (.cells #[.slice Ag 1 cg, .slice Af 1 cf] 25) = w4 at *
  generalize w3.heap.size = b4 at *
  have k0 := HK4.out.cell 0
  have k1 := HK4.out.cell 1
  have y0 := HY4.out.cell 0
  have y1 := HY4.out.cell 1
  have HSa := Lib.hid (rsame_c _ _ _ _ awX awX w4 HI4.out HO4.out awX_s awX_s)
  go_wp2_with fail
  refine HSa.out.mono ?_
  rintro e w5 ⟨⟨r, rfl, hr⟩, hb5⟩
  obtain rfl : r = true := hr.2 rfl
  have HS5 := Lib.hid (HS4.out.below hb5)
  have HB5 := Lib.hid (HB4.out.trans (hb5.mono HB4.out.size))
  clear hr hb5 HS4 HB4 HK4 HI4 HO4 HY4 k0 k1 y0 y1 HSa
  have HOpn := Lib.hid (open_u HS5.out (HT.out.below HB5.out) (by have := HLn.out; omega) HLt.out)
  rw [HOp.out, HOb.out] at HOpn
  go_wp2_with fail
  refine HOpn.out.mono ?_
  rintro e w6 ⟨u6, rfl, A6, F6, hf6, hb6⟩
  have hval := hf6.val
  have hcv6 := hf6.sl
  have HB6 := Lib.hid (HB5.out.trans (hb6.mono HB5.out.size))
  have hl18 : (imgB awX).length = 18 := by rw [awX_B]; rfl
  rw [hl18] at hval
  subst hval
  have HS6 := Lib.hid hcv6
  clear hf6 hb6 hcv6 HOpn HS5 HB5 hl18
  have hcm := conv_magic w6
  have hb7 : Below w6.heap.size w6 (w6.alloc (.cells #[.int .u8 84, .int .u8 73, .int .u8 76, .int .u8 84] 5 (4, 5))) := (Below.refl _ _).alloc (Nat.le_refl _) _
  have HS7 := Lib.hid (HS6.out.below hb7)
  have HB7 := Lib.hid (HB6.out.trans (hb7.mono HB6.out.size))
  have HM7 := Lib.hid (mark_sl w6 [84, 73, 76, 84] (4, 5) 4 rfl)
  have HM7 : Hid (SlB (w6.alloc (.cells #[.int .u8 84, .int .u8 73, .int .u8 76, .int .u8 84] 5 (4, 5))) (.slice (some ⟨w6.heap.size, 0, none⟩) 4 4) [84, 73, 76, 84]) := HM7.out
  clear hb7 HS6 HB6
  go_wp2_with fail
  clear hcm
  generalize w6.alloc (.cells #[.int .u8 84, .int .u8 73, .int .u8 76, .int .u8 84] 5 (4, 5)) = w7 at *
  generalize w6.heap.size = b6 at *
  refine (qD _ [84, 73, 76, 84] w7 (HT.out.below HB7.out) HM7.out (by decide) (by decide)).mono ?_
  rintro e w8 hdr
  obtain ⟨hb8, gv8, fv8, he8, ho8⟩ := dec_own hdr
  rw [aw_magic] at he8
  obtain rfl := he8
  have hsh8 := ho8.shows
  obtain ⟨Ag8, cg8, hg, _⟩ := hsh8.globs.slice
  subst hg
  obtain ⟨_, _, _, hf0, _⟩ := hsh8
  obtain ⟨Af8, cf8, hg, _⟩ := hf0.slice
  subst hg
  have HS8 := Lib.hid (HS7.out.below hb8)
  have HB8 := Lib.hid (HB7.out.trans (hb8.mono HB7.out.size))
  clear hdr hb8 ho8 hf0 HS7 HB7 HM7
  generalize (decX [84, 73, 76, 84]).globs.length = ng8 at *
  generalize (decX [84, 73, 76, 84]).fns.length = nf8 at *
  have hb9 : Below w8.heap.size w8 (w8.alloc (.cells #[.slice Ag8 ng8 cg8, .slice Af8 nf8 cf8] 25)) := (Below.refl _ _).alloc (Nat.le_refl _) _
  have HS9 := Lib.hid (HS8.out.below hb9)
  have HB9 := Lib.hid (HB8.out.trans (hb9.mono HB8.out.size))
  clear hb9 HS8 HB8
  go_upto_region 7 with (fail)
  generalize w8.alloc (.cells #[.slice Ag8 ng8 cg8, .slice Af8 nf8 cf8] 25) = w9 at *
  have hcv := HS9.out.conv
  rw [awX_B] at hcv
  have hstr : ((strOf [84, 73, 76, 84, 1, 1, 0, 5, 1, 1, 102, 0, 0, 0, 1, 32, 0, 0]).toList == ([84, 73, 76, 84, 1, 1, 0, 5, 1, 1, 102, 0, 0, 0, 1, 32, 0, 0] : List UInt8)) = true := by kernel_rfl
  generalize strOf [84, 73, 76, 84, 1, 1, 0, 5, 1, 1, 102, 0, 0, 0, 1, 32, 0, 0] = sx at *
  have hb10 : Below w9.heap.size w9 (w9.alloc (.cells #[.string ⟨#[]⟩, .slice none 0 0, .int .i64 0, .slice none 0 0, .slice none 0 0] 54)) := (Below.refl _ _).alloc (Nat.le_refl _) _
  have HB10 := Lib.hid (HB9.out.trans (hb10.mono HB9.out.size))
  have HR := Lib.hid (qR _ _ awY _ (HT.out.below HB10.out) (awY_shows (Blk.new w9 54 _)) awY_s awY_w)
  rw [awY_e] at HR
  clear hb10
  go_wp2_with fail
  refine HR.out.mono ?_
  rintro e w10 ⟨rfl, hb11⟩
  have HB11 := Lib.hid (HB10.out.trans (hb11.mono HB10.out.size))
  clear hb11 HR
  go_wp2_with fail
  go_ret
  exact ⟨rfl, HB11.out⟩


end Go.Proofs.YtebdjahcahgafaaDoor
