/- Once, in order; what is acked was told: what the states of two ends keep, whatever the net does. -/
import Derived.Test.YtmlbhlfjaagcaaaDoorHeardWalk
import Derived.Test.YtmlbhlfjaagcaaaDoorWMath
namespace Go.Proofs.YtmlbhlfjaagcaaaDoor
open Go.RowKit

/-- The datagram of part j of message i. -/
structure DgOf (p : Nat) (bss : List (List Nat)) (g : DG) : Prop where
  ex : ∃ i bs, bss[i]? = some bs ∧ g.nu = (p + i) % 65536 ∧ g.ix < manyN bs.length ∧ g.ct = manyN bs.length ∧ g.bs = cutN bs g.ix
def IsDg (p : Nat) (bss : List (List Nat)) (d : List Nat) : Prop := ∃ g, decD d = some g ∧ DgOf p bss g
theorem DgOf.more {p : Nat} {bss : List (List Nat)} {g : DG} (h : DgOf p bss g) (b : List Nat) : DgOf p (bss ++ [b]) g := by
  obtain ⟨i, bs, h1, h2⟩ := h.ex
  exact ⟨i, bs, by rw [List.getElem?_append_left (List.getElem?_eq_some_iff.1 h1).1]; exact h1, h2⟩
theorem IsDg.more {p : Nat} {bss : List (List Nat)} {d : List Nat} (h : IsDg p bss d) (b : List Nat) : IsDg p (bss ++ [b]) d := by
  obtain ⟨g, h1, h2⟩ := h
  exact ⟨g, h1, h2.more b⟩
theorem IsDg.sent {p k : Nat} {bss : List (List Nat)} {s : LS} {b : List Nat} (hr : Ran p k s) (hz : s.zero) (hk : bss.length = k) (hb : b.length ≤ 2000) {j : Nat} (hj : j < manyN b.length) : IsDg p (bss ++ [b]) (dgram s b j) := by
  refine ⟨_, dec_dgram hz hb j hj, ⟨k, b, ?_, hr.next, hj, rfl, rfl⟩⟩
  rw [List.getElem?_append_right (by omega)]
  simp [hk]

/-- What the receiving end keeps: told messages are told; the parts of one that is not older wait. -/
structure BInv (p : Nat) (bss : List (List Nat)) (told : Nat) (s : LS) : Prop where
  so : s.so = decide (0 < told)
  la : 0 < told → s.la = (p + (told - 1)) % 65536
  le : told ≤ bss.length
  ps : s.ps ≠ [] → ∃ i bs, told ≤ i ∧ bss[i]? = some bs ∧ s.nu = (p + i) % 65536 ∧ s.ct = manyN bs.length ∧ ∀ q ∈ s.ps, q.2 = cutN bs q.1

theorem BInv.new (p n : Nat) : BInv p [] 0 (LS.new n) := ⟨rfl, fun h => by omega, Nat.le_refl _, fun h => absurd rfl h⟩
theorem BInv.more {p told : Nat} {bss : List (List Nat)} {s : LS} (h : BInv p bss told s) (b : List Nat) : BInv p (bss ++ [b]) told s :=
  ⟨h.so, h.la, by rw [List.length_append]; have := h.le; omega, fun hp => by
    obtain ⟨i, bs, h1, h2, h3⟩ := h.ps hp
    exact ⟨i, bs, h1, by rw [List.getElem?_append_left (List.getElem?_eq_some_iff.1 h2).1]; exact h2, h3⟩⟩
theorem BInv.of_eq {p told : Nat} {bss : List (List Nat)} {s s' : LS} (h : BInv p bss told s) (h1 : s'.so = s.so) (h2 : s'.la = s.la) (h3 : s'.ps = s.ps) (h4 : s'.nu = s.nu) (h5 : s'.ct = s.ct) : BInv p bss told s' :=
  ⟨by rw [h1]; exact h.so, by rw [h2]; exact h.la, h.le, by rw [h3, h4, h5]; exact h.ps⟩
theorem BInv.send {p told : Nat} {bss : List (List Nat)} {s : LS} (h : BInv p bss told s) : BInv p bss told s.sendS := h.of_eq rfl rfl rfl rfl rfl

theorem ack_rest (s : LS) (n : Nat) : (s.ack n).so = s.so ∧ (s.ack n).la = s.la ∧ (s.ack n).ps = s.ps ∧ (s.ack n).nu = s.nu ∧ (s.ack n).ct = s.ct ∧ (s.ack n).bi = s.bi := by unfold LS.ack; split <;> exact ⟨rfl, rfl, rfl, rfl, rfl, rfl⟩
theorem recTo_rest (s : LS) (la bi : Nat) : ∀ k, (recTo s la bi k).so = s.so ∧ (recTo s la bi k).la = s.la ∧ (recTo s la bi k).ps = s.ps ∧ (recTo s la bi k).nu = s.nu ∧ (recTo s la bi k).ct = s.ct ∧ (recTo s la bi k).bi = s.bi
  | 0 => ack_rest s la
  | k + 1 => by
    unfold recTo
    split
    · obtain ⟨h1, h2, h3, h4, h5, h6⟩ := ack_rest (recTo s la bi k) (aheadN la (k + 1))
      rw [h1, h2, h3, h4, h5, h6]; exact recTo_rest s la bi k
    · exact recTo_rest s la bi k
theorem recd_rest (s : LS) (so : Bool) (la bi : Nat) : (s.recd so la bi).so = s.so ∧ (s.recd so la bi).la = s.la ∧ (s.recd so la bi).ps = s.ps ∧ (s.recd so la bi).nu = s.nu ∧ (s.recd so la bi).ct = s.ct ∧ (s.recd so la bi).bi = s.bi := by
  unfold LS.recd; split
  · exact recTo_rest s la bi 32
  · exact ⟨rfl, rfl, rfl, rfl, rfl, rfl⟩

theorem newer_lt {p i t : Nat} (hi : i < 400) (ht : t < 400) : newerN ((p + i) % 65536) ((p + t) % 65536) = decide (t < i) := by
  unfold newerN aheadN
  rw [Bool.eq_iff_iff]
  simp only [Bool.and_eq_true, decide_eq_true_eq]
  omega
theorem num_inj {p i t : Nat} (hi : i < 400) (ht : t < 400) (h : (p + i) % 65536 = (p + t) % 65536) : i = t := by omega

/-- What the receiving end answers: nothing, or the message i, which is not older than told. -/
def BAns (p : Nat) (bss : List (List Nat)) (told : Nat) (r : RA) : Prop :=
  (r.msg = none ∧ BInv p bss told r.st) ∨ (∃ i bs, told ≤ i ∧ bss[i]? = some bs ∧ r.msg = some bs ∧ BInv p bss (i + 1) r.st ∧ r.st.la = (p + i) % 65536)

theorem nodup_le : ∀ (ct : Nat) (l : List Nat), l.Nodup → (∀ x ∈ l, x < ct) → l.length ≤ ct
  | 0, [], _, _ => by simp
  | 0, a :: r, _, h => absurd (h a (by simp)) (by omega)
  | ct + 1, l, hn, h => by
    have h2 := nodup_le ct (l.erase ct) (hn.erase ct) (fun x hx => by
      have h3 := (List.Nodup.mem_erase_iff hn).1 hx
      have := h x h3.2
      have := h3.1
      omega)
    by_cases hc : ct ∈ l
    · rw [List.length_erase_of_mem hc] at h2; omega
    · rw [List.erase_of_not_mem hc] at h2; omega
theorem keys_all (ct : Nat) (l : List Nat) (hn : l.Nodup) (hl : ∀ x ∈ l, x < ct) (hlen : l.length = ct) : ∀ i, i < ct → i ∈ l := by
  intro i hi
  refine Decidable.byContradiction fun h => ?_
  have := nodup_le ct (i :: l) (List.nodup_cons.2 ⟨h, hn⟩) (fun x hx => by
    rcases List.mem_cons.1 hx with rfl | hx
    · exact hi
    · exact hl x hx)
  simp at this
  omega

theorem msg_parts {bs : List Nat} {ps : List (Nat × List Nat)} (hn : (ps.map (·.1)).Nodup) (hx : ∀ q ∈ ps, q.1 < manyN bs.length) (hq : ∀ q ∈ ps, q.2 = cutN bs q.1) (hl : ps.length = manyN bs.length) : msgTo ps (manyN bs.length) = bs := by
  have e : ps = partsL bs (ps.map (·.1)) := by
    unfold partsL
    rw [List.map_map]
    refine (List.map_id _).symm.trans (List.map_congr_left fun q hq' => ?_)
    show q = (q.1, cutN bs q.1)
    rw [← hq q hq']
  rw [e, msg_all bs _ _ (keys_all _ _ hn (fun x hx' => by obtain ⟨q, h1, rfl⟩ := List.mem_map.1 hx'; exact hx q h1) (by simpa using hl)), take_many]

theorem BInv.same {p told : Nat} {bss : List (List Nat)} {s : LS} (h : BInv p bss told s) (hok : s.ok) {g : DG} (hg : g.ok) {i : Nat} {bs : List Nat} (hi : bss[i]? = some bs) (ht : told ≤ i) (hnu : g.nu = (p + i) % 65536) (hct : g.ct = manyN bs.length) (hbs : g.bs = cutN bs g.ix) (hsame : s.ps ≠ [] → s.nu = g.nu) (hlen : bss.length ≤ 400) : BAns p bss told (s.same g) := by
  have hil := (List.getElem?_eq_some_iff.1 hi).1
  unfold LS.same
  split
  · exact .inl ⟨rfl, h⟩
  · rename_i hc
    split
    · exact .inl ⟨rfl, h⟩
    · rename_i hix
      have hokw := wait_ok hok hg hc hix
      have hcut : ∀ q ∈ (s.wait g).ps, q.2 = cutN bs q.1 := by
        intro q hq
        rcases List.mem_append.1 hq with hq | hq
        · have h0 : s.ps ≠ [] := fun e => by rw [e] at hq; cases hq
          obtain ⟨i2, bs2, a1, a2, a3, a4, a5⟩ := h.ps h0
          have hi2l := (List.getElem?_eq_some_iff.1 a2).1
          have e1 := hsame h0
          rw [a3, hnu] at e1
          have e2 := num_inj (by omega) (by omega) e1
          subst e2
          rw [a2] at hi
          injection hi with hi
          subst hi
          exact a5 q hq
        · obtain rfl : q = (g.ix, g.bs) := by simpa using hq
          exact hbs
      unfold LS.put
      split
      · rename_i hl
        refine .inr ⟨i, bs, ht, hi, ?_, ⟨?_, ?_, ?_, ?_⟩, hnu⟩
        · show some (msgTo (s.wait g).ps g.ct) = some bs
          rw [hct, msg_parts hokw.one (fun q hq => by have := hokw.ix q hq; rw [← hct]; exact this) hcut (by rw [hl, hct])]
        · show true = decide (0 < i + 1); simp
        · intro _; show g.nu = _; rw [hnu]; rfl
        · omega
        · intro h0; exact absurd rfl h0
      · exact .inl ⟨rfl, ⟨h.so, h.la, h.le, fun _ => ⟨i, bs, ht, hi, hnu, hct, hcut⟩⟩⟩

theorem BInv.recv {p told : Nat} {bss : List (List Nat)} {s : LS} (h : BInv p bss told s) (hok : s.ok) {d : List Nat} (hby : ∀ x ∈ d, x < 256) (hd : IsDg p bss d) (hlen : bss.length ≤ 400) : BAns p bss told (s.recv d) := by
  obtain ⟨g, hg, hg2⟩ := hd
  obtain ⟨i, bs, h1, h2, h3, h4, h5⟩ := hg2.ex
  have hgok := dec_ok hby hg
  have hil := (List.getElem?_eq_some_iff.1 h1).1
  unfold LS.recv
  rw [hg]
  show BAns p bss told ((s.recd g.so g.la g.bi).come g)
  obtain ⟨r1, r2, r3, r4, r5, _⟩ := recd_rest s g.so g.la g.bi
  have h' := h.of_eq r1 r2 r3 r4 r5
  have hok' := rec_ok (so := g.so) (bi := g.bi) hok hgok.la
  generalize s.recd g.so g.la g.bi = s1 at *
  clear r1 r2 r3 r4 r5
  unfold LS.come
  split
  · exact .inl ⟨rfl, h'⟩
  · rename_i hst
    have ht : told ≤ i := by
      rcases Nat.eq_zero_or_pos told with h0 | h0
      · omega
      · have hso : s1.so = true := by rw [h'.so]; simpa using h0
        have hla := h'.la h0
        have hle := h'.le
        have hnw : newerN g.nu s1.la ≠ false := fun e => hst ⟨hso, e⟩
        rw [h2, hla, newer_lt (by omega) (by omega)] at hnw
        have := of_decide_eq_true (by simpa using hnw)
        omega
    split
    · rename_i hps
      split
      · exact .inl ⟨rfl, h'⟩
      · exact BInv.same (s := { s1 with ps := [] }) ⟨h'.so, h'.la, h'.le, fun e => absurd rfl e⟩ (drop_ok hok') hgok h1 ht h2 h4 h5 (fun e => absurd rfl e) hlen
    · rename_i hps
      exact h'.same hok' hgok h1 ht h2 h4 h5 (fun e => Decidable.byContradiction fun e2 => hps ⟨e, fun e3 => e2 e3.symm⟩) hlen

/-- What is acked was told. -/
def AInv (p told : Nat) (s : LS) : Prop := ∀ n ∈ s.ak, ∃ q, q < told ∧ n = (p + q) % 65536
theorem AInv.send {p told : Nat} {s : LS} (h : AInv p told s) : AInv p told s.sendS := fun n hn => h n (List.mem_of_mem_erase hn)
theorem AInv.mono {p told told' : Nat} {s : LS} (h : AInv p told s) (hl : told ≤ told') : AInv p told' s := fun n hn => by
  obtain ⟨q, h1, h2⟩ := h n hn; exact ⟨q, by omega, h2⟩
theorem AInv.ack {p k told : Nat} {s : LS} (h : AInv p told s) (hr : Ran p k s) (hk : k ≤ 400) (ht : told ≤ k) {n t sft : Nat} (hn : n = aheadN ((p + t) % 65536) sft) (hs : sft ≤ 32) (htt : t + 1 = told) : AInv p told (s.ack n) := by
  unfold LS.ack
  split
  · rename_i hc
    intro m hm
    simp only at hm
    have hm' : m ∈ s.ak ∨ m = n := by
      split at hm
      · exact .inl hm
      · rcases List.mem_append.1 hm with h1 | h1
        · exact .inl h1
        · exact .inr (by simpa using h1)
    rcases hm' with h1 | h1
    · exact h m h1
    · subst h1
      rw [hr.next, hr.sent] at hc
      subst hn
      refine ⟨t - sft, by omega, ?_⟩
      unfold aheadN at hc ⊢
      omega
  · exact h

theorem AInv.recTo {p k told : Nat} {s : LS} (h : AInv p told s) (hr : Ran p k s) (hk : k ≤ 400) (ht : told ≤ k) {t bi : Nat} (htt : t + 1 = told) : ∀ j, j ≤ 32 → AInv p told (recTo s ((p + t) % 65536) bi j)
  | 0, _ => h.ack hr hk ht (t := t) (sft := 0) (by unfold aheadN; omega) (by omega) htt
  | j + 1, hj => by
    have ih := h.recTo (bi := bi) hr hk ht htt j (by omega)
    unfold Go.Proofs.YtmlbhlfjaagcaaaDoor.recTo
    split
    · have hk2 := recTo_keep s ((p + t) % 65536) bi j
      exact ih.ack (k := k) ⟨by rw [hk2.1]; exact hr.next, by rw [hk2.2]; exact hr.sent⟩ hk ht rfl (by omega) htt
    · exact ih

theorem come_ak (s : LS) (g : DG) : (s.come g).st.ak = s.ak := by
  have same : ∀ s : LS, (s.same g).st.ak = s.ak := by
    intro s
    unfold LS.same LS.put
    split
    · rfl
    · split
      · rfl
      · split <;> rfl
  unfold LS.come
  split
  · rfl
  · split
    · split
      · rfl
      · exact same _
    · exact same s

/-- Behind a datagram of the other end, which told 'told' messages. -/
theorem AInv.recv {p k told : Nat} {s : LS} (h : AInv p told s) (hr : Ran p k s) (hk : k ≤ 400) (ht : told ≤ k) {d : List Nat} {g : DG} (hd : decD d = some g) (hso : g.so = decide (0 < told)) (hla : 0 < told → g.la = (p + (told - 1)) % 65536) : AInv p told (s.recv d).st := by
  unfold LS.recv
  rw [hd]
  show AInv p told ((s.recd g.so g.la g.bi).come g).st
  unfold AInv
  rw [come_ak]
  show AInv p told (s.recd g.so g.la g.bi)
  unfold LS.recd
  rw [hso]
  rcases Nat.eq_zero_or_pos told with h0 | h0
  · subst h0; exact h
  · rw [decide_eq_true h0, if_pos rfl, hla h0]
    exact h.recTo hr hk ht (by omega) 32 (by omega)

end Go.Proofs.YtmlbhlfjaagcaaaDoor
