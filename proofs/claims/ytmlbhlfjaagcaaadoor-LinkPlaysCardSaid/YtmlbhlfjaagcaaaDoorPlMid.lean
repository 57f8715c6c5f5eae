/- The contracts of receives and sends, and both ends together. -/
import Derived.Test.YtmlbhlfjaagcaaaDoorRefRecv
import Derived.Test.YtmlbhlfjaagcaaaDoorLRecvF
import Derived.Test.YtmlbhlfjaagcaaaDoorOwnN
import Derived.Test.YtmlbhlfjaagcaaaDoorLent
namespace Go.Proofs.YtmlbhlfjaagcaaaDoor
open Go.RowKit

/- The two ends of LinkPlays: where they lie, what of them stays. -/
section
variable {w w' : World} {g : Nat} {V : Nat → Prop} {v : RV} {s : RS} {S : Nat → Prop}
/-- Whatever is not of the reference's blocks may be written. -/
theorem RefAt.keep (h : RefAt w g V v s) (hf : Fr S w w') (hn : ∀ i, refS g v s i → ¬ S i) : RefAt w' g V v s :=
  ⟨h.blk.fr hf (hn g (.inl rfl)), ownsRow_fr h.sent hf (fun k e => hn k (.inr (.inl e))), ownsRow_fr h.heard hf (fun k e => hn k (.inr (.inr (.inl e)))), ownsRow_fr h.told hf (fun k e => hn k (.inr (.inr (.inr (.inl e))))), h.st, h.vs, h.vh, h.vt, fun hw => by
    obtain ⟨kp, ke, a, b, c, d, e, f, i⟩ := h.vp hw
    exact ⟨kp, ke, a, b, c.fr hf (hn kp (.inr (.inr (.inr (.inr ⟨hw, .inl (by rw [a]; rfl)⟩))))), d.fr hf (hn ke (.inr (.inr (.inr (.inr ⟨hw, .inr (by rw [b]; rfl)⟩))))), e, f, i⟩⟩
/-- What kinds of blocks they are. -/
theorem RefAt.kind (h : RefAt w g V v s) {i : Nat} (hi : refS g v s i) : ∃ t cs, Blk w i t cs ∧ (t = 70 ∨ t = 3 ∨ t = 4 ∨ t = 9) := by
  have row : ∀ {t : TypeId} {u : Value} {n : Nat} {xs : List Value}, w.ownsRow 0 t 1 u n xs → u.ownBlock = some i → ∃ cs, Blk w i t cs := fun {t u n xs} ho e => by
    rcases ho.2 with ⟨rfl, _⟩ | ⟨g', cap, cur, rfl, _, hh, _⟩
    · simp [Value.ownBlock] at e
    · have : g' = i := by simpa [Value.ownBlock] using e
      subst this
      exact ⟨cur, hh⟩
  rcases hi with e | e | e | e | ⟨hw, e⟩
  · exact ⟨70, _, e ▸ h.blk, .inl rfl⟩
  · obtain ⟨cs, hc⟩ := row h.sent e; exact ⟨3, cs, hc, .inr (.inl rfl)⟩
  · obtain ⟨cs, hc⟩ := row h.heard e; exact ⟨4, cs, hc, .inr (.inr (.inl rfl))⟩
  · obtain ⟨cs, hc⟩ := row h.told e; exact ⟨3, cs, hc, .inr (.inl rfl)⟩
  · obtain ⟨kp, ke, a, b, c, d, _⟩ := h.vp hw
    rcases e with e | e
    · rw [a] at e
      have : kp = i := by simpa [Value.ownBlock] using e
      exact ⟨9, _, this ▸ c, .inr (.inr (.inr rfl))⟩
    · rw [b] at e
      have : ke = i := by simpa [Value.ownBlock] using e
      exact ⟨4, _, this ▸ d, .inr (.inr (.inl rfl))⟩
theorem RefAt.lt (h : RefAt w g V v s) {i : Nat} (hi : refS g v s i) : i < w.heap.size := by
  obtain ⟨t, cs, hb, _⟩ := h.kind hi; exact hb.lt
theorem RefAt.sub (h : RefAt w g V v s) {i : Nat} (hi : refS g v s i) : i = g ∨ V i := by
  rcases hi with e | e | e | e | ⟨hw, e⟩
  · exact .inl e
  · exact .inr (h.vs i e)
  · exact .inr (h.vh i e)
  · exact .inr (h.vt i e)
  · obtain ⟨kp, ke, a, b, _, _, c, d, _⟩ := h.vp hw
    rcases e with e | e
    · rw [a] at e
      have : kp = i := by simpa [Value.ownBlock] using e
      exact .inr (this ▸ c)
    · rw [b] at e
      have : ke = i := by simpa [Value.ownBlock] using e
      exact .inr (this ▸ d)
theorem RefAt.self (h : RefAt w g V v s) : RefAt w g (refS g v s) v s :=
  ⟨h.blk, h.sent, h.heard, h.told, h.st, fun k e => .inr (.inl e), fun k e => .inr (.inr (.inl e)), fun k e => .inr (.inr (.inr (.inl e))), fun hw => by
    obtain ⟨kp, ke, a, b, c, d, e, f, i⟩ := h.vp hw
    exact ⟨kp, ke, a, b, c, d, .inr (.inr (.inr (.inr ⟨hw, .inl (by rw [a]; rfl)⟩))), .inr (.inr (.inr (.inr ⟨hw, .inr (by rw [b]; rfl)⟩))), i⟩⟩
theorem RefAt.ne_blk (h : RefAt w g V v s) {i k : Nat} {t : TypeId} {cs : Array Value} (hi : refS g v s i) (hb : Blk w k t cs) (ht : t ≠ 70 ∧ t ≠ 3 ∧ t ≠ 4 ∧ t ≠ 9) : i ≠ k := by
  obtain ⟨t', cs', hb', hk⟩ := h.kind hi
  refine fun e => hb'.ne_ hb ?_ e
  rcases hk with rfl | rfl | rfl | rfl
  · exact fun e => ht.1 e.symm
  · exact fun e => ht.2.1 e.symm
  · exact fun e => ht.2.2.1 e.symm
  · exact fun e => ht.2.2.2 e.symm
theorem RefAt.ne_map (h : RefAt w g V v s) {i k : Nat} {q : IntKind} {m : List (Int × Value)} (hi : refS g v s i) (hm : MapI w k q m) : i ≠ k := by
  obtain ⟨t', cs', hb', _⟩ := h.kind hi
  exact fun e => hm.ne_blk hb' e.symm
theorem RefAt.ne_own (h : RefAt w g V v s) {i base n : Nat} {t : TypeId} {u : Value} {xs : List Value} (hi : refS g v s i) (ho : w.ownsRow base t 1 u n xs) (ht : t ≠ 70 ∧ t ≠ 3 ∧ t ≠ 4 ∧ t ≠ 9) : u.ownBlock ≠ some i := by
  intro e
  rcases ho.2 with ⟨rfl, _⟩ | ⟨g', cap, cur, rfl, _, hh, _⟩
  · simp [Value.ownBlock] at e
  · have : g' = i := by simpa [Value.ownBlock] using e
    exact h.ne_blk hi (show Blk w g' t cur from hh) ht this.symm
end

/-- Slices of bytes in blocks of P, read only. -/
structure Gram2 (w : World) (P : Nat → Prop) (xs : List Value) (ds : List (List Nat)) : Prop where
  len : xs.length = ds.length
  each : ∀ (j : Nat) (x : Value) (d : List Nat), xs[j]? = some x → ds[j]? = some d → PSl w P x d
section
variable {w w' : World} {P P' : Nat → Prop} {xs ys : List Value} {ds es : List (List Nat)}
theorem Gram2.fr {S : Nat → Prop} (h : Gram2 w P xs ds) (hf : Fr S w w') (hs : ∀ k cs, P k → Blk w k 5 cs → ¬ S k) : Gram2 w' P xs ds :=
  ⟨h.len, fun j x d h1 h2 => (h.each j x d h1 h2).fr hf hs⟩
theorem PSl.wide {v : Value} {bs : List Nat} (h : PSl w P v bs) (hu : ∀ k cs, P k → Blk w k 5 cs → P' k) : PSl w P' v bs :=
  ⟨h.1, fun A n c e => by obtain ⟨a, cs, b⟩ := h.2 A n c e; exact ⟨hu _ cs a b, cs, b⟩⟩
theorem Gram2.wide (h : Gram2 w P xs ds) (hu : ∀ k cs, P k → Blk w k 5 cs → P' k) : Gram2 w P' xs ds :=
  ⟨h.len, fun j x d h1 h2 => (h.each j x d h1 h2).wide hu⟩
theorem Grams.two {base : Nat} (h : Grams w base xs ds) : Gram2 w (fun k => base ≤ k) xs ds := ⟨h.len, h.each⟩
theorem Gram2.app (h : Gram2 w P xs ds) (k : Gram2 w P ys es) : Gram2 w P (xs ++ ys) (ds ++ es) := by
  refine ⟨by rw [List.length_append, List.length_append, h.len, k.len], fun j x d h1 h2 => ?_⟩
  by_cases hj : j < xs.length
  · rw [List.getElem?_append_left hj] at h1
    rw [List.getElem?_append_left (by rw [← h.len]; exact hj)] at h2
    exact h.each j x d h1 h2
  · rw [List.getElem?_append_right (by omega)] at h1
    rw [List.getElem?_append_right (by rw [← h.len]; omega), ← h.len] at h2
    exact k.each _ x d h1 h2
theorem LinkAt.wide2 {g ga gp : Nat} {U U' : Nat → Prop} {s : LS} (h : LinkAt w g ga gp U s) (hu : ∀ k cs, U k → Blk w k 5 cs → U' k) : LinkAt w g ga gp U' s := by
  obtain ⟨m, hm, hp⟩ := h.pm
  exact ⟨h.blk, h.am, ⟨m, hm, ⟨hp.len, fun i p hi => by obtain ⟨v, h1, h2⟩ := hp.each i p hi; exact ⟨v, h1, h2.wide hu⟩⟩⟩, h.ne⟩
theorem LinkAt.ne_S3 {x : Lk} {U : Nat → Prop} {s : LS} {k : Nat} {t : TypeId} {cs : Array Value} (h : LinkAt w x.g x.a x.p U s) (hb : Blk w k t cs) (ht : t ≠ 64) : ¬ S3 x.g x.a x.p k := by
  obtain ⟨m, hm, _⟩ := h.pm
  rintro (e | e | e)
  · exact hb.ne_ h.blk ht e
  · exact h.am.ne_blk hb e.symm
  · exact hm.ne_blk hb e.symm
theorem LinkAt.lt_S3 {x : Lk} {U : Nat → Prop} {s : LS} {k : Nat} (h : LinkAt w x.g x.a x.p U s) (hk : S3 x.g x.a x.p k) : k < w.heap.size := by
  obtain ⟨m, hm, _⟩ := h.pm
  rcases hk with e | e | e
  · rw [e]; exact h.blk.lt
  · rw [e]; exact h.am.lt
  · rw [e]; exact hm.lt
end

/-- An end of the program, the reference's, what was sent. -/
structure EndD where
  x : Lk
  s : LS
  g : Nat
  v : RV
  r : RS
  sv : Value
  xs : List Value
  ds : List (List Nat)
/-- Where they lie: the parts that wait and the datagrams in blocks of U. -/
structure EndAt (B : Nat) (w : World) (U : Nat → Prop) (D : EndD) : Prop where
  link : LinkAt w D.x.g D.x.a D.x.p U D.s
  ref : RefAt w D.g (refS D.g D.v D.r) D.v D.r
  row : w.ownsRow B 36 1 D.sv D.ds.length D.xs
  gr : Gram2 w U D.xs D.ds
/-- What they are, behind i acts. -/
structure EndOk (i : Nat) (D : EndD) : Prop where
  lok : D.s.ok
  zero : D.s.zero
  rok : D.r.ok
  twin : Twin D.s D.r
  dl : ∀ d ∈ D.ds, d.length ≤ 215 ∧ ∀ x ∈ d, x < 256
  ns : D.r.sent.length ≤ i
  nt : D.r.told.length ≤ i
  nd : D.ds.length ≤ 10 * i
/-- What an end's calls write. -/
abbrev touch (D : EndD) (i : Nat) : Prop := S3 D.x.g D.x.a D.x.p i ∨ refS D.g D.v D.r i
section
variable {B : Nat} {w w' : World} {U U' S : Nat → Prop} {D : EndD}
theorem EndAt.fr (h : EndAt B w U D) (hf : Fr S w w') (h1 : ∀ i, S3 D.x.g D.x.a D.x.p i → ¬ S i) (h2 : ∀ i, refS D.g D.v D.r i → ¬ S i) (h3 : ∀ i, D.sv.ownBlock = some i → ¬ S i) (h4 : ∀ k cs, U k → Blk w k 5 cs → ¬ S k) : EndAt B w' U D :=
  ⟨h.link.fr hf (h1 _ (.inl rfl)) (h1 _ (.inr (.inl rfl))) (h1 _ (.inr (.inr rfl))) h4, h.ref.keep hf h2, ownsRow_fr h.row hf h3, h.gr.fr hf h4⟩
theorem EndAt.below (h : EndAt B w U D) (hb : Below w.heap.size w w') : EndAt B w' U D :=
  h.fr (S := fun _ => False) (Fr.of_below hb) (fun _ _ h => h) (fun _ _ h => h) (fun _ _ h => h) (fun _ _ _ _ h => h)
theorem EndAt.wide (h : EndAt B w U D) (hu : ∀ k cs, U k → Blk w k 5 cs → U' k) : EndAt B w U' D := ⟨h.link.wide2 hu, h.ref, h.row, h.gr.wide hu⟩
theorem EndAt.bound (h : EndAt B w U D) : EndAt B w (fun k => k < w.heap.size) D := h.wide (fun _ _ _ hb => hb.lt)
theorem EndAt.touch_lt (h : EndAt B w U D) {i : Nat} (hi : touch D i) : i < w.heap.size := hi.elim h.link.lt_S3 h.ref.lt
theorem EndAt.touch_ne (h : EndAt B w U D) {k : Nat} {t : TypeId} {cs : Array Value} (hb : Blk w k t cs) (ht : t ≠ 64 ∧ t ≠ 70 ∧ t ≠ 3 ∧ t ≠ 4 ∧ t ≠ 9) : ¬ touch D k := by
  rintro (e | e)
  · exact h.link.ne_S3 hb ht.1 e
  · exact h.ref.ne_blk e hb ht.2 rfl
theorem EndAt.touch_own (h : EndAt B w U D) {base n : Nat} {t : TypeId} {u : Value} {xs : List Value} (ho : w.ownsRow base t 1 u n xs) (ht : t ≠ 64 ∧ t ≠ 70 ∧ t ≠ 3 ∧ t ≠ 4 ∧ t ≠ 9) : ∀ k, u.ownBlock = some k → ¬ touch D k := by
  intro k e
  rcases ho.2 with ⟨rfl, _⟩ | ⟨g', cap, cur, rfl, _, hh, _⟩
  · simp [Value.ownBlock] at e
  · have : g' = k := by simpa [Value.ownBlock] using e
    subst this
    exact h.touch_ne (show Blk w g' t cur from hh) ht
end

/- The contract of receives: an end receives, the same answers on both sides. -/
/-- Receive's answer, told or not. -/
theorem RecvToF.uni {w w' : World} {g ga gp : Nat} {U : Nat → Prop} {r : RA} {e : Ending} (h : RecvToF w g ga gp U r e w') :
    ∃ va, e = .returned (.tuple #[va, .bool r.msg.isSome, .int .i64 (r.err : Int)]) ∧ OwnF w' w.heap.size va (r.msg.getD []) ∧ LinkAt w' g ga gp (fun k => (U k ∨ w.heap.size ≤ k) ∧ va.ownBlock ≠ some k) r.st ∧ Fr (S3 g ga gp) w w' := by
  obtain ⟨hf, ⟨m, v, h1, h2, h3, h4, h5⟩ | ⟨h1, h2, h3⟩⟩ := h
  · exact ⟨v, by rw [h1, h2]; exact h3, by rw [h1]; exact h4, h5 _, hf⟩
  · refine ⟨.slice none 0 0, by rw [h1]; exact h2, by rw [h1]; exact OwnF.nil _ _, h3.wide (fun k hk => ⟨hk, by simp [Value.ownBlock]⟩), hf⟩
theorem RRecvTo.uni {w w' : World} {g : Nat} {V : Nat → Prop} {v : RV} {s : RS} {r : RRA} {e : Ending} (h : RRecvTo w g V v s r e w') :
    ∃ vb, e = .returned (.tuple #[vb, .bool r.msg.isSome, .int .i64 (r.err : Int)]) ∧ OwnB w' w.heap.size vb (r.msg.getD []) ∧ (∃ v', RefAt w' g (fun k => V k ∨ w.heap.size ≤ k) v' r.st) ∧ Fr (refS g v s) w w' := by
  obtain ⟨hf, hr, ⟨m, x, h1, h2, h3, h4⟩ | ⟨h1, h2⟩⟩ := h
  · exact ⟨x, by rw [h1, h2]; exact h3, by rw [h1]; exact h4, hr, hf⟩
  · exact ⟨.slice none 0 0, by rw [h1]; exact h2, by rw [h1]; exact OwnB.nil _ _, hr, hf⟩

theorem Reads.keepB {S : Nat → Prop} {w w' : World} {B n : Nat} {A : Option Addr} {xs : List Value} (h : Reads w B A n xs) (hf : Fr S w w') (hB : B ≤ w.heap.size) (hn : 0 < n → ∀ ad, A = some ad → ¬ S ad.block) : Reads w' B A n xs := by
  refine ⟨h.1, fun h0 => ?_⟩
  obtain ⟨ad, rfl, hb, hc⟩ := h.2 h0
  refine ⟨ad, rfl, hb, fun j u hu => ?_⟩
  rw [← hc j u hu]
  exact World.cell?_of_block (by rw [block_of_add]; exact hf.block ad.block (by omega) (hn h0 ad rfl))

theorem own_ne_map {w : World} {base n k : Nat} {t : TypeId} {u : Value} {xs : List Value} {q : IntKind} {m : List (Int × Value)} (ho : w.ownsRow base t 1 u n xs) (hm : MapI w k q m) : u.ownBlock ≠ some k := by
  intro e
  rcases ho.2 with ⟨rfl, _⟩ | ⟨g', cap, cur, rfl, _, hh, _⟩
  · simp [Value.ownBlock] at e
  · have : g' = k := by simpa [Value.ownBlock] using e
    subst this
    exact hm.ne_blk (ty := t) (cs := cur) hh rfl

theorem lent_sl {w : World} {gl : Nat} {d : List Nat} (h : Blk w gl 5 (U8s (d ++ [77, 77, 77])).toArray) (hby : ∀ x ∈ d, x < 256) (hl : d.length ≤ 140737488351232) : SlB w (.slice (some ⟨gl, 0, none⟩) d.length (d.length + 3)) d := by
  have hf : FullB w 0 (.slice (some ⟨gl, 0, none⟩) d.length (d.length + 3)) d (some ⟨gl, 0, none⟩) (d ++ [77, 77, 77]) :=
    ⟨by simp, by simp, by simp, by simp; unfold maxLen; omega, fun x hx => (List.mem_append.1 hx).elim (hby x) (fun h => by simp at h; omega), (fun e => by cases e), fun a e => by injection e with e; exact ⟨gl, e.symm, Nat.zero_le _, h⟩⟩
  exact hf.sl

theorem recv_msg_lt {s : LS} (hs : s.ok) {d : List Nat} (hd : ∀ x ∈ d, x < 256) : (∀ x ∈ (s.recv d).msg.getD [], x < 256) ∧ ((s.recv d).msg.getD []).length ≤ 2000 := by
  have key : ∀ (s : LS) (g : DG), s.ok → g.ok → (¬ (s.ps ≠ [] ∧ g.ct ≠ s.ct)) → g.ix ∉ s.ps.map (·.1) → (∀ x ∈ (s.put g).msg.getD [], x < 256) ∧ ((s.put g).msg.getD []).length ≤ 2000 := fun s g hs hg h1 h2 => by
    have hw := wait_ok hs hg h1 h2
    unfold LS.put
    split
    · refine ⟨msg_lt _ (fun p hp => (hw.by_ p hp).2) _, ?_⟩
      have := msg_len (s.wait g).ps (fun p hp => (hw.by_ p hp).1) (s.wait g).ct
      have h3 := hw.ct
      show (msgTo (s.wait g).ps (s.wait g).ct).length ≤ 2000
      omega
    · simp
  have key2 : ∀ (s : LS) (g : DG), s.ok → g.ok → (∀ x ∈ (s.same g).msg.getD [], x < 256) ∧ ((s.same g).msg.getD []).length ≤ 2000 := fun s g hs hg => by
    unfold LS.same
    split
    · simp
    · rename_i h1
      split
      · simp
      · rename_i h2; exact key s g hs hg h1 h2
  unfold LS.recv
  split
  · simp
  · rename_i g hg
    have hgo := dec_ok hd hg
    have hs1 := rec_ok (so := g.so) (bi := g.bi) hs hgo.la
    generalize s.recd g.so g.la g.bi = s1 at *
    unfold LS.come
    split
    · simp
    · split
      · split
        · simp
        · exact key2 _ g (drop_ok hs1) hgo
      · exact key2 _ g hs1 hgo

/-- The lists grow by one at most. -/
theorem rrecv_told (r : RS) (d : List Nat) : (r.recv d).st.told.length ≤ r.told.length + 1 ∧ (r.recv d).st.sent = r.sent := by
  have key : ∀ (s : RS) (g : DG), (s.same g).st.told.length ≤ s.told.length + 1 ∧ (s.same g).st.sent = s.sent := fun s g => by
    unfold RS.same
    split
    · exact ⟨Nat.le_succ _, rfl⟩
    · split
      · exact ⟨Nat.le_succ _, rfl⟩
      · have e : (s.begins g).told = s.told ∧ (s.begins g).sent = s.sent := by unfold RS.begins; split <;> exact ⟨rfl, rfl⟩
        unfold RS.put
        split
        · refine ⟨?_, e.2⟩
          show ((s.begins g).told ++ [g.nu]).length ≤ _
          rw [e.1]; simp
        · refine ⟨?_, e.2⟩
          show (s.begins g).told.length ≤ _
          rw [e.1]; omega
  unfold RS.recv
  split
  · exact ⟨Nat.le_succ _, rfl⟩
  · rename_i g _
    have e := hear_rest r (bodyL d)
    have e1 := e.1
    have e2 := e.2.2.2.2
    rw [← e1, ← e2]
    generalize r.hear (bodyL d) = s
    unfold RS.come
    split
    · exact ⟨Nat.le_succ _, rfl⟩
    · split
      · split
        · exact ⟨Nat.le_succ _, rfl⟩
        · exact key { s with waits := false } g
      · exact key s g

theorem twin_parts {s : LS} {r : RS} (h : Twin s r) (hs : s.ok) : r.waits = true → ∀ p ∈ r.parts, p.length ≤ 200 := fun hw p hp => by
  have hps : s.ps ≠ [] := fun e => by rw [h.waits, e] at hw; cases hw
  rw [(h.n hps).2.1] at hp
  obtain ⟨i, _, rfl⟩ := List.mem_map.1 hp
  exact part_all (fun l => l.length ≤ 200) (by simp) s.ps i (fun p hp => (hs.by_ p hp).1)

/-- What an act leaves. -/
def PlTo (B : Nat) (w : World) (D : EndD) (n : Nat) (T : Nat → Prop) (P : EndD → World → Prop) (e : Ending) (w' : World) : Prop :=
  e = .returned (.bool true) ∧ ∃ D', EndAt B w' (fun k => k < w'.heap.size) D' ∧ EndOk (n + 1) D' ∧ D'.x = D.x ∧ D'.g = D.g ∧ P D' w' ∧ Fr T w w' ∧ (∀ i, refS D'.g D'.v D'.r i → refS D.g D.v D.r i ∨ w.heap.size ≤ i)

set_option maxHeartbeats 8000000 in
set_option maxRecDepth 100000 in
theorem receives_c {B : Nat} {w : World} {D : EndD} {n : Nat} (E i : Nat) (cs : Array Value) (vd : Value) (d : List Nat) (hi : i < 2) (hE : Blk w E 32 cs) (hc1 : cs[i]? = some D.x.ptr) (hc2 : cs[2 + i]? = some (.pointer (some ⟨D.g, 0, none⟩)))
    (hD : EndAt B w (fun k => k < w.heap.size) D) (hok : EndOk n D) (hn : n ≤ 300) (ht : Tab w) (hv : SlB w vd d) (hvl : 0 < d.length → ∀ A m c, vd = .slice (some A) m c → A.block < w.heap.size ∧ ¬ touch D A.block) (hd : d.length ≤ 140737488351232) (hby : ∀ x ∈ d, x < 256) :
    Calls Tryd.prog 15 #[.pointer (some ⟨E, 0, none⟩), .int .i64 (i : Int), vd] w (PlTo B w D n (touch D) (fun D' _ => D'.sv = D.sv ∧ D'.ds = D.ds)) := by
  have HV := Lib.hid hv
  obtain ⟨A, c, rfl, hcc, hA, hr⟩ := hv
  have HVL := Lib.hid hvl
  have HE := Lib.hid hE
  have HC1 := Lib.hid hc1
  have HC2 := Lib.hid hc2
  have HD := Lib.hid hD
  have HOK := Lib.hid hok
  have HT := Lib.hid ht
  have HBy := Lib.hid hby
  have HR := Lib.hid hr
  clear hvl hE hc1 hc2 hD hok ht hby hr hA
  go_enter Tryd.func15, Tryd.ntmps15
  go_wp2_with fail
  refine (lent_c A c d w HR.out (by omega)).mono ?_
  rintro e w1 ⟨gl, rfl, hgl, hk1, hb1⟩
  have HB1 := Lib.hid hb1
  have HK1 := Lib.hid hk1
  have c1 : w1.cell? ⟨E, i, none⟩ = some D.x.ptr := ((HE.out.below hb1 HE.out.lt).cell i).trans HC1.out
  have L1 := HD.out.link.below hb1
  have HL2 := Lib.hid (recvF_c (.slice (some ⟨gl, 0, none⟩) d.length (d.length + 3)) d L1 HOK.out.lok (lent_sl hk1 HBy.out hd) (HT.out.below hb1) (by omega) HBy.out)
  have hii : (i : Int) < 2 := by omega
  clear hk1 hb1 L1
  go_wp2_with fail
  refine HL2.out.mono ?_
  rintro e w2 h2
  obtain ⟨va, rfl, hva, hL2, hf2⟩ := h2.uni
  obtain ⟨a1, a2, a3, a4⟩ := twin_recv HOK.out.twin HOK.out.lok HOK.out.rok HOK.out.zero HBy.out
  have HMs := Lib.hid (recv_msg_lt HOK.out.lok HBy.out)
  have hlk := recv_ok HOK.out.lok HBy.out
  have hzk := zero_recv HOK.out.zero d
  have htl := rrecv_told D.r d
  have HRc := Lib.hid (show (D.r.recv d) = D.r.recv d from rfl)
  obtain ⟨r1, hr1⟩ : ∃ r1, r1 = D.s.recv d := ⟨_, rfl⟩
  obtain ⟨r2, hr2⟩ : ∃ r2, r2 = D.r.recv d := ⟨_, rfl⟩
  rw [← hr1] at hva hL2 a1 a3 a4 HMs hlk hzk ⊢
  rw [← hr2] at a1 a2 a3 a4 htl HRc
  have HA := Lib.hid (And.intro a1 (And.intro a2 (And.intro a3 (And.intro a4 (And.intro hlk (And.intro hzk htl))))))
  have hsz1 : w.heap.size ≤ w1.heap.size := HB1.out.size
  have hgl2 : gl < w1.heap.size := HK1.out.lt
  have hsz2 : w1.heap.size ≤ w2.heap.size := hf2.size
  have HF2 : Hid (Fr (S3 D.x.g D.x.a D.x.p) w w2) := (Fr.of_below HB1.out).trans hf2 (fun _ _ e => e)
  have HF21 := Lib.hid hf2
  have HVA := Lib.hid hva
  have HL2' := Lib.hid hL2
  have HK2 : Hid (Blk w2 gl 5 (U8s (d ++ [77, 77, 77])).toArray) := HK1.out.fr hf2 ((HD.out.link.below HB1.out).ne_S3 HK1.out (by decide))
  have HR2 : Hid (Reads w2 w.heap.size A d.length (U8s d)) := HR.out.keepB HF2.out (Nat.le_refl _) (fun h0 ad e => fun q => (HVL.out h0 ad d.length c (by rw [e])).2 (.inl q))
  obtain ⟨Aa, ca, rfl⟩ := own_slice hva.own
  obtain ⟨va, hae⟩ : ∃ va, va = Value.slice Aa (r1.msg.getD []).length ca := ⟨_, rfl⟩
  rw [← hae] at HVA HL2'
  have HAE := Lib.hid hae
  clear hae
  clear h2 hva hL2 hf2 a1 a2 a3 a4 hlk hzk htl hr1 HL2 c1
  go_wp2_with fail
  refine (kept_c gl c w.heap.size A d w2 HK2.out HR2.out hgl (by omega)).mono ?_
  rintro e w3 ⟨rfl, hf3⟩
  have HF3 : Hid (Fr (fun k => S3 D.x.g D.x.a D.x.p k ∨ k = gl) w w3) := (HF2.out.mono (fun _ _ e => .inl e)).trans hf3 (fun _ _ e => .inr e)
  have HF32 := Lib.hid hf3
  have hsz3 : w2.heap.size ≤ w3.heap.size := hf3.size
  have HX3 : Hid (Blk w3 E 32 cs) := HE.out.fr HF3.out (by
    rintro (e | e)
    · exact HD.out.link.ne_S3 HE.out (by decide) e
    · have := HE.out.lt; omega)
  have HRf3 : Hid (RefAt w3 D.g (refS D.g D.v D.r) D.v D.r) := HD.out.ref.keep HF3.out (fun k hk => by
    rintro (e | e)
    · obtain ⟨t, cs', hb, ht⟩ := HD.out.ref.kind hk
      exact HD.out.link.ne_S3 hb (by rcases ht with rfl | rfl | rfl | rfl <;> decide) e
    · have := HD.out.ref.lt hk; omega)
  have HV3 : Hid (SlB w3 (.slice A d.length c) d) := HV.out.fr0 HF3.out (fun h0 A' m' c' e => by
    obtain ⟨q1, q2⟩ := HVL.out h0 A' m' c' e
    rintro (e | e)
    · exact q2 (.inl e)
    · omega)
  have HVA3 : Hid (OwnF w3 w1.heap.size va (r1.msg.getD [])) := HVA.out.fr hf3 (fun k e q => by
    have := (HVA.out.own.lt k e).1
    have q : k = gl := q
    omega)
  have HL3 : Hid (LinkAt w3 D.x.g D.x.a D.x.p (fun k => ((k < w.heap.size ∨ w1.heap.size ≤ k) ∧ va.ownBlock ≠ some k)) r1.st) := HL2'.out.fr hf3 (fun e => by have := HD.out.link.lt_S3 (.inl rfl); have e : D.x.g = gl := e; omega) (fun e => by have := HD.out.link.lt_S3 (.inr (.inl rfl)); have e : D.x.a = gl := e; omega) (fun e => by have := HD.out.link.lt_S3 (.inr (.inr rfl)); have e : D.x.p = gl := e; omega) (fun k cs' hk _ e => by have e : k = gl := e; omega)
  have c2 : w3.cell? ⟨E, 2 + i, none⟩ = some (.pointer (some ⟨D.g, 0, none⟩)) := (HX3.out.cell (2 + i)).trans HC2.out
  have HQ4 := Lib.hid (rrecv_c (.slice A d.length c) d HRf3.out HOK.out.rok (by have := HOK.out.ns; omega) (by have := HOK.out.nt; omega) (twin_parts HOK.out.twin HOK.out.lok) HV3.out (by omega) HBy.out)
  rw [← hr2] at HQ4
  have HR2e := Lib.hid hr2
  clear hf3 HL2' HVA HK2 HR2 hr2
  go_wp2_with fail
  refine HQ4.out.mono ?_
  rintro e w4 h4
  obtain ⟨vb, rfl, hvb, ⟨v', hR4⟩, hf4⟩ := h4.uni
  have hsz4 : w3.heap.size ≤ w4.heap.size := hf4.size
  have HVA4 : Hid (OwnF w4 w1.heap.size va (r1.msg.getD [])) := HVA3.out.fr hf4 (fun k e q => HRf3.out.ne_own q HVA3.out.own (by decide) e)
  have HL4 : Hid (LinkAt w4 D.x.g D.x.a D.x.p (fun k => ((k < w.heap.size ∨ w1.heap.size ≤ k) ∧ va.ownBlock ≠ some k)) r1.st) := by
    obtain ⟨mm, hmm, _⟩ := HL3.out.pm
    exact HL3.out.fr hf4 (fun e => HRf3.out.ne_blk e HL3.out.blk (by decide) rfl) (fun e => HRf3.out.ne_map e HL3.out.am rfl) (fun e => HRf3.out.ne_map e hmm rfl) (fun k cs' hk hb e => HRf3.out.ne_blk e hb (by decide) rfl)
  have HR4 := Lib.hid hR4
  have HF4 := Lib.hid hf4
  have HVB := Lib.hid hvb
  have em : r2.msg = r1.msg := HA.out.2.2.2.1.symm
  have ee : r2.err = r1.err := HA.out.2.2.1.symm
  rw [em] at HVB ⊢
  rw [ee]
  have hca := HVA4.out.own.sl.conv
  have hcb := HVB.out.sl.conv
  obtain ⟨A', F, hF⟩ := HVA4.out.all HMs.out.1
  rw [HAE.out] at hca
  obtain ⟨Ab, cb, rfl⟩ := own_slice hvb
  clear h4 hvb hR4 hf4 HQ4 HL3 HVA3 em ee c2
  have HFB := Lib.hid hF
  clear hF
  have hb5 : Below w4.heap.size w4 (w4.alloc (.cells #[.slice Aa (r1.msg.getD []).length ca] 36)) := lbel1 _ _
  have HB5 := Lib.hid hb5
  have HW5 : Hid ((w4.alloc (.cells #[.slice Aa (r1.msg.getD []).length ca] 36)).ownsRow 0 36 1 (.slice (some ⟨w4.heap.size, 0, none⟩) 1 1) 1 (vals (fun _ => va) 1)) := by
    refine ⟨rfl, .inr ⟨w4.heap.size, 1, #[.slice Aa (r1.msg.getD []).length ca], rfl, Nat.zero_le _, Blk.new w4 36 _, Nat.le_refl _, by unfold maxLen; omega, rfl, ?_⟩⟩
    show [Value.slice Aa (r1.msg.getD []).length ca] = [va]
    rw [HAE.out]
  have HOw := Lib.hid (ownedN_c w4.heap.size 1 1 w1.heap.size (fun _ => va) (fun _ => r1.msg.getD []) (fun _ => A') (fun _ => F) _ (by omega) (Nat.le_refl _) HW5.out (fun _ _ => HFB.out.below hb5) (fun a b ha hb hne => absurd (show a = b by omega) hne))
  clear hb5
  generalize r1.msg.getD [] = msg at *
  go_wp2_with fail
  refine HOw.out.mono ?_
  rintro e w6 ⟨rfl, _, hf6⟩
  have HF6 : Hid (Fr (fun k => va.ownBlock = some k) (w4.alloc (.cells #[.slice Aa msg.length ca] 36)) w6) := hf6.mono (fun k _ => by
    rintro ⟨j, _, a, e1, e2⟩
    obtain ⟨g', e3, _, _⟩ := HFB.out.row a e1
    rw [HFB.out.val, e1, e3, e2, e3]; rfl)
  clear hf6 HOw HW5 hca hcb
  go_wp2_with fail
  go_ret
  have hszz : (w4.alloc (.cells #[.slice Aa msg.length ca] 36)).heap.size = w4.heap.size + 1 := by simp
  have VA5 := HVA4.out.below HB5.out
  have hnew : ∀ k, va.ownBlock = some k → w.heap.size ≤ k := fun k e => by have := (VA5.own.lt k e).1; omega
  have R5 := HR4.out.below HB5.out
  have L5 := HL4.out.below HB5.out
  generalize w4.alloc (.cells #[.slice Aa msg.length ca] 36) = w5 at *
  have FT : Fr (touch D) w w6 := by
    have h3 : Fr (fun k => ((S3 D.x.g D.x.a D.x.p k ∨ k = gl) ∨ refS D.g D.v D.r k) ∨ va.ownBlock = some k) w w3 := HF3.out.mono (fun _ _ e => .inl (.inl e))
    refine (((h3.trans HF4.out (fun _ _ e => .inl (.inr e))).trans (Fr.of_below (S := fun _ => False) HB5.out) (fun _ _ e => e.elim)).trans HF6.out (fun _ _ e => .inr e)).mono (fun k hk => ?_)
    rintro (((e | e) | e) | e)
    · exact .inl e
    · omega
    · exact .inr e
    · have := hnew k e; omega
  refine ⟨rfl, { D with s := r1.st, v := v', r := r2.st }, ⟨?_, ?_, ?_, ?_⟩, ⟨HA.out.2.2.2.2.1, HA.out.2.2.2.2.2.1, HA.out.2.1, HA.out.1, HOK.out.dl, ?_, ?_, ?_⟩, rfl, rfl, ⟨rfl, rfl⟩, FT, fun k hk => ?_⟩
  · refine (L5.fr HF6.out (fun e => own_ne_blk VA5.own L5.blk (by decide) e) (fun e => ?_) (fun e => ?_) (fun k cs' hk _ => hk.2)).wide2 (fun _ _ _ hb => hb.lt)
    · exact own_ne_map VA5.own L5.am e
    · obtain ⟨mm, hmm, _⟩ := L5.pm
      exact own_ne_map VA5.own hmm e
  · exact (R5.keep HF6.out (fun k hk e => R5.ne_own hk VA5.own (by decide) e)).self
  · exact ownsRow_fr HD.out.row FT (HD.out.touch_own HD.out.row (by decide))
  · exact (HD.out.gr.fr FT (fun k cs' _ hb => HD.out.touch_ne hb (by decide))).wide (fun _ _ _ hb => hb.lt)
  · show r2.st.sent.length ≤ n + 1
    rw [HA.out.2.2.2.2.2.2.2]; have := HOK.out.ns; omega
  · show r2.st.told.length ≤ n + 1
    have := HA.out.2.2.2.2.2.2.1; have := HOK.out.nt; omega
  · have := HOK.out.nd; show D.ds.length ≤ 10 * (n + 1); omega
  · rcases HR4.out.sub hk with e | e | e
    · exact .inl (.inl e)
    · exact .inl e
    · exact .inr (by omega)

/- Sending on both sides, told in one form; Owned of the datagrams; appending rows of slices. -/
/-- What Send answers: the datagrams, the number, what is wrong; the state. -/
structure SA where
  ds : List (List Nat)
  nu : Nat
  er : Nat
def LS.sendA (s : LS) (b : List Nat) : SA := if 2000 < b.length then ⟨[], 0, 2⟩ else ⟨dgrams s b (manyN b.length), s.next, 0⟩
def LS.sendT (s : LS) (b : List Nat) : LS := if 2000 < b.length then s else s.sendS
def RS.sendA (s : RS) (b : List Nat) : SA := if 2000 < b.length then ⟨[], 0, 2⟩ else ⟨rgrams s b (manyN b.length), s.next, 0⟩
def RS.sendT (s : RS) (b : List Nat) : RS := if 2000 < b.length then s else s.sendS

theorem SendTo.uni {w w' : World} {g ga gp : Nat} {U : Nat → Prop} {s : LS} {b : List Nat} {e : Ending} (hl : LinkAt w g ga gp U s) (h : SendTo w g ga gp U s b e w') :
    ∃ vl gs, e = .returned (.tuple #[vl, .int .i64 ((s.sendA b).nu : Int), .int .i64 ((s.sendA b).er : Int)]) ∧ w'.ownsRow w.heap.size 36 1 vl (s.sendA b).ds.length (rowV gs (s.sendA b).ds) ∧ Rows w' w.heap.size gs (s.sendA b).ds ∧ LinkAt w' g ga gp U (s.sendT b) ∧ Fr (S3 g ga gp) w w' := by
  unfold LS.sendA LS.sendT
  rcases h with ⟨h1, rfl, rfl⟩ | ⟨h1, v, gs, rfl, h3, h4, h5, h6⟩
  · rw [if_pos h1, if_pos h1]
    exact ⟨.slice none 0 0, [], rfl, World.ownsRow_nil _ _ _ _, Rows.nil, hl, Fr.refl _ _⟩
  · rw [if_neg (by omega), if_neg (by omega)]
    refine ⟨v, gs, rfl, ?_, h4, h5, h6.mono (fun _ _ e => e.elim .inl (fun e => .inr (.inl e)))⟩
    show w'.ownsRow _ _ _ _ (dgrams s b (manyN b.length)).length _
    rw [dgrams_len]; exact h3
theorem RSendTo.uni {w w' : World} {g : Nat} {V : Nat → Prop} {v : RV} {s : RS} {b : List Nat} {e : Ending} (hl : RefAt w g V v s) (h : RSendTo w g V v s b e w') :
    ∃ vm xs v', e = .returned (.tuple #[vm, .int .i64 ((s.sendA b).nu : Int), .int .i64 ((s.sendA b).er : Int)]) ∧ w'.ownsRow w.heap.size 36 1 vm (s.sendA b).ds.length xs ∧ Gram2 w' (fun k => w.heap.size ≤ k) xs (s.sendA b).ds ∧ RefAt w' g (fun k => V k ∨ w.heap.size ≤ k) v' (s.sendT b) ∧ Fr (refS g v s) w w' := by
  unfold RS.sendA RS.sendT
  rcases h with ⟨h1, rfl, rfl⟩ | ⟨h1, x, xs, v', rfl, h3, h4, h5, h6⟩
  · rw [if_pos h1, if_pos h1]
    exact ⟨.slice none 0 0, [], v, rfl, World.ownsRow_nil _ _ _ _, ⟨rfl, fun j x d h => by simp at h⟩, hl.wide (fun _ => .inl), Fr.refl _ _⟩
  · rw [if_neg (by omega), if_neg (by omega)]
    refine ⟨x, xs, v', rfl, ?_, h4.two, h5, h6⟩
    show w'.ownsRow _ _ _ _ (rgrams s b (manyN b.length)).length _
    rw [rgrams_len]; exact h3
theorem send_same {s : LS} {r : RS} (h : Twin s r) (hs : s.ok) (hr : r.ok) (hz : s.zero) (b : List Nat) : r.sendA b = s.sendA b ∧ Twin (s.sendT b) (r.sendT b) ∧ (r.sendT b).ok ∧ (s.sendT b).ok ∧ (s.sendT b).zero ∧ (r.sendT b).sent.length ≤ r.sent.length + 1 ∧ (r.sendT b).told = r.told := by
  unfold RS.sendA LS.sendA LS.sendT RS.sendT
  split
  · exact ⟨rfl, h, hr, hs, hz, Nat.le_succ _, rfl⟩
  · refine ⟨?_, twin_send h hs hr, rsend_ok hr, send_ok hs, zero_send hz, ?_, rfl⟩
    · have : rgrams r b (manyN b.length) = dgrams s b (manyN b.length) := by
        unfold rgrams dgrams
        exact List.map_congr_left fun i _ => twin_gram h hs hr hz b i
      rw [this, h.next]
    · show (r.sent ++ [r.next]).length ≤ _
      simp
theorem sendA_ds {s : LS} (hs : s.ok) {b : List Nat} (hb : ∀ x ∈ b, x < 256) : (s.sendA b).ds.length ≤ 10 ∧ ∀ d ∈ (s.sendA b).ds, d.length ≤ 215 ∧ ∀ x ∈ d, x < 256 := by
  unfold LS.sendA
  split
  · simp
  · rename_i hl
    have hl : b.length ≤ 2000 := by omega
    refine ⟨?_, fun d hd => ?_⟩
    · show (dgrams s b (manyN b.length)).length ≤ 10
      rw [dgrams_len]; exact many_le hl
    · obtain ⟨i, hi, rfl⟩ := List.mem_map.1 hd
      exact ⟨dgram_le s b i, dgram_lt hs hb hl (List.mem_range.1 hi)⟩

set_option maxRecDepth 100000 in
theorem owned0_c (A : Option Addr) (c : Nat) (w : World) : Calls Tryd.prog 29 #[.slice A 0 c] w fun e w' => e = .returned (.bool true) ∧ w' = w := by
  go_enter Tryd.func29, Tryd.ntmps29
  go_wp2_with fail
  go_loopg [3, 4] 0 (fun gg s3 s4 wr => s4 = .int .i64 0 ∧ wr = w)
  case atStart => exact ⟨rfl, rfl⟩
  case round =>
    obtain ⟨rfl, rfl⟩ := hrel
    go_wp2_with fail
    go_loopg [5, 6, 7, 8, 9] 0 (fun gg s5 _ _ _ _ wx => s5 = .int .i64 0 ∧ wx = wr)
    case atStart => exact ⟨rfl, rfl⟩
    case round =>
      obtain ⟨rfl, rfl⟩ := hrel
      go_wp2_with fail
      go_ret
      exact ⟨rfl, rfl⟩

theorem rowV_get {gs : List Nat} {ds : List (List Nat)} (h : gs.length = ds.length) (j : Nat) (hj : j < ds.length) : (rowV gs ds)[j]? = some (.slice (some ⟨gs.getD j 0, 0, none⟩) (ds.getD j []).length (ds.getD j []).length) := by
  unfold rowV
  rw [List.getElem?_zipWith]
  have h1 : gs[j]? = some (gs.getD j 0) := by rw [List.getD_eq_getElem?_getD, List.getElem?_eq_getElem (by omega)]; rfl
  have h2 : ds[j]? = some (ds.getD j []) := by rw [List.getD_eq_getElem?_getD, List.getElem?_eq_getElem hj]; rfl
  rw [h1, h2]
theorem rowV_vals {gs : List Nat} {ds : List (List Nat)} (h : gs.length = ds.length) : rowV gs ds = vals (fun j => .slice (some ⟨gs.getD j 0, 0, none⟩) (ds.getD j []).length (ds.getD j []).length) ds.length := by
  apply List.ext_getElem?
  intro j
  by_cases hj : j < ds.length
  · rw [rowV_get h j hj, vals_at _ hj]
  · rw [List.getElem?_eq_none (by rw [rowV_len h]; omega), List.getElem?_eq_none (by simp [vals]; omega)]

theorem ownedR_c {w : World} {B base : Nat} {vl : Value} {gs : List Nat} {ds : List (List Nat)} (hrow : w.ownsRow B 36 1 vl ds.length (rowV gs ds)) (hR : Rows w base gs ds) (hn : ds.length ≤ 10) (hd : ∀ d ∈ ds, d.length ≤ 215 ∧ ∀ x ∈ d, x < 256) :
    Calls Tryd.prog 29 #[vl] w fun e w' => e = .returned (.bool true) ∧ Fr (fun k => k ∈ gs) w w' := by
  by_cases h0 : ds.length = 0
  · obtain ⟨A, c, rfl⟩ := own_slice hrow
    rw [h0]
    refine (owned0_c A c w).mono ?_
    rintro e w' ⟨rfl, rfl⟩
    exact ⟨rfl, Fr.refl _ _⟩
  · obtain ⟨h, cl, rfl, _, _⟩ := World.ownsRow.form hrow (by omega)
    have hmem : ∀ j, j < ds.length → gs[j]? = some (gs.getD j 0) ∧ ds[j]? = some (ds.getD j []) := fun j hj => by
      have := hR.len
      refine ⟨?_, ?_⟩
      · rw [List.getD_eq_getElem?_getD, List.getElem?_eq_getElem (by omega)]; rfl
      · rw [List.getD_eq_getElem?_getD, List.getElem?_eq_getElem hj]; rfl
    rw [rowV_vals hR.len] at hrow
    refine (ownedN_c h ds.length cl base (fun j => .slice (some ⟨gs.getD j 0, 0, none⟩) (ds.getD j []).length (ds.getD j []).length) (fun j => ds.getD j []) (fun j => some ⟨gs.getD j 0, 0, none⟩) (fun j => ds.getD j []) w hn (by omega) (row_lower hrow (Nat.zero_le _)) (fun j hj => ?_) (fun a b ha hb hne p q hp hq => ?_)).mono ?_
    · obtain ⟨h1, h2⟩ := hmem j hj
      obtain ⟨h3, h4⟩ := hR.each j _ _ h1 h2
      obtain ⟨h5, h6⟩ := hd _ (List.mem_of_getElem? h2)
      exact FullB.exact h4 h3 rfl (by unfold maxLen; omega) h6
    · injection hp with hp
      injection hq with hq
      rw [← hp, ← hq]
      show gs.getD a 0 ≠ gs.getD b 0
      have hpw := List.pairwise_iff_getElem.1 hR.inc
      have hl := hR.len
      have e1 : ∀ j (hj : j < gs.length), gs.getD j 0 = gs[j] := fun j hj => by rw [List.getD_eq_getElem?_getD, List.getElem?_eq_getElem hj]; rfl
      rw [e1 a (by omega), e1 b (by omega)]
      rcases Nat.lt_or_gt_of_ne hne with h | h
      · have := hpw a b (by omega) (by omega) h; omega
      · have := hpw b a (by omega) (by omega) h; omega
    · rintro e w' ⟨rfl, _, hf⟩
      refine ⟨rfl, hf.mono (fun k _ => ?_)⟩
      rintro ⟨j, hj, a, e1, e2⟩
      injection e1 with e1
      obtain ⟨h1, _⟩ := hmem j hj
      rw [e2, ← e1]; exact List.mem_of_getElem? h1

theorem run_append36 (w : World) (B B2 : Nat) (ty : TypeId) (v vm : Value) (n m : Nat) (xs ys : List Value) (hown : w.ownsRow B 36 1 v n xs) (hm : w.ownsRow B2 36 1 vm m ys) (h1 : ∀ u ∈ ys, u.oneCell' = true) (hfit : n + m ≤ 1000000) (hB : B ≤ w.heap.size) :
    ∃ v' w', (Builtin.append_ #[29, 29] ty #[v, vm]).run Tryd.prog w = .ok v' w' ∧ w'.ownsRow B 36 1 v' (n + m) (xs ++ ys) ∧ w.grownBy w' v.ownBlock ∧ (v'.ownBlock = v.ownBlock ∨ v'.ownBlock = some w.heap.size) := by
  obtain ⟨i, hi, hz, hsz, hby⟩ := info_parts info36
  rcases hm.2 with ⟨rfl, rfl⟩ | ⟨g, cap, cur, rfl, _, hg, _, _, _, _⟩
  · have hy : ys = [] := List.eq_nil_of_length_eq_zero (by simpa using hm.1)
    subst hy
    exact ⟨v, w, run_append_owned_none (P := Tryd.prog) w B 29 ty 36 i 1 Tryd.underlying29 hi v n xs hown, by rw [List.append_nil]; exact hown, World.grownBy.refl _ _, .inl rfl⟩
  · obtain ⟨v', w', a, b, c, _, e⟩ := run_append_own_at (P := Tryd.prog) w B 29 ty 36 i (.slice none 0 0) 1 24 Tryd.underlying29 hi hz hsz hby rfl (by decide) v n xs hown ⟨g, 0, none⟩ m cap ys hm.1 (hm.cells (g := g) rfl) h1 (by unfold maxLen; omega) (by omega) hB
    exact ⟨v', w', a, b, c, e⟩
theorem wp_append36 {w : World} {o : Oper} {a : Act} {K : Act → World → Prop} {Q : Exit → Act → World → Prop} (sl x : Operand) (ho : o.op = .call { callee := .builtin .append, args := #[sl, x], argTypes := #[29, 29] })
    (B B2 : Nat) (v vm : Value) (n m : Nat) (xs ys : List Value) (hsl : a.eval sl = v) (hown : w.ownsRow B 36 1 v n xs) (hx : a.eval x = vm) (hm : w.ownsRow B2 36 1 vm m ys) (h1 : ∀ u ∈ ys, u.oneCell' = true) (hfit : n + m ≤ 1000000) (hB : B ≤ w.heap.size)
    (h : ∀ v' w', w'.ownsRow B 36 1 v' (n + m) (xs ++ ys) → w.grownBy w' v.ownBlock → (v'.ownBlock = v.ownBlock ∨ v'.ownBlock = some w.heap.size) → K (a.put o.dst v') w') : o.wp Tryd.prog a w K Q := by
  obtain ⟨v', w', hr, h2, h3, h4⟩ := run_append36 w B B2 o.type v vm n m xs ys hown hm h1 hfit hB
  unfold Oper.wp execOp
  simp only [ho, resolve, invoke, builtin, Sem.run_bind, Sem.run_pure, Result.andThen_ok, List.map_toArray, List.map_cons, List.map_nil, hsl, hx, hr]
  exact h v' w' h2 h3 h4

/- The contract of sends: an end sends, the same answers on both sides. -/
section
variable {P : Program} {ops : Array Oper} {Q : Exit → Act → World → Prop} {md : Region.Mode} {S : World → Prop} {t : Nat}
/-- An operation for which t waits through others (Z). -/
theorem wpAnyT_firstZ {i : Nat} {oi : Oper} {v : Value} (hi : ops[i]? = some oi) (hsel : ∀ (j : Nat) (o : Oper) cs b, ops[j]? = some o → o.op ≠ .select cs b)
    (hQ : ∀ c a w, Q (.panic c) (a.put oi.dst v) w → Q (.panic c) a w) (Z : List Nat) (hZ : ∀ z ∈ Z, ∃ y ∈ i :: Z, Region.waitsFor md ops z y = true) (htZ : t ∈ Z) :
    ∀ (fuel : Nat) (listed : Array Bool) (a : Act) (w : World), (∀ z ∈ Z, listed.getD z true = false) →
      (∀ j oj, ops[j]? = some oj → j ≠ i → listed.getD j true = false → (∀ e ∈ oj.after, Region.binds md e = true → e.on ≠ i) → oi.apart ops oj = true) →
      i ∈ Region.ready md ops listed → YieldsIf P ops S oi v a → S w →
      wpAnyT P md ops Q S t fuel (listed.setIfInBounds i true) (a.put oi.dst v) w → wpAnyT P md ops Q S t (fuel + 1) listed a w := by
  intro fuel
  induction fuel with
  | zero =>
    intro listed a w _ _ hr hy hS H
    refine ⟨fun h => (by rw [h] at hr; cases hr), fun j hj => ?_⟩
    by_cases hji : j = i
    · subst hji; exact hy.wpOp hi hS ⟨fun _ => hS, H⟩
    · have := ready_mono hj hji
      rw [H.1] at this
      cases this
  | succ fuel ih =>
    intro listed a w hun hfree hr hy hS H
    refine ⟨fun h => (by rw [h] at hr; cases hr), fun j hj => ?_⟩
    by_cases hji : j = i
    · subst hji; exact hy.wpOp hi hS ⟨fun _ => hS, H⟩
    · have h1 := H.2 j (ready_mono hj hji)
      obtain ⟨hjun, oj, hoj, hall⟩ := mem_ready.1 hj
      have hlist : ∀ y, listed.getD y true = false → ∀ e ∈ oj.after, Region.binds md e = true → e.on ≠ y := fun y h0 e he hb heq => by
        have h1 := hall e he hb
        rw [heq] at h1
        rcases Nat.lt_or_ge y listed.size with h' | h'
        · simp [h'] at h0 h1; rw [h0] at h1; cases h1
        · simp [Array.getElem?_eq_none h'] at h1
      have hnot : ∀ e ∈ oj.after, Region.binds md e = true → e.on ≠ i := hlist i (mem_ready.1 hr).1
      have hjZ : j ∉ Z := fun hz => by
        obtain ⟨y, hyz, hw⟩ := hZ j hz
        obtain ⟨oj', hoj', e, he, hb, heq⟩ := Region.waitsFor_spec hw
        rw [hoj] at hoj'
        injection hoj' with hoj'
        subst hoj'
        rcases List.mem_cons.1 hyz with h | h
        · exact hnot e he hb (heq.trans h)
        · exact hlist y (hun y h) e he hb heq
      have hjt : j ≠ t := fun e => hjZ (e ▸ htZ)
      have h2 := wpOp_putIf hoj (hfree j oj hoj hji hjun hnot) (fun cs b => hsel i oi cs b hi) (fun cs b => hsel j oj cs b hoj) hQ hy h1
      have hfree' : ∀ k ok, ops[k]? = some ok → k ≠ i → (listed.setIfInBounds j true).getD k true = false →
          (∀ e ∈ ok.after, Region.binds md e = true → e.on ≠ i) → oi.apart ops ok = true := fun k ok hk hki hun hno => by
        refine hfree k ok hk hki ?_ hno
        by_cases hjk : j = k
        · subst hjk; exact hjun
        · rw [getD_set_ne true hjk] at hun; exact hun
      have hun' : ∀ z ∈ Z, (listed.setIfInBounds j true).getD z true = false := fun z hz => by
        have hjk : j ≠ z := fun e => hjZ (e ▸ hz)
        rw [getD_set_ne true hjk]; exact hun z hz
      refine wpOp_mono (fun a' w' h3 => ⟨h3.2.1, ih (listed.setIfInBounds j true) a' w' hun' hfree' (ready_mono hr (Ne.symm hji)) h3.1 (h3.2.1 hjt) ?_⟩) h2
      rw [Array.setIfInBounds_comm _ _ hji]
      exact h3.2.2
theorem wpAnyT_takeZ {i : Nat} {oi : Oper} {v : Value} {fuel : Nat} {listed : Array Bool} {a : Act} {w : World} (Z : List Nat) (hi : ops[i]? = some oi)
    (hs : Region.noSelect ops = true) (hf : Region.free md ops listed i = true) (hr : (Region.ready md ops listed).contains i = true) (hZ : (Z.all fun z => (i :: Z).any fun y => Region.waitsFor md ops z y) = true) (htZ : t ∈ Z) (hun : (Z.all fun z => !(listed.getD z true)) = true)
    (hQ : ∀ c a w, Q (.panic c) (a.put oi.dst v) w → Q (.panic c) a w) (hy : YieldsIf P ops S oi v a) (hS : S w)
    (h : wpAnyT P md ops Q S t fuel (listed.setIfInBounds i true) (a.put oi.dst v) w) : wpAnyT P md ops Q S t (fuel + 1) listed a w :=
  wpAnyT_firstZ hi (Region.noSelect_spec hs) hQ Z (fun z hz => by
    obtain ⟨y, h1, h2⟩ := List.any_eq_true.1 (List.all_eq_true.1 hZ z hz)
    exact ⟨y, h1, h2⟩) htZ fuel listed a w (fun z hz => by simpa using List.all_eq_true.1 hun z hz) (Region.free_spec hi hf) (by simpa using hr) hy hS h
end

/-- What sends leaves: the datagrams are noted. -/
def SentP (w : World) (E i : Nat) (cs : Array Value) (D D' : EndD) (w' : World) : Prop :=
  Blk w' E 32 (cs.setIfInBounds (4 + i) D'.sv) ∧ (D'.sv.ownBlock = D.sv.ownBlock ∨ ∃ k, D'.sv.ownBlock = some k ∧ w.heap.size ≤ k)

theorem gram_one {w : World} {P : Nat → Prop} {xs : List Value} {ds : List (List Nat)} (h : Gram2 w P xs ds) : ∀ u ∈ xs, u.oneCell' = true := fun u hu => by
  obtain ⟨j, hj⟩ := List.getElem?_of_mem hu
  have hl : j < ds.length := by have := (List.getElem?_eq_some_iff.1 hj).1; have := h.len; omega
  obtain ⟨⟨A, c, rfl, _⟩, _⟩ := h.each j u _ hj (List.getElem?_eq_getElem hl)
  rfl

set_option maxHeartbeats 8000000 in
set_option maxRecDepth 100000 in
theorem sends_c {B : Nat} {w : World} {D : EndD} {n : Nat} (E i : Nat) (cs : Array Value) (vd : Value) (d : List Nat) (hi : i < 2) (hE : Blk w E 32 cs) (hc1 : cs[i]? = some D.x.ptr) (hc2 : cs[2 + i]? = some (.pointer (some ⟨D.g, 0, none⟩))) (hc3 : cs[4 + i]? = some D.sv)
    (hD : EndAt B w (fun k => k < w.heap.size) D) (hB : B ≤ w.heap.size) (hok : EndOk n D) (hn : n ≤ 300) (ht : Tab w) (hv : SlB w vd d) (hvl : 0 < d.length → ∀ A m c, vd = .slice (some A) m c → A.block < w.heap.size ∧ ¬ touch D A.block) (hd : d.length ≤ 140737488351232) (hby : ∀ x ∈ d, x < 256) :
    Calls Tryd.prog 14 #[.pointer (some ⟨E, 0, none⟩), .int .i64 (i : Int), vd] w (PlTo B w D n (fun k => touch D k ∨ k = E ∨ D.sv.ownBlock = some k) (SentP w E i cs D)) := by
  have HV := Lib.hid hv
  obtain ⟨A, c, rfl, hcc, hA, hr⟩ := hv
  have HVL := Lib.hid hvl
  have HE := Lib.hid hE
  have HC1 := Lib.hid hc1
  have HC2 := Lib.hid hc2
  have HC3 := Lib.hid hc3
  have HD := Lib.hid hD
  have HOK := Lib.hid hok
  have HT := Lib.hid ht
  have HBy := Lib.hid hby
  have HR := Lib.hid hr
  clear hvl hE hc1 hc2 hc3 hD hok ht hby hr hA
  go_enter Tryd.func14, Tryd.ntmps14
  go_wp2_with fail
  refine (lent_c A c d w HR.out (by omega)).mono ?_
  rintro e w1 ⟨gl, rfl, hgl, hk1, hb1⟩
  have HB1 := Lib.hid hb1
  have HK1 := Lib.hid hk1
  have c1 : w1.cell? ⟨E, i, none⟩ = some D.x.ptr := ((HE.out.below hb1 HE.out.lt).cell i).trans HC1.out
  have HL1 := Lib.hid (HD.out.link.below hb1)
  have HL2 := Lib.hid (send_c (.slice (some ⟨gl, 0, none⟩) d.length (d.length + 3)) d HL1.out HOK.out.lok (lent_sl hk1 HBy.out hd) (HT.out.below hb1) HBy.out)
  have hii : (i : Int) < 2 := by omega
  clear hk1 hb1
  go_wp2_with fail
  refine HL2.out.mono ?_
  rintro e w2 h2
  obtain ⟨vl, gs, rfl, hrow2, hR2, hL2, hf2⟩ := h2.uni HL1.out
  obtain ⟨es, tw, rok, lok, zro, hsl, htl⟩ := send_same HOK.out.twin HOK.out.lok HOK.out.rok HOK.out.zero d
  obtain ⟨dn, dl⟩ := sendA_ds HOK.out.lok HBy.out
  obtain ⟨a, ha⟩ : ∃ a, a = D.s.sendA d := ⟨_, rfl⟩
  rw [← ha] at hrow2 hR2 es dn dl ⊢
  have HA := Lib.hid (And.intro tw (And.intro rok (And.intro lok (And.intro zro (And.intro hsl htl)))))
  have HDL := Lib.hid dl
  have hsz1 : w.heap.size ≤ w1.heap.size := HB1.out.size
  have hgl2 : gl < w1.heap.size := HK1.out.lt
  have hsz2 : w1.heap.size ≤ w2.heap.size := hf2.size
  have HF2 : Hid (Fr (S3 D.x.g D.x.a D.x.p) w w2) := (Fr.of_below HB1.out).trans hf2 (fun _ _ e => e)
  have HRw := Lib.hid hrow2
  have HRs := Lib.hid hR2
  have HL2' := Lib.hid hL2
  have HK2 : Hid (Blk w2 gl 5 (U8s (d ++ [77, 77, 77])).toArray) := HK1.out.fr hf2 (HL1.out.ne_S3 HK1.out (by decide))
  have HR2 : Hid (Reads w2 w.heap.size A d.length (U8s d)) := HR.out.keepB HF2.out (Nat.le_refl _) (fun h0 ad e => fun q => (HVL.out h0 ad d.length c (by rw [e])).2 (.inl q))
  obtain ⟨Al, cl, hle⟩ := own_slice hrow2
  subst hle
  have HES := Lib.hid es
  clear h2 hrow2 hR2 hL2 hf2 tw rok lok zro hsl htl ha HL2 c1 dl es
  go_wp2_with fail
  refine (kept_c gl c w.heap.size A d w2 HK2.out HR2.out hgl (by omega)).mono ?_
  rintro e w3 ⟨rfl, hf3⟩
  have HF3 : Hid (Fr (fun k => S3 D.x.g D.x.a D.x.p k ∨ k = gl) w w3) := (HF2.out.mono (fun _ _ e => .inl e)).trans hf3 (fun _ _ e => .inr e)
  have hsz3 : w2.heap.size ≤ w3.heap.size := hf3.size
  have HX3 : Hid (Blk w3 E 32 cs) := HE.out.fr HF3.out (by
    rintro (e | e)
    · exact HD.out.link.ne_S3 HE.out (by decide) e
    · have := HE.out.lt; omega)
  have HRf3 : Hid (RefAt w3 D.g (refS D.g D.v D.r) D.v D.r) := HD.out.ref.keep HF3.out (fun k hk => by
    rintro (e | e)
    · obtain ⟨t, cs', hb, ht⟩ := HD.out.ref.kind hk
      exact HD.out.link.ne_S3 hb (by rcases ht with rfl | rfl | rfl | rfl <;> decide) e
    · have := HD.out.ref.lt hk; omega)
  have HVn : Hid (0 < d.length → ∀ A' m' c', Value.slice A d.length c = .slice (some A') m' c' → ¬ refS D.g D.v D.r A'.block) := fun h0 A' m' c' e q => (HVL.out h0 A' m' c' e).2 (.inr q)
  have HV3 : Hid (SlB w3 (.slice A d.length c) d) := HV.out.fr0 HF3.out (fun h0 A' m' c' e => by
    obtain ⟨q1, q2⟩ := HVL.out h0 A' m' c' e
    rintro (e | e)
    · exact q2 (.inl e)
    · omega)
  have HRw3 : Hid (w3.ownsRow w1.heap.size 36 1 (.slice Al a.ds.length cl) a.ds.length (rowV gs a.ds)) := ownsRow_fr HRw.out hf3 (fun k e q => by
    have := (HRw.out.lt k e).1
    have q : k = gl := q
    omega)
  have HRs3 : Hid (Rows w3 w1.heap.size gs a.ds) := HRs.out.fr hf3 (fun k cs' _ hk e => by have e : k = gl := e; omega)
  have HL3 : Hid (LinkAt w3 D.x.g D.x.a D.x.p (fun k => k < w.heap.size) (D.s.sendT d)) := HL2'.out.fr hf3 (fun e => by have := HD.out.link.lt_S3 (.inl rfl); have e : D.x.g = gl := e; omega) (fun e => by have := HD.out.link.lt_S3 (.inr (.inl rfl)); have e : D.x.a = gl := e; omega) (fun e => by have := HD.out.link.lt_S3 (.inr (.inr rfl)); have e : D.x.p = gl := e; omega) (fun k cs' hk _ e => by have e : k = gl := e; omega)
  have c2 : w3.cell? ⟨E, 2 + i, none⟩ = some (.pointer (some ⟨D.g, 0, none⟩)) := (HX3.out.cell (2 + i)).trans HC2.out
  have HQ4 := Lib.hid (rsend_c (.slice A d.length c) d HRf3.out HOK.out.rok (by have := HOK.out.ns; omega) (by have := HOK.out.nt; omega) HV3.out HVn.out HBy.out)
  have HGs : Hid (∀ q ∈ gs, w1.heap.size ≤ q ∧ q < w3.heap.size) := fun q hq => by
    obtain ⟨j, hj⟩ := List.getElem?_of_mem hq
    have hl : j < a.ds.length := by have := (List.getElem?_eq_some_iff.1 hj).1; have := HRs3.out.len; omega
    exact ⟨(HRs3.out.each j q _ hj (List.getElem?_eq_getElem hl)).1, HRs3.out.lt q hq⟩
  clear hf3 HL2' HRw HRs HK2 HR2
  go_wp2_with fail
  refine HQ4.out.mono ?_
  rintro e w4 h4
  obtain ⟨vm, xs, v', rfl, hrow4, hg4, hR4, hf4⟩ := h4.uni HRf3.out
  rw [HES.out] at hrow4 hg4 ⊢
  have hsz4 : w3.heap.size ≤ w4.heap.size := hf4.size
  have HRw4 : Hid (w4.ownsRow w1.heap.size 36 1 (.slice Al a.ds.length cl) a.ds.length (rowV gs a.ds)) := ownsRow_fr HRw3.out hf4 (fun k e q => HRf3.out.ne_own q HRw3.out (by decide) e)
  have HRs4 : Hid (Rows w4 w1.heap.size gs a.ds) := HRs3.out.fr hf4 (fun k cs' hb _ e => HRf3.out.ne_blk e hb (by decide) rfl)
  have HL4 : Hid (LinkAt w4 D.x.g D.x.a D.x.p (fun k => k < w.heap.size) (D.s.sendT d)) := by
    obtain ⟨mm, hmm, _⟩ := HL3.out.pm
    exact HL3.out.fr hf4 (fun e => HRf3.out.ne_blk e HL3.out.blk (by decide) rfl) (fun e => HRf3.out.ne_map e HL3.out.am rfl) (fun e => HRf3.out.ne_map e hmm rfl) (fun k cs' hk hb e => HRf3.out.ne_blk e hb (by decide) rfl)
  have HX4 : Hid (Blk w4 E 32 cs) := HX3.out.fr hf4 (fun e => HRf3.out.ne_blk e HX3.out (by decide) rfl)
  have HR4 := Lib.hid hR4
  have HF4 : Hid (Fr (fun k => touch D k ∨ k = gl) w w4) := (HF3.out.mono (fun _ _ e => e.elim (fun e => .inl (.inl e)) .inr)).trans hf4 (fun _ _ e => .inl (.inr e))
  have HRm4 := Lib.hid hrow4
  have HG4 := Lib.hid hg4
  obtain ⟨Am, cm, hme⟩ := own_slice hrow4
  subst hme
  have HAn := Lib.hid (show (a.ds.length ≤ 10) from dn)
  clear h4 hrow4 hg4 hR4 hf4 HQ4 HL3 HRw3 HRs3 c2 HX3 HRf3 HV3
  obtain ⟨m, hm⟩ : ∃ m, m = a.ds.length := ⟨_, rfl⟩
  rw [← hm] at HRw4 HRm4 dn ⊢
  have HM := Lib.hid hm
  clear hm
  go_wp2_with fail
  go_loopg [15] m (fun gg s15 wr => ∃ k : Nat, k + gg = m ∧ s15 = .int .i64 (k : Int) ∧ Below w4.heap.size w4 wr)
  case atStart => exact ⟨0, by omega, rfl, Below.refl _ _⟩
  case round =>
    obtain ⟨k, hk, rfl, hbk⟩ := hrel
    have HBk := Lib.hid hbk
    clear hbk
    cases gk with
    | zero =>
      obtain rfl : k = m := by omega
      have hd : decide (k < k) = false := by simp
      go_upto_region 12 with (fail)
      have HEr : Hid (Blk wr E 32 cs) := HX4.out.below HBk.out HX4.out.lt
      have HSV : Hid (wr.ownsRow B 36 1 D.sv D.ds.length D.xs) := ownsRow_fr (S := fun _ => False) (ownsRow_fr HD.out.row HF4.out (fun q e => by
        rintro (e2 | e2)
        · exact HD.out.touch_own HD.out.row (by decide) q e e2
        · have := (HD.out.row.lt q e).2; omega)) (Fr.of_below HBk.out) (fun _ _ h => h)
      have HRwr : Hid (wr.ownsRow w1.heap.size 36 1 (.slice Al k cl) k (rowV gs a.ds)) := ownsRow_fr (S := fun _ => False) HRw4.out (Fr.of_below HBk.out) (fun _ _ h => h)
      have HRmr : Hid (wr.ownsRow w3.heap.size 36 1 (.slice Am k cm) k xs) := ownsRow_fr (S := fun _ => False) HRm4.out (Fr.of_below HBk.out) (fun _ _ h => h)
      have HRsr : Hid (Rows wr w1.heap.size gs a.ds) := HRs4.out.fr (S := fun _ => False) (Fr.of_below HBk.out) (fun _ _ _ _ h => h)
      have HGr : Hid (Gram2 wr (fun q => w3.heap.size ≤ q) xs a.ds) := HG4.out.fr (S := fun _ => False) (Fr.of_below HBk.out) (fun _ _ _ _ h => h)
      have HLr := Lib.hid (HL4.out.below HBk.out)
      have HRr := Lib.hid (HR4.out.below HBk.out)
      have HFr : Hid (Fr (fun k => touch D k ∨ k = gl) w wr) := HF4.out.trans (Fr.of_below (S := fun _ => False) HBk.out) (fun _ _ e => e.elim)
      have hszr : w4.heap.size ≤ wr.heap.size := HBk.out.size
      obtain ⟨As, csv, hsv⟩ := own_slice HD.out.row
      obtain ⟨nsv, hnsv⟩ : ∃ nsv, nsv = D.ds.length := ⟨_, rfl⟩
      rw [← hnsv] at hsv
      have HN := Lib.hid hnsv
      have HSe := Lib.hid hsv
      have hnd := HOK.out.nd
      rw [← hnsv] at hnd
      clear hsv hnsv HRw4 HRm4 HRs4 HG4 HL4 HR4 HF4 HX4 HF2 HF3
      have HSd : Hid (wr.drew.ownsRow B 36 1 (.slice As nsv csv) nsv D.xs) := by rw [← HSe.out, HN.out]; exact HSV.out
      have c4 : wr.drew.cell? ⟨E, 4 + i, none⟩ = some (.slice As nsv csv) := ((HEr.out.cell (4 + i)).trans HC3.out).trans (by rw [HSe.out])
      refine wp_region_T (S := fun w1 => w1.cell? ⟨E, 4 + i, none⟩ = some (.slice As nsv csv)) 13 (by kernel_rfl) c4 (fun hH0 => ?_)
      refine wpAnyT_take (i := 0) (oi := { dst := some 81, op := Op.move (Operand.tmp 0), type := 24, pos := "law.go:73", after := #[], guard := none }) (v := ?v0) rfl (by kernel_rfl) (by kernel_rfl) (by kernel_rfl) (by kernel_rfl) (fun _ _ _ h => h) (Or.inl ⟨by rfl, ?h0⟩) hH0 ?r0
      case h0 => intro w' hSw; (try dsimp only at hSw); go_simp; (try with_reducible rfl)
      simp only [Act.put, List.setIfInBounds_toArray, List.set_cons_zero, List.set_cons_succ]
      refine wpAnyT_take (i := 1) (oi := { dst := some 82, op := Op.move (Operand.tmp 1), type := 3, pos := "law.go:73", after := #[], guard := none }) (v := ?v1) rfl (by kernel_rfl) (by kernel_rfl) (by kernel_rfl) (by kernel_rfl) (fun _ _ _ h => h) (Or.inl ⟨by rfl, ?h1⟩) hH0 ?r1
      case h1 => intro w' hSw; (try dsimp only at hSw); go_simp; (try with_reducible rfl)
      simp only [Act.put, List.setIfInBounds_toArray, List.set_cons_zero, List.set_cons_succ]
      refine wpAnyT_take (i := 2) (oi := { dst := some 83, op := Op.move (Operand.tmp 0), type := 24, pos := "law.go:73", after := #[], guard := none }) (v := ?v2) rfl (by kernel_rfl) (by kernel_rfl) (by kernel_rfl) (by kernel_rfl) (fun _ _ _ h => h) (Or.inl ⟨by rfl, ?h2⟩) hH0 ?r2
      case h2 => intro w' hSw; (try dsimp only at hSw); go_simp; (try with_reducible rfl)
      simp only [Act.put, List.setIfInBounds_toArray, List.set_cons_zero, List.set_cons_succ]
      refine wpAnyT_take (i := 3) (oi := { dst := some 84, op := Op.move (Operand.tmp 1), type := 3, pos := "law.go:73", after := #[], guard := none }) (v := ?v3) rfl (by kernel_rfl) (by kernel_rfl) (by kernel_rfl) (by kernel_rfl) (fun _ _ _ h => h) (Or.inl ⟨by rfl, ?h3⟩) hH0 ?r3
      case h3 => intro w' hSw; (try dsimp only at hSw); go_simp; (try with_reducible rfl)
      simp only [Act.put, List.setIfInBounds_toArray, List.set_cons_zero, List.set_cons_succ]
      refine wpAnyT_take (i := 4) (oi := { dst := some 85, op := Op.nilCheck (Operand.tmp 83), type := 0, pos := "law.go:73", after := #[{ on := 2, ground := Ground.data }], guard := none }) (v := ?v4) rfl (by kernel_rfl) (by kernel_rfl) (by kernel_rfl) (by kernel_rfl) (fun _ _ _ h => h) (Or.inl ⟨by rfl, ?h4⟩) hH0 ?r4
      case h4 => intro w' hSw; (try dsimp only at hSw); go_simp; (try with_reducible rfl)
      simp only [Act.put, List.setIfInBounds_toArray, List.set_cons_zero, List.set_cons_succ]
      refine wpAnyT_take (i := 5) (oi := { dst := some 86, op := Op.fieldAddr 32 (Operand.tmp 85) 2, type := 0, pos := "law.go:73", after := #[{ on := 4, ground := Ground.data }], guard := none }) (v := ?v5) rfl (by kernel_rfl) (by kernel_rfl) (by kernel_rfl) (by kernel_rfl) (fun _ _ _ h => h) (Or.inl ⟨by rfl, ?h5⟩) hH0 ?r5
      case h5 => intro w' hSw; (try dsimp only at hSw); go_simp; (try with_reducible rfl)
      simp only [Act.put, List.setIfInBounds_toArray, List.set_cons_zero, List.set_cons_succ]
      refine wpAnyT_take (i := 6) (oi := { dst := some 87, op := Op.indexAddr 30 (Operand.tmp 86) (Operand.tmp 84), type := 0, pos := "law.go:73", after := #[{ on := 5, ground := Ground.data }, { on := 3, ground := Ground.data }], guard := none }) (v := ?v6) rfl (by kernel_rfl) (by kernel_rfl) (by kernel_rfl) (by kernel_rfl) (fun _ _ _ h => h) (Or.inl ⟨by rfl, ?h6⟩) hH0 ?r6
      case h6 => intro w' hSw; (try dsimp only at hSw); go_simp; (try with_reducible rfl)
      simp only [Act.put, List.setIfInBounds_toArray, List.set_cons_zero, List.set_cons_succ]
      refine wpAnyT_take (i := 7) (oi := { dst := some 88, op := Op.load 29 (Operand.tmp 87), type := 29, pos := "law.go:73", after := #[{ on := 6, ground := Ground.data }], guard := none }) (v := ?v7) rfl (by kernel_rfl) (by kernel_rfl) (by kernel_rfl) (by kernel_rfl) (fun _ _ _ h => h) (Or.inl ⟨by rfl, ?h7⟩) hH0 ?r7
      case h7 => intro w' hSw; (try dsimp only at hSw); go_simp; (try with_reducible rfl)
      simp only [Act.put, List.setIfInBounds_toArray, List.set_cons_zero, List.set_cons_succ]
      refine wpAnyT_take (i := 8) (oi := { dst := some 89, op := Op.move (Operand.tmp 12), type := 29, pos := "law.go:73", after := #[], guard := none }) (v := ?v8) rfl (by kernel_rfl) (by kernel_rfl) (by kernel_rfl) (by kernel_rfl) (fun _ _ _ h => h) (Or.inl ⟨by rfl, ?h8⟩) hH0 ?r8
      case h8 => intro w' hSw; (try dsimp only at hSw); go_simp; (try with_reducible rfl)
      simp only [Act.put, List.setIfInBounds_toArray, List.set_cons_zero, List.set_cons_succ]
      refine wpAnyT_takeZ [11, 12, 13] (i := 10) (oi := { dst := some 91, op := Op.nilCheck (Operand.tmp 81), type := 0, pos := "law.go:73", after := #[{ on := 0, ground := Ground.data }], guard := none }) (v := ?v10) rfl (by kernel_rfl) (by kernel_rfl) (by kernel_rfl) (by kernel_rfl) (by decide) (by kernel_rfl) (fun _ _ _ h => h) (Or.inl ⟨by rfl, ?h10⟩) hH0 ?r10
      case h10 => intro w' hSw; (try dsimp only at hSw); go_simp; (try with_reducible rfl)
      simp only [Act.put, List.setIfInBounds_toArray, List.set_cons_zero, List.set_cons_succ]
      refine wpAnyT_takeZ [12, 13] (i := 11) (oi := { dst := some 92, op := Op.fieldAddr 32 (Operand.tmp 91) 2, type := 0, pos := "law.go:73", after := #[{ on := 10, ground := Ground.data }], guard := none }) (v := ?v11) rfl (by kernel_rfl) (by kernel_rfl) (by kernel_rfl) (by kernel_rfl) (by decide) (by kernel_rfl) (fun _ _ _ h => h) (Or.inl ⟨by rfl, ?h11⟩) hH0 ?r11
      case h11 => intro w' hSw; (try dsimp only at hSw); go_simp; (try with_reducible rfl)
      simp only [Act.put, List.setIfInBounds_toArray, List.set_cons_zero, List.set_cons_succ]
      refine wpAnyT_one (i := 9) (o := { dst := some 90, op := Op.call { callee := Callee.builtin Builtin.append, args := #[Operand.tmp 88, Operand.tmp 89], argTypes := #[29, 29] }, type := 29, pos := "law.go:73", after := #[{ on := 7, ground := Ground.data }, { on := 8, ground := Ground.data }], guard := none }) (by kernel_rfl) rfl (fun K hK => ?_)
      rw [if_pos (by rfl)]
      refine wp_append36 (.tmp 88) (.tmp 89) rfl B w3.heap.size _ _ nsv k D.xs xs rfl HSd.out rfl HRmr.out (gram_one HGr.out) (by omega) (by show B ≤ wr.heap.size; omega) ?_
      intro v9 w9 hown9 hgrow9 hb9
      obtain ⟨A9, c9, rfl⟩ := own_slice hown9
      have hf9 : Fr (fun q => D.sv.ownBlock = some q) wr w9 := (Fr.refl (fun q => D.sv.ownBlock = some q) wr).drew.trans (Fr.of_grown hgrow9 (fun q _ e => by rw [HSe.out]; exact e)) (fun _ _ e => e)
      have hne9 : D.sv.ownBlock ≠ some E := own_ne_blk HSV.out HEr.out (by decide)
      have hE9 : Blk w9 E 32 cs := HEr.out.fr hf9 hne9
      have cE9 : w9.cell? ⟨E, 4 + i, none⟩ = some (.slice As nsv csv) := ((hE9.cell (4 + i)).trans HC3.out).trans (by rw [HSe.out])
      have fE9 : w9.frozen? ⟨E, 4 + i, none⟩ = false := hE9.frozen (4 + i)
      have HO9 := Lib.hid hown9
      have HF9 := Lib.hid hf9
      have HE9 := Lib.hid hE9
      have HB9 : Hid ((Value.slice A9 (nsv + k) c9).ownBlock = (Value.slice As nsv csv).ownBlock ∨ (Value.slice A9 (nsv + k) c9).ownBlock = some wr.heap.size) := hb9
      clear hown9 hgrow9 hf9 hE9 hne9 hb9
      refine hK.out _ _ (fun _ => cE9) ?_
      clear hK K
      simp only [Act.put, List.setIfInBounds_toArray, List.set_cons_zero, List.set_cons_succ]
      refine wpAnyT_one (i := 12) (o := { dst := some 93, op := Op.indexAddr 30 (Operand.tmp 92) (Operand.tmp 82), type := 0, pos := "law.go:73", after := #[{ on := 11, ground := Ground.data }, { on := 1, ground := Ground.data }, { on := 0, ground := Ground.phase }, { on := 1, ground := Ground.phase }, { on := 2, ground := Ground.phase }, { on := 3, ground := Ground.phase }, { on := 4, ground := Ground.phase }, { on := 5, ground := Ground.phase }, { on := 6, ground := Ground.phase }, { on := 7, ground := Ground.phase }, { on := 8, ground := Ground.phase }, { on := 9, ground := Ground.phase }], guard := none }) (by kernel_rfl) rfl (fun K hK => ?_)
      go_simp
      go_wp2_with fail
      refine hK.out _ _ (fun _ => cE9) ?_
      clear hK K
      refine wpAnyT_one (i := 13) (o := { dst := none, op := Op.store 29 (Operand.tmp 93) (Operand.tmp 90), type := 0, pos := "law.go:73", after := #[{ on := 12, ground := Ground.data }, { on := 9, ground := Ground.data }, { on := 9, ground := Ground.chain }, { on := 0, ground := Ground.phase }, { on := 1, ground := Ground.phase }, { on := 2, ground := Ground.phase }, { on := 3, ground := Ground.phase }, { on := 4, ground := Ground.phase }, { on := 5, ground := Ground.phase }, { on := 6, ground := Ground.phase }, { on := 7, ground := Ground.phase }, { on := 8, ground := Ground.phase }, { on := 9, ground := Ground.phase }], guard := none }) (by kernel_rfl) rfl (fun K hK => ?_)
      go_simp
      go_wp2_with fail
      refine hK.out _ _ (fun h => absurd rfl h) ?_
      clear hK K
      refine wpAnyT_done (by kernel_rfl) ?_ _
      clear hH0 c4 cE9 fE9
      have hO10 : (w9.setCell ⟨E, 4 + i, none⟩ (.slice A9 (nsv + k) c9)).ownsRow B 36 1 (.slice A9 (nsv + k) c9) (nsv + k) (D.xs ++ xs) := ownsRow_setCell_other HO9.out (own_ne_blk HO9.out HE9.out (by decide)) _
      have hE10 := HE9.out.set_ (4 + i) (.slice A9 (nsv + k) c9)
      have hf10 : Fr (fun q => D.sv.ownBlock = some q ∨ q = E) wr (w9.setCell ⟨E, 4 + i, none⟩ (.slice A9 (nsv + k) c9)) := (HF9.out.mono (fun _ _ e => .inl e)).trans (Fr.set (S := fun q => q = E) w9 (p := ⟨E, 4 + i, none⟩) rfl _) (fun _ _ e => .inr e)
      generalize w9.setCell ⟨E, 4 + i, none⟩ (.slice A9 (nsv + k) c9) = w10 at hO10 hE10 hf10 ⊢
      have hn5 : ∀ q cs', Blk wr q 5 cs' → ¬ (D.sv.ownBlock = some q ∨ q = E) := fun q cs' hq => by
        rintro (e | e)
        · exact own_ne_blk HSV.out hq (by decide) e
        · exact hq.ne_ HEr.out (by decide) e
      have HRw10 : Hid (w10.ownsRow w1.heap.size 36 1 (.slice Al k cl) k (rowV gs a.ds)) := ownsRow_fr HRwr.out hf10 (fun q e => by
        rintro (e2 | e2)
        · have := (HRwr.out.lt q e).1; have := (HD.out.row.lt q e2).2; omega
        · have e2 : q = E := e2
          exact own_ne_blk HRwr.out HEr.out (by decide) (by rw [e, e2]))
      have HRs10 : Hid (Rows w10 w1.heap.size gs a.ds) := HRsr.out.fr hf10 (fun q cs' hq _ => hn5 q cs' hq)
      have HOw := Lib.hid (ownedR_c (vl := .slice Al k cl) (by rw [← HM.out]; exact HRw10.out) HRs10.out HAn.out HDL.out)
      have HO10 := Lib.hid hO10
      have HE10 := Lib.hid hE10
      have HF10 := Lib.hid hf10
      have HN5 := Lib.hid hn5
      clear hO10 hE10 hf10 hn5
      go_wp2_with fail
      refine HOw.out.mono ?_
      rintro e w11 ⟨rfl, hf11⟩
      have HF11 := Lib.hid hf11
      clear hf11 HOw
      go_wp2_with fail
      go_ret
      have hg5 : ∀ q ∈ gs, ∃ cs', Blk w10 q 5 cs' := fun q hq => by
        obtain ⟨j, hj⟩ := List.getElem?_of_mem hq
        have hl : j < a.ds.length := by have := (List.getElem?_eq_some_iff.1 hj).1; have := HRs10.out.len; omega
        exact ⟨_, (HRs10.out.each j q _ hj (List.getElem?_eq_getElem hl)).2⟩
      have hsz10 : wr.heap.size ≤ w10.heap.size := HF10.out.size
      have hszw : wr.heap.size ≤ w11.heap.size := by have := HF11.out.size; omega
      have L10 : LinkAt w10 D.x.g D.x.a D.x.p (fun k => k < w.heap.size) (D.s.sendT d) := by
        obtain ⟨mm, hmm, _⟩ := HLr.out.pm
        refine HLr.out.fr HF10.out ?_ ?_ ?_ (fun q cs' _ hb => HN5.out q cs' hb)
        · rintro (e | e)
          · exact own_ne_blk HSV.out HLr.out.blk (by decide) e
          · exact HLr.out.blk.ne_ HEr.out (by decide) e
        · rintro (e | e)
          · exact own_ne_map HSV.out HLr.out.am e
          · exact HLr.out.am.ne_blk HEr.out e
        · rintro (e | e)
          · exact own_ne_map HSV.out hmm e
          · exact hmm.ne_blk HEr.out e
      have R10 : RefAt w10 D.g (fun k => refS D.g D.v D.r k ∨ w3.heap.size ≤ k) v' (D.r.sendT d) := HRr.out.keep HF10.out (fun q hq => by
        rintro (e | e)
        · exact HRr.out.ne_own hq HSV.out (by decide) e
        · exact HRr.out.ne_blk hq HEr.out (by decide) e)
      have G0 : Gram2 wr (fun k => k < w.heap.size) D.xs D.ds := HD.out.gr.fr HFr.out (fun q cs' hq hb => by
        rintro (e | e)
        · exact HD.out.touch_ne hb (by decide) e
        · omega)
      have G1 : Gram2 w11 (fun k => k < w11.heap.size) D.xs D.ds := ((G0.fr HF10.out (fun q cs' _ hb => HN5.out q cs' hb)).fr HF11.out (fun q cs' hq _ e => by have := (HGs.out q e).1; omega)).wide (fun _ _ _ hb => hb.lt)
      have G2 : Gram2 w11 (fun k => k < w11.heap.size) xs a.ds := ((HGr.out.fr HF10.out (fun q cs' _ hb => HN5.out q cs' hb)).fr HF11.out (fun q cs' hq _ e => by have := (HGs.out q e).2; omega)).wide (fun _ _ _ hb => hb.lt)
      have FT : Fr (fun k => touch D k ∨ k = E ∨ D.sv.ownBlock = some k) w w11 := by
        have h3 : Fr (fun k => ((touch D k ∨ k = gl) ∨ (D.sv.ownBlock = some k ∨ k = E)) ∨ k ∈ gs) w wr := HFr.out.mono (fun _ _ e => .inl (.inl e))
        refine ((h3.trans HF10.out (fun _ _ e => .inl (.inr e))).trans HF11.out (fun _ _ e => .inr e)).mono (fun q hq => ?_)
        rintro (((e | e) | (e | e)) | e)
        · exact .inl e
        · omega
        · exact .inr (.inr e)
        · exact .inr (.inl e)
        · have := (HGs.out q e).1; omega
      refine ⟨rfl, ⟨D.x, D.s.sendT d, D.g, v', D.r.sendT d, .slice A9 (nsv + k) c9, D.xs ++ xs, D.ds ++ a.ds⟩, ⟨?_, ?_, ?_, ?_⟩, ⟨HA.out.2.2.1, HA.out.2.2.2.1, HA.out.2.1, HA.out.1, ?_, ?_, ?_, ?_⟩, rfl, rfl, ⟨?_, ?_⟩, FT, fun q hq => ?_⟩
      · refine (L10.fr HF11.out (fun e => ?_) (fun e => ?_) (fun e => ?_) (fun q cs' hq _ e => by have := (HGs.out q e).1; omega)).wide2 (fun _ _ _ hb => hb.lt)
        · obtain ⟨cs', hb⟩ := hg5 _ e; exact hb.ne_ L10.blk (by decide) rfl
        · obtain ⟨cs', hb⟩ := hg5 _ e; exact L10.am.ne_blk hb rfl
        · obtain ⟨mm, hmm, _⟩ := L10.pm
          obtain ⟨cs', hb⟩ := hg5 _ e; exact hmm.ne_blk hb rfl
      · exact (R10.keep HF11.out (fun q hq e => by obtain ⟨cs', hb⟩ := hg5 _ e; exact R10.ne_blk hq hb (by decide) rfl)).self
      · show w11.ownsRow B 36 1 _ (D.ds ++ a.ds).length _
        rw [List.length_append, ← HN.out, ← HM.out]
        exact ownsRow_fr HO10.out HF11.out (fun q e e2 => by obtain ⟨cs', hb⟩ := hg5 _ e2; exact own_ne_blk HO10.out hb (by decide) e)
      · exact G1.app G2
      · intro x hx
        exact (List.mem_append.1 hx).elim (HOK.out.dl x) (HDL.out x)
      · show (D.r.sendT d).sent.length ≤ n + 1
        have := HA.out.2.2.2.2.1; have := HOK.out.ns; omega
      · show (D.r.sendT d).told.length ≤ n + 1
        rw [HA.out.2.2.2.2.2]; have := HOK.out.nt; omega
      · show (D.ds ++ a.ds).length ≤ 10 * (n + 1)
        rw [List.length_append]; have := HOK.out.nd; have := HAn.out; omega
      · exact HE10.out.fr HF11.out (fun e => by obtain ⟨cs', hb⟩ := hg5 _ e; exact hb.ne_ HE10.out (by decide) rfl)
      · rcases HB9.out with e | e
        · exact .inl (e.trans (by rw [HSe.out]))
        · exact .inr ⟨wr.heap.size, e, by omega⟩
      · rcases HRr.out.sub hq with e | e | e
        · exact .inl (.inl e)
        · exact .inl e
        · exact .inr (by omega)
    | succ gk =>
      have hd : decide (k < m) = true := by rw [decide_eq_true_eq]; omega
      have hkl : k < m := by omega
      have hkd : k < a.ds.length := by rw [← HM.out]; exact hkl
      have hk1 : a.ds[k]? = some (a.ds.getD k []) := by rw [List.getD_eq_getElem?_getD, List.getElem?_eq_getElem hkd]; rfl
      have hrv := rowV_get HRs4.out.len k hkd
      obtain ⟨h1, c1', hv1, _, _⟩ := World.ownsRow.form HRw4.out (by omega)
      injection hv1 with q1 q2 q3
      subst q1 q3
      obtain ⟨h2, c2', hv2, _, _⟩ := World.ownsRow.form HRm4.out (by omega)
      injection hv2 with q4 q5 q6
      subst q4 q6
      have r1 := ownsRow_fr (S := fun _ => False) HRw4.out (Fr.of_below HBk.out) (fun _ _ h => h)
      have r2 := ownsRow_fr (S := fun _ => False) HRm4.out (Fr.of_below HBk.out) (fun _ _ h => h)
      have e1 := r1.cells (g := h1) rfl k _ hrv
      rw [addr0] at e1
      have hxl : k < xs.length := by rw [HG4.out.len]; exact hkd
      obtain ⟨xk, hxk⟩ : ∃ xk, xs[k]? = some xk := ⟨_, List.getElem?_eq_getElem hxl⟩
      have e2 := r2.cells (g := h2) rfl k _ hxk
      rw [addr0] at e2
      have hp := HG4.out.each k xk _ hxk hk1
      obtain ⟨Ak, ck, rfl, _⟩ := hp.1
      have hgk : gs[k]? = some (gs.getD k 0) := by rw [List.getD_eq_getElem?_getD, List.getElem?_eq_getElem (by rw [HRs4.out.len]; exact hkd)]; rfl
      obtain ⟨_, hbb⟩ := HRs4.out.each k _ _ hgk hk1
      have hf1 : FullB w4 0 (.slice (some ⟨gs.getD k 0, 0, none⟩) (a.ds.getD k []).length (a.ds.getD k []).length) (a.ds.getD k []) (some ⟨gs.getD k 0, 0, none⟩) (a.ds.getD k []) := FullB.exact hbb (Nat.zero_le _) rfl (by have := (HDL.out _ (List.mem_of_getElem? hk1)).1; unfold maxLen; omega) (HDL.out _ (List.mem_of_getElem? hk1)).2
      have v1 := fun q => ((hf1.sl.below HBk.out).draw q).conv
      have v2 := fun q => ((hp.1.below HBk.out).draw q).conv
      generalize a.ds.getD k [] = dk at *
      generalize gs.getD k 0 = gk' at *
      clear hp hbb hf1 hrv hk1 hgk hxk r1 r2 q2 q5
      go_wp2_with fail
      go_quiet (fail)
      go_wp2_with fail
      go_roundg gk
      case measure => omega
      case rel => exact ⟨k + 1, by omega, by go_num, below_draw HBk.out nq⟩

/- Both ends of LinkPlays together; what an act and what a look leave of them; same. -/
abbrev refP (g : Nat) : Value := .pointer (some ⟨g, 0, none⟩)
abbrev endC (D : Nat → EndD) : Array Value := #[(D 0).x.ptr, (D 1).x.ptr, refP (D 0).g, refP (D 1).g, (D 0).sv, (D 1).sv]
def upd (D : Nat → EndD) (m : Nat) (d : EndD) (k : Nat) : EndD := if k = m then d else D k
theorem two_cases {k : Nat} (h : k < 2) : k = 0 ∨ k = 1 := by omega
theorem endC_l (D : Nat → EndD) {k : Nat} (h : k < 2) : (endC D)[k]? = some (D k).x.ptr := by rcases two_cases h with rfl | rfl <;> rfl
theorem endC_x (D : Nat → EndD) {k : Nat} (h : k < 2) : (endC D)[2 + k]? = some (refP (D k).g) := by rcases two_cases h with rfl | rfl <;> rfl
theorem endC_s (D : Nat → EndD) {k : Nat} (h : k < 2) : (endC D)[4 + k]? = some (D k).sv := by rcases two_cases h with rfl | rfl <;> rfl
theorem endC_set (D : Nat → EndD) {m : Nat} (h : m < 2) {d : EndD} (hx : d.x = (D m).x) (hg : d.g = (D m).g) : (endC D).setIfInBounds (4 + m) d.sv = endC (upd D m d) := by
  rcases two_cases h with rfl | rfl
  · simp [endC, upd, hx, hg]
  · simp [endC, upd, hx, hg]
theorem endC_same (D : Nat → EndD) {m : Nat} (h : m < 2) {d : EndD} (hx : d.x = (D m).x) (hg : d.g = (D m).g) (hs : d.sv = (D m).sv) : endC D = endC (upd D m d) := by
  rcases two_cases h with rfl | rfl
  · simp [endC, upd, hx, hg, hs]
  · simp [endC, upd, hx, hg, hs]

/-- Both ends, behind n acts. -/
structure Two (w0 w : World) (E n : Nat) (D : Nat → EndD) : Prop where
  blk : Blk w E 32 (endC D)
  ends : ∀ k, k < 2 → EndAt w0.heap.size w (fun k => k < w.heap.size) (D k)
  oks : ∀ k, k < 2 → EndOk n (D k)
  ap : ∀ j k, j < 2 → k < 2 → j ≠ k → Apart (D j).x (D k).x
  rf : ∀ j k, j < 2 → k < 2 → j ≠ k → ∀ i, refS (D j).g (D j).v (D j).r i → ¬ refS (D k).g (D k).v (D k).r i
  rw_ : ∀ j k, j < 2 → k < 2 → j ≠ k → ∀ q, (D j).sv.ownBlock = some q → (D k).sv.ownBlock ≠ some q
  fr : ∀ k, k < 2 → (D k).x.from w0.heap.size
  gs : ∀ k, k < 2 → ∀ i, refS (D k).g (D k).v (D k).r i → w0.heap.size ≤ i
  hE : w0.heap.size ≤ E
  below : Below w0.heap.size w0 w

theorem EndOk.more {n m : Nat} {D : EndD} (h : EndOk n D) (hm : n ≤ m) : EndOk m D :=
  ⟨h.lok, h.zero, h.rok, h.twin, h.dl, Nat.le_trans h.ns hm, Nat.le_trans h.nt hm, by have := h.nd; omega⟩

theorem apart_S3 {w : World} {x y : Lk} {U U' : Nat → Prop} {sx sy : LS} (hx : LinkAt w x.g x.a x.p U sx) (hy : LinkAt w y.g y.a y.p U' sy) (ha : Apart x y) {i : Nat} (h1 : S3 y.g y.a y.p i) : ¬ S3 x.g x.a x.p i := by
  obtain ⟨mx, hmx, _⟩ := hx.pm
  obtain ⟨my, hmy, _⟩ := hy.pm
  rcases h1 with e | e | e <;> subst e
  · rintro (e | e | e)
    · exact ha.gg e.symm
    · exact hx.am.ne_blk hy.blk e.symm
    · exact hmx.ne_blk hy.blk e.symm
  · rintro (e | e | e)
    · exact hy.am.ne_blk hx.blk e
    · exact ha.aa e.symm
    · exact ha.pa e.symm
  · rintro (e | e | e)
    · exact hmy.ne_blk hx.blk e
    · exact ha.ap e.symm
    · exact ha.pp e.symm

section
variable {w0 w w' : World} {E n : Nat} {D : Nat → EndD}
theorem Two.look (h : Two w0 w E n D) (hb : Below w.heap.size w w') : Two w0 w' E n D :=
  ⟨h.blk.below hb h.blk.lt, fun k hk => ((h.ends k hk).below hb).bound, h.oks, h.ap, h.rf, h.rw_, h.fr, h.gs, h.hE, below_trans h.below hb⟩

/-- An act of the end m. -/
theorem Two.act (h : Two w0 w E n D) {m : Nat} (hm : m < 2) {d : EndD} {T : Nat → Prop} (hT : ∀ i, T i → touch (D m) i ∨ i = E ∨ (D m).sv.ownBlock = some i) (he : EndAt w0.heap.size w' (fun k => k < w'.heap.size) d) (ho : EndOk (n + 1) d) (hx : d.x = (D m).x) (_hg : d.g = (D m).g) (hf : Fr T w w')
    (hr : ∀ i, refS d.g d.v d.r i → refS (D m).g (D m).v (D m).r i ∨ w.heap.size ≤ i) (hblk : Blk w' E 32 (endC (upd D m d))) (hsv : d.sv.ownBlock = (D m).sv.ownBlock ∨ ∃ k, d.sv.ownBlock = some k ∧ w.heap.size ≤ k) : Two w0 w' E (n + 1) (upd D m d) := by
  have e0 := h.ends m hm
  have hsz := h.below.size
  have um : upd D m d m = d := by simp [upd]
  have uo : ∀ k, k ≠ m → upd D m d k = D k := fun k hk => by simp [upd, hk]
  have other : ∀ k, k < 2 → k ≠ m → EndAt w0.heap.size w' (fun k => k < w'.heap.size) (D k) := fun k hk hne => by
    have ek := h.ends k hk
    refine (ek.fr hf (fun i hi ht => ?_) (fun i hi ht => ?_) (fun i hi ht => ?_) (fun q cs _ hb ht => ?_)).bound
    · rcases hT i ht with (e | e) | e | e
      · exact apart_S3 e0.link ek.link (h.ap m k hm hk (Ne.symm hne)) hi e
      · obtain ⟨t, cs, hb, ht⟩ := e0.ref.kind e
        exact ek.link.ne_S3 hb (by rcases ht with rfl | rfl | rfl | rfl <;> decide) hi
      · rw [e] at hi
        exact ek.link.ne_S3 h.blk (by decide) hi
      · exact ek.touch_own e0.row (by decide) i e (.inl hi)
    · rcases hT i ht with (e | e) | e | e
      · obtain ⟨t, cs, hb, ht⟩ := ek.ref.kind hi
        exact e0.link.ne_S3 hb (by rcases ht with rfl | rfl | rfl | rfl <;> decide) e
      · exact h.rf m k hm hk (Ne.symm hne) i e hi
      · rw [e] at hi
        exact ek.ref.ne_blk hi h.blk (by decide) rfl
      · exact ek.touch_own e0.row (by decide) i e (.inr hi)
    · rcases hT i ht with e | e | e
      · exact e0.touch_own ek.row (by decide) i hi e
      · rw [e] at hi
        exact own_ne_blk ek.row h.blk (by decide) hi
      · exact h.rw_ m k hm hk (Ne.symm hne) i e hi
    · rcases hT q ht with e | e | e
      · exact e0.touch_ne hb (by decide) e
      · exact hb.ne_ h.blk (by decide) e
      · exact own_ne_blk e0.row hb (by decide) e
  refine ⟨hblk, fun k hk => ?_, fun k hk => ?_, fun j k hj hk hne => ?_, fun j k hj hk hne i => ?_, fun j k hj hk hne q => ?_, fun k hk => ?_, fun k hk i => ?_, h.hE, ?_⟩
  · by_cases e : k = m
    · rw [e, um]; exact he
    · rw [uo k e]; exact other k hk e
  · by_cases e : k = m
    · rw [e, um]; exact ho
    · rw [uo k e]; exact (h.oks k hk).more (Nat.le_succ _)
  · by_cases e : j = m
    · have e2 : k ≠ m := fun q => hne (e.trans q.symm)
      rw [e, um, uo k e2, hx]; exact h.ap m k hm hk (Ne.symm e2)
    · by_cases e2 : k = m
      · rw [e2, um, uo j e, hx]; exact h.ap j m hj hm e
      · rw [uo j e, uo k e2]; exact h.ap j k hj hk hne
  · by_cases e : j = m
    · have e2 : k ≠ m := fun q => hne (e.trans q.symm)
      rw [e, um, uo k e2]
      intro hi h2
      rcases hr i hi with h1 | h1
      · exact h.rf m k hm hk (Ne.symm e2) i h1 h2
      · have := (h.ends k hk).ref.lt h2; omega
    · by_cases e2 : k = m
      · rw [e2, um, uo j e]
        intro h2 hi
        rcases hr i hi with h1 | h1
        · exact h.rf j m hj hm e i h2 h1
        · have := (h.ends j hj).ref.lt h2; omega
      · rw [uo j e, uo k e2]; exact h.rf j k hj hk hne i
  · by_cases e : j = m
    · have e2 : k ≠ m := fun q => hne (e.trans q.symm)
      rw [e, um, uo k e2]
      intro h1 h2
      rcases hsv with h3 | ⟨k3, h3, h4⟩
      · exact h.rw_ m k hm hk (Ne.symm e2) q (h3.symm.trans h1) h2
      · have h5 : k3 = q := by have := h3.symm.trans h1; injection this
        have := ((h.ends k hk).row.lt q h2).2; omega
    · by_cases e2 : k = m
      · rw [e2, um, uo j e]
        intro h2 h1
        rcases hsv with h3 | ⟨k3, h3, h4⟩
        · exact h.rw_ j m hj hm e q h2 (h3.symm.trans h1)
        · have h5 : k3 = q := by have := h3.symm.trans h1; injection this
          have := ((h.ends j hj).row.lt q h2).2; omega
      · rw [uo j e, uo k e2]; exact h.rw_ j k hj hk hne q
  · by_cases e : k = m
    · rw [e, um, hx]; exact h.fr m hm
    · rw [uo k e]; exact h.fr k hk
  · by_cases e : k = m
    · rw [e, um]
      intro hi
      rcases hr i hi with h1 | h1
      · exact h.gs m hm i h1
      · omega
    · rw [uo k e]; exact h.gs k hk i
  · refine Fr.base h.below hf (fun i hi => ?_)
    rcases hT i hi with (e | e) | e | e
    · exact from_S3 (h.fr m hm) i e
    · exact h.gs m hm i e
    · rw [e]; exact h.hE
    · exact (e0.row.lt i e).1
theorem Two.recv (h : Two w0 w E n D) {m : Nat} (hm : m < 2) {e : Ending} (hp : PlTo w0.heap.size w (D m) n (touch (D m)) (fun D' _ => D'.sv = (D m).sv ∧ D'.ds = (D m).ds) e w') : e = .returned (.bool true) ∧ ∃ D', Two w0 w' E (n + 1) D' := by
  obtain ⟨h0, d, h1, h2, h3, h4, h5, h6, h7⟩ := hp
  have hb : Blk w' E 32 (endC D) := h.blk.fr h6 ((h.ends m hm).touch_ne h.blk (by decide))
  rw [endC_same D hm h3 h4 h5.1] at hb
  exact ⟨h0, upd D m d, h.act hm (fun i hi => .inl hi) h1 h2 h3 h4 h6 h7 hb (.inl (by rw [h5.1]))⟩
theorem Two.send (h : Two w0 w E n D) {m : Nat} (hm : m < 2) {e : Ending} (hp : PlTo w0.heap.size w (D m) n (fun k => touch (D m) k ∨ k = E ∨ (D m).sv.ownBlock = some k) (SentP w E m (endC D) (D m)) e w') : e = .returned (.bool true) ∧ ∃ D', Two w0 w' E (n + 1) D' := by
  obtain ⟨h0, d, h1, h2, h3, h4, h5, h6, h7⟩ := hp
  have hb := h5.1
  rw [endC_set D hm h3 h4] at hb
  exact ⟨h0, upd D m d, h.act hm (fun i hi => hi) h1 h2 h3 h4 h6 h7 hb h5.2⟩
theorem Two.more (h : Two w0 w E n D) : Two w0 w E (n + 1) D :=
  ⟨h.blk, h.ends, fun k hk => (h.oks k hk).more (Nat.le_succ _), h.ap, h.rf, h.rw_, h.fr, h.gs, h.hE, h.below⟩
end

set_option maxRecDepth 100000 in
theorem same_c {w : World} {b1 b2 : Nat} {v1 v2 : Value} {l : List Nat} (h1 : w.ownsRow b1 3 1 v1 l.length (I64s l)) (h2 : w.ownsRow b2 3 1 v2 l.length (I64s l)) (hl : l.length ≤ 64) :
    Calls Tryd.prog 18 #[v1, v2] w fun e w' => e = .returned (.bool true) ∧ Below w.heap.size w w' := by
  obtain ⟨A1, c1, rfl⟩ := own_slice h1
  obtain ⟨A2, c2, rfl⟩ := own_slice h2
  have H1 := Lib.hid h1
  have H2 := Lib.hid h2
  clear h1 h2
  obtain ⟨m, hm⟩ : ∃ m, m = l.length := ⟨_, rfl⟩
  rw [← hm] at H1 H2 hl ⊢
  have HM := Lib.hid hm
  clear hm
  go_enter Tryd.func18, Tryd.ntmps18
  go_wp2_with fail
  go_loopg [5] m (fun gg s5 wr => ∃ k : Nat, k + gg = m ∧ s5 = .int .i64 (k : Int) ∧ Below w.heap.size w wr)
  case atStart => exact ⟨0, by omega, rfl, Below.refl _ _⟩
  case round =>
    obtain ⟨k, hk, rfl, hb⟩ := hrel
    have HB := Lib.hid hb
    clear hb
    cases gk with
    | zero =>
      obtain rfl : k = m := by omega
      have hd : decide (k < k) = false := by simp
      go_wp2_with fail
      go_ret
      exact ⟨rfl, HB.out⟩
    | succ gk =>
      have hd : decide (k < m) = true := by rw [decide_eq_true_eq]; omega
      have hkl : k < m := by omega
      have hx : (I64s l)[k]? = some (.int .i64 ((l.getD k 0 : Nat) : Int)) := by
        have : k < l.length := by rw [← HM.out]; exact hkl
        simp [I64s, this]
      obtain ⟨r1, d1, e1, _, _⟩ := World.ownsRow.form H1.out (by omega)
      injection e1 with q1 _ q2
      subst q1 q2
      obtain ⟨r2, d2, e2, _, _⟩ := World.ownsRow.form H2.out (by omega)
      injection e2 with q3 _ q4
      subst q3 q4
      have a1 := (ownsRow_fr (S := fun _ => False) H1.out (Fr.of_below HB.out) (fun _ _ h => h)).cells (g := r1) rfl k _ hx
      have a2 := (ownsRow_fr (S := fun _ => False) H2.out (Fr.of_below HB.out) (fun _ _ h => h)).cells (g := r2) rfl k _ hx
      rw [addr0] at a1 a2
      clear hx
      generalize l.getD k 0 = z at *
      go_wp2_with fail
      go_quiet (fail)
      go_wp2_with fail
      go_roundg gk
      case measure => omega
      case rel => exact ⟨k + 1, by omega, by go_num, below_draw HB.out nq⟩

end Go.Proofs.YtmlbhlfjaagcaaaDoor
