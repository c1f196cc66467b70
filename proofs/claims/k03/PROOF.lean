import PyProof.Rows.All
import Wide.All
import OpenK.AllK
import Wide.FinOn
import HandS.ForMost
import HandS.Wide
import HandS.WideBits
import HandS.TupAny
import HandS.IsInst
import HandS.SetFor
import HandS.SetTxt0
import HandS.Strs
import HandS.More
import HandS.EndBits
import PySem.Challenge.RW_toldwhensure_k03_windows_of_times
set_option Elab.async false
set_option linter.all false
set_option maxRecDepth 100000
/-! sets of texts: set(list of texts), sorted(such a set). The members are told as a list without duplicates. -/
namespace Tset
open PySem PySem.Spec PyProof.Rows L2 PySem.Froz
/-- the payload D has the texts l, can be walked and can be read in order -/
structure Pay (P : Program) (w : World) (D : SD) (l : List Str) : Prop where
  tx : TxOk P w D l
  ris : Ris D.2.2.place.toList
  led : w.params.followText "set-order" = true ∨ D.2.2.led = true
  nd : l.Nodup
def Holds (P : Program) (w : World) (h : Heap) (a : Addr) (l : List Str) : Prop := ∃ D : SD, h.get? a = some (sObj "set" D) ∧ Pay P w D l
section
variable {P : Program} {w : World} {A : Around} {E : Value → Shared → Prop} {s : Shared}
theorem Holds.kept {h h' : Heap} {a : Addr} {l : List Str} (x : Holds P w h a l) (k : ∀ o, h.get? a = some o → h'.get? a = some o) : Holds P w h' a l :=
  let ⟨D, e, r⟩ := x
  ⟨D, k _ e, r⟩
theorem Pay.tail {es : Array (Int × Value)} {t : SetTable} {l : List Str} (ep : Nat) (dm : Bool) (tx : TxOk P w (tailTx ep es t dm) l) (nd : l.Nodup) (r : Ris t.place.toList) (g : w.params.followText "set-order" = true ∨ t.led = true) :
    Pay P w (tailTx ep es t dm) l := by
  refine ⟨tx, ?_, ?_, nd⟩ <;> unfold tailTx <;> split
  · exact relayAll_ris _ _ _
  · exact r
  · rcases g with g | g
    · exact .inl g
    · exact .inr ((relayAll_led _ _ _).trans g)
  · exact g
theorem Pay.add {D : SD} {l : List Str} {k : Str} (u : Tok) (x : Pay P w D l) (hk : k ∉ l) : Pay P w (addTx (hashStr w k) (.str k u) D) (k :: l) := by
  have tx := add_ok (k := k) u x.tx
  unfold addTx at tx ⊢
  have r1 := layNew_ris D.2.2 D.1 (hashStr w k) (.str k u) x.ris
  have l1 := layNew_led D.2.2 D.1 (hashStr w k) (.str k u)
  refine Pay.tail _ _ tx (List.nodup_cons.mpr ⟨hk, x.nd⟩) ?_ ?_
  · split <;> exact r1
  · rcases x.led with g | g
    · exact .inl g
    · right
      split
      · exact l1.trans g
      · exact l1.trans g
/-- a text that is there already is not added -/
theorem add_there {a : Addr} {D : SD} {l : List Str} {k : Str} {u : Tok} {Q : Bool → Shared → Prop} (ho : s.heap.get? a = some (sObj "set" D)) (x : TxOk P w D l) (hk : k ∈ l) (hb : l.length < scanBound) (q : Q false s) :
    wpAny (model P w) A (setAddHashed a (.str k u) (hashStr w k)) Q E s := by
  obtain ⟨es, ep, t⟩ := D
  have hy : (strKind P w).is k (.str k u) = true := is_str k u
  have hsz : es.size = l.length := x.sz
  have fits : t.fits es.size = true := x.fit
  have elems : ElemsOf (strKind P w) es.toList := x.el
  have few : es.size < scanBound := by rw [hsz]; exact hb
  obtain ⟨e, he, hz⟩ := (x.mem k).mp hk
  unfold setAddHashed setAddHashedIn
  refine wpAny_holding (wpAny_bind (wpAny_setState_of ho rfl fits ?_))
  dsimp only
  rw [byScan_of rfl few elems]
  simp only [↓reduceIte]
  unfold setAddByScan
  refine wpAny_bind (wpAny_bind (wpAny_rule ?_))
  refine wpAny_bind (wpAny_setScan_of (knd := strKind P w) (k := k) hy ho rfl fits elems ?_)
  cases hf : List.findIdx? (fun e => (strKind P w).is k e.2) es.toList with
  | some j => exact wpAny_pure (wpAny_pure q)
  | none =>
    have no := List.findIdx?_eq_none_iff.mp hf e he
    rw [hz] at no
    cases no
/-- one text more: it is there behind it -/
theorem add_one {a : Addr} {l : List Str} {k : Str} {u : Tok} {Q : Bool → Shared → Prop} (x : Holds P w s.heap a l) (hb : l.length + 1 < scanBound)
    (q : ∀ b h' l', Heap.SameBut a s.heap h' → Holds P w h' a l' → (∀ z, z ∈ l' ↔ z = k ∨ z ∈ l) → l'.length ≤ l.length + 1 → Q b { s with heap := h' }) :
    wpAny (model P w) A (setAddHashed a (.str k u) (hashStr w k)) Q E s := by
  obtain ⟨D, ho, p⟩ := x
  by_cases hk : k ∈ l
  · exact add_there ho p.tx hk (by omega) (q false s.heap l (Heap.SameBut.refl a s.heap) ⟨D, ho, p⟩ (fun z => ⟨.inr, fun h => h.elim (fun e => e ▸ hk) id⟩) (by omega))
  · refine add_x ho p.tx hk hb (q true _ (k :: l) (Heap.SameBut.update s.heap a _) ⟨_, get_upd _ ho rfl, p.add u hk⟩ (fun z => List.mem_cons) (by simp))
/-- the fresh set -/
theorem fresh {h : Heap} {a : Addr} (ho : h.get? a = some { cls := .type "set", dict := none, data := .set #[] 0 (.fresh 0 0 (!w.params.followText "set-order")) }) : Holds P w h a [] := by
  refine ⟨(#[], 0, .fresh 0 0 (!w.params.followText "set-order")), ho, TxOk.nil rfl, List.Pairwise.nil, ?_, List.nodup_nil⟩
  show _ ∨ (!w.params.followText "set-order") = true
  cases w.params.followText "set-order"
  · exact .inr rfl
  · exact .inl rfl
/-- the loop that puts the items in -/
theorem fill {I S : Addr} {fp wr : List Addr} {G : Array GenState → Array GenState → Prop} {n : Nat} {Pv : Nat → Value → Prop} {Sx : Nat → Shared → Prop} {R : Result → Shared → Prop} (W : WalksS P w A.in1 I fp wr G n Pv Sx)
    (nS : S ∉ fp) (ks : List Str) (hn : n = ks.length) (hb : ks.length + 1 < scanBound) (val : ∀ i v, Pv i v → ∃ k t, ks[i]? = some k ∧ v = .str k t) :
    ∀ (left i : Nat) (s : Shared), n - i = left → i ≤ n → Sx i s → (∃ l, Holds P w s.heap S l ∧ (∀ z, z ∈ l ↔ z ∈ ks.take i) ∧ l.length ≤ i) →
      (∀ s' l, Moved (S :: wr) G s s' → Holds P w s'.heap S l → (∀ z, z ∈ l ↔ z ∈ ks) → l.length ≤ n → R (.ok (.ret .none)) s') → codeAny (model P w) A (.builtin "set.update.loop" ⟨[.ref S, .ref I], []⟩) R s := by
  have nSw : S ∉ wr := fun z => nS (W.sub _ z)
  have up : ∀ b ∈ wr, b ∈ S :: wr := fun b z => List.mem_cons_of_mem _ z
  intro left
  induction left with
  | zero =>
    intro i s e hi st ⟨l, hl, hm, hll⟩ hR
    obtain rfl : i = n := by omega
    refine codeAny_builtin F.entry_set_update_loop ?_
    rw [Around.under_plainId F.plain_set_update_loop _]
    refine wpAny_bind (m := pyNext (.ref I)) (W.done s _ _ st fun s' mv => ?_)
    rw [List.take_of_length_le (by omega)] at hm
    exact wpAny_pure (hR s' l (mv.mono up) (hl.kept fun o z => mv.heap S o nSw z) hm hll)
  | succ left ih =>
    intro i s e hi st ⟨l, hl, hm, hll⟩ hR
    have lt : i < n := by omega
    refine codeAny_builtin F.entry_set_update_loop ?_
    rw [Around.under_plainId F.plain_set_update_loop _]
    refine wpAny_bind (m := pyNext (.ref I)) (W.item i s _ _ lt st fun v s1 hv st1 mv => ?_)
    obtain ⟨k, t, hk, rfl⟩ := val i v hv
    refine wpAny_bind (m := holding [Value.str k t] (setAdd S (.str k t))) (wpAny_holding ?_)
    unfold setAdd
    refine wpAny_holding (wpAny_bind ((strKind P w).pyHash (is_str k t) ?_))
    refine add_one (s := { s1 with toks := s1.toks + 1 }) (l := l) (hl.kept fun o z => mv.heap S o nSw z) (by omega) fun b h2 l2 sb hl2 hm2 hll2 => ?_
    refine wpAny_pure ⟨plainId_quiet F.plain_set_update_loop _, ih (i + 1) _ (by omega) lt (W.frame _ s1 _ _ st1 (Nat.le_succ _) fun b hb o z => ?_) ⟨l2, hl2, fun z => ?_, by omega⟩ fun s3 l3 mv3 hl3 hm3 hll3 => ?_⟩
    · rw [sb.2 b fun x => nS (x ▸ hb)]
      exact z
    · rw [hm2, hm, List.take_add_one, hk]
      simp only [Option.toList_some, List.mem_append, List.mem_singleton]
      exact Or.comm
    · refine hR s3 l3 (Moved.trans W.gtrans ((mv.mono up).then_heap (Nat.le_succ _) fun b o hb z => ?_) mv3) hl3 hm3 hll3
      rw [sb.2 b fun x => hb (x ▸ List.mem_cons_self)]
      exact z
theorem at_text : ∀ {us : List Value} {ks : List Str}, StrsAre us ks → ∀ (i : Nat) (v : Value), us[i]? = some v → ∃ k t, ks[i]? = some k ∧ v = .str k t
  | _, _, .nil, i, v, h => by simp at h
  | _, _, .cons k t r, 0, v, h => ⟨k, t, rfl, (Option.some.inj h).symm⟩
  | _, _, .cons k t r, i + 1, v, h => at_text r i v h
set_option maxHeartbeats 3200000 in
theorem made {l : Addr} {items : Array Value} (ks : List Str) {Q : Value → Shared → Prop} (hh : A.handled = none) (hl : s.heap.IsList l items) (hit : StrsAre items.toList ks) (hb : ks.length + 1 < scanBound)
    (q : ∀ (h' : Heap) (tk : Nat) (ls : List Str), Holds P w h' s.heap.objs.size ls → (∀ z, z ∈ ls ↔ z ∈ ks) → ls.length ≤ ks.length → (∀ b o, s.heap.get? b = some o → h'.get? b = some o) → Q (.ref s.heap.objs.size) { s with heap := h', toks := tk }) :
    wpAny (model P w) A (call (.type "set") [.ref l]) Q E s := by
  have sz : items.size = ks.length := by rw [← Array.length_toList]; exact StrsAre.length hit
  obtain ⟨_, _, hmro⟩ := F.called_set.mro
  have hmade := F.called_set.made
  have hsub := F.called_set.sub
  have h1 := F.called_set.notType
  have h2 := F.called_set.canCreate
  have h3 := F.typeCall_set_1 (.ref l)
  refine wpAny_call (codeAny_of_tree ?_)
  show wpAny _ _ (callAny (.type "set") _) _ _ _
  refine wpAny_pure ⟨Code.quiet_builtin _ (by decide +kernel), codeAny_builtin F.entry_type_call ?_⟩
  rw [Around.under_plain (weight_type_call_type "set" [.ref l] []) rfl]
  repeat (any_goals (first | assumption | wp_step))
  generalize eo : ({ cls := .type "set", dict := none, data := .set #[] 0 (.fresh 0 0 (!w.params.followText "set-order")) } : Obj) = ob
  refine codeAny_mono (code_set_led1 (.ref l) (E := E) (Q₁ := fun r s' => r = .ref s.heap.objs.size ∧ s' = { s with heap := s.heap.push ob }) (by subst eo; exact ⟨rfl, rfl⟩)) fun r s' hr => ?_
  rcases r with e | fl
  · exact hr
  cases fl with
  | ret r =>
    obtain ⟨rfl, rfl⟩ := hr
    have at0 : (s.heap.push ob).get? s.heap.objs.size = some ob := Heap.get?_push_size _ (by subst eo; rfl)
    have ty0 : Shared.TypeIs { s with heap := s.heap.push ob } (.ref s.heap.objs.size) "set" := ⟨ob, at0, by subst eo; rfl⟩
    have hli := F.called_set.init.lookup
    have hbi := F.called_set.init.bind (.ref s.heap.objs.size)
    repeat (any_goals (first | assumption | wp_step))
    refine codeAny_mono (codeAny_call_builtin (R := wants (fun r s2 => r = .none ∧ ∃ h' tk ls, s2 = { s with heap := h', toks := tk } ∧ Holds P w h' s.heap.objs.size ls ∧ (∀ z, z ∈ ls ↔ z ∈ ks) ∧ ls.length ≤ ks.length ∧ (∀ b o, s.heap.get? b = some o → h'.get? b = some o)) E)
      F.called_set.init.plain F.entry_set_init (check_set_init_1 ty0 ?_)) fun r s2 hr => ?_
    · obtain ⟨⟨oc, od, oD, os⟩, hol, hc, nl, hd⟩ := hl
      simp only at hc hd
      subst hc; subst hd
      have lst1 : (s.heap.push ob).IsList l items := ⟨_, Heap.get?_push_of_some _ hol, rfl, nl, rfl⟩
      have hol' := Heap.get?_push_of_some ob hol
      have neI : l ≠ (s.heap.push ob).objs.size := by
        rw [Heap.size_push]
        exact Nat.ne_of_lt (Nat.lt_succ_of_lt (Heap.lt_size hol))
      subst eo
      have a1 := F.sub_list_set
      have a2 := F.sub_list_frozenset
      have a3 : (Value.type "list" == Value.type "dict") = false := by decide
      unfold Builtin.«set.__init__» noKeywords Builtin.Frozenset.updateFrom
      generalize hPI : pyIter = PI
      wp_walk
      subst hPI
      refine wpAny_pyIter_list lst1 ?_
      refine wpAny_bind (wpAny_runValue ?_)
      have ltl : l < s.heap.objs.size := Heap.lt_size hol
      have hd3 : A.in1.in1.in1.handled = none := by simp [hh]
      have val : ∀ (i : Nat) (v : Value), items[i]? = some v → ∃ k t, ks[i]? = some k ∧ v = .str k t := fun i v hv => at_text hit i v (by rw [Array.getElem?_toList]; exact hv)
      refine fill ((Walks.list hd3 _ l neI items).toS) (S := s.heap.objs.size) ?nS ks sz hb val (items.size - 0) 0 _ (by omega) (Nat.zero_le _) ⟨⟨_, Heap.get?_push_size _ rfl, rfl, rfl⟩, (lst1.push _)⟩ ⟨[], ?f, by simp, Nat.le_refl 0⟩ ?R
      case nS =>
        rw [Heap.size_push]
        simp only [List.mem_cons, List.mem_singleton, List.not_mem_nil, or_false, not_or]
        exact ⟨Nat.ne_of_lt (Nat.lt_succ_self _), Nat.ne_of_gt ltl⟩
      case f =>
        have z := Heap.get?_push_of_some ({ cls := .type "list_iterator", data := .fields #[.ref l, .int 0 0] } : Obj) at0
        exact fresh z
      case R =>
        rintro ⟨h', g2, d2, t2, o2⟩ ls mv hH hm hll
        obtain rfl : g2 = s.gens := mv.gens
        obtain rfl : d2 = s.drawn := mv.drawn
        obtain rfl : o2 = s.os := mv.os
        show wpAny _ _ _ _ _ _
        refine wpAny_pure ?_
        show wpAny _ _ (ret Value.none) _ _ _
        refine wpAny_pure ⟨rfl, h', t2, ls, rfl, hH, hm, by rw [← sz]; exact hll, fun b o e => ?_⟩
        have b0 : b < s.heap.objs.size := Heap.lt_size e
        refine mv.heap b o ?_ (Heap.get?_push_of_some _ (Heap.get?_push_of_some _ e))
        simp only [List.mem_cons, List.mem_singleton, List.not_mem_nil, or_false, not_or]
        refine ⟨Nat.ne_of_lt b0, ?_⟩
        rw [Heap.size_push]
        exact Nat.ne_of_lt (Nat.lt_succ_of_lt b0)
    · rcases r with e | fl
      · exact hr
      cases fl with
      | ret r =>
        obtain ⟨rfl, h', tk, ls, rfl, hH, hm, hll, hk⟩ := hr
        repeat (any_goals (first | assumption | wp_step))
        exact q _ _ _ hH hm hll hk
      | _ => exact hr.elim
  | _ => exact hr.elim
/-- as many items as members, each member among them: the members in another order -/
theorem perm_of : ∀ (l ls : List Str), l.Nodup → (∀ z ∈ l, z ∈ ls) → ls.length ≤ l.length → ls.Perm l
  | [], ls, _, _, h => by
    have e : ls = [] := List.length_eq_zero_iff.mp (by simpa using h)
    rw [e]
  | x :: l, ls, nd, sub, h => by
    obtain ⟨nx, nd⟩ := List.nodup_cons.mp nd
    have hx : x ∈ ls := sub x List.mem_cons_self
    have p := List.perm_cons_erase hx
    have e1 : (ls.erase x).length ≤ l.length := by
      rw [List.length_erase_of_mem hx]
      simp only [List.length_cons] at h
      omega
    refine p.trans (List.Perm.cons x (perm_of l (ls.erase x) nd (fun z hz => ?_) e1))
    rcases List.mem_cons.mp (p.mem_iff.mp (sub z (List.mem_cons_of_mem _ hz))) with e | m
    · exact absurd (e ▸ hz) nx
    · exact m
theorem texts : ∀ (es : List (Int × Value)), ElemsOf (strKind P w) es → ∃ ls : List Str, StrsAre (es.map (·.2)) ls ∧ ∀ z, z ∈ ls ↔ ∃ e ∈ es, (strKind P w).is z e.2 = true
  | [], _ => ⟨[], .nil, fun z => by simp⟩
  | e :: es, h => by
    obtain ⟨ls, r, m⟩ := texts es fun x hx => h x (List.mem_cons_of_mem _ hx)
    obtain ⟨⟨k, hk, _⟩, _⟩ := h e List.mem_cons_self
    obtain ⟨t, ek⟩ := Value.isStrOf_shape (x := k) (v := e.2) hk
    refine ⟨k :: ls, ?_, fun z => ?_⟩
    · show StrsAre (e.2 :: es.map (·.2)) (k :: ls)
      rw [ek]
      exact .cons k t r
    · rw [List.mem_cons, m]
      constructor
      · rintro (rfl | ⟨x, hx, y⟩)
        · exact ⟨e, List.mem_cons_self, hk⟩
        · exact ⟨x, List.mem_cons_of_mem _ hx, y⟩
      · rintro ⟨x, hx, y⟩
        rcases List.mem_cons.mp hx with rfl | hx
        · exact .inl ((strKind P w).inj x.2 z k y hk)
        · exact .inr ⟨x, hx, y⟩
/-- the values of the payload, whatever their order, are the members, whatever theirs -/
theorem values {D : SD} {l : List Str} {vs : List Value} (p : Pay P w D l) (pm : vs.Perm (D.1.toList.map (·.2))) : ∃ ls : List Str, StrsAre vs ls ∧ ls.Perm l := by
  obtain ⟨l1, r1, m1⟩ := texts D.1.toList p.tx.el
  have e1 : l1.length = l.length := by rw [← StrsAre.length r1, List.length_map, Array.length_toList, p.tx.sz]
  have p1 : l1.Perm l := perm_of l l1 p.nd (fun z hz => (m1 z).mpr ((p.tx.mem z).mp hz)) (by omega)
  have all : ∀ v ∈ vs, ∃ x t, v = .str x t := fun v hv => r1.all v (pm.mem_iff.mp hv)
  refine ⟨vs.map strOf, strsAre_map vs all, ?_⟩
  have e2 := pm.map strOf
  rw [r1.strs] at e2
  exact e2.trans p1
/-- sorted(the set), fewer than 64 members -/
theorem inOrder {a : Addr} {l : List Str} {Q : Value → Shared → Prop} (x : Holds P w s.heap a l) (hh : A.handled = none) (few : l.length < 64)
    (q : ∀ s' p (out : Array Value) (c : Nat) (ls : List Str), (∀ b o, s.heap.get? b = some o → s'.heap.get? b = some o) → s'.gens = s.gens → s'.os = s.os → s.heap.objs.size ≤ p → s'.heap.get? p = some (seqObj "list" out c) →
      StrsAre out.toList ls → ls.Perm l → sortedS ls = true → Q (.ref p) s') : wpAny (model P w) A (call (.builtin "sorted") [.ref a]) Q E s := by
  obtain ⟨⟨es, ep, t⟩, ho, p⟩ := x
  have sz : es.size = l.length := p.tx.sz
  refine Calls.call_function_entry kind_sorted plain_sorted entry_sorted (args_sorted1 _) ?_
  unfold Builtin.«sorted»
  refine wpAny_bind (m := checkCount "sorted" 1 1 _) (wpAny_pure ?_)
  refine wpAny_bind (collect_set (A := A.in1) hh ⟨_, ho, rfl, rfl⟩ p.tx.fit (by show es.size < scanBound; unfold scanBound; omega) p.ris p.led fun s1 vs k1 z1 g1 o1 pm => ?_)
  obtain ⟨ls, r, pl⟩ := values p pm
  have hv : vs.length = l.length := by rw [StrsAre.length r, pl.length_eq]
  refine wpAny_bind (wpAny_newList ?_ (by rw [hv, sizeLine_eq]; omega))
  have at1 : (s1.heap.push (seqObj "list" vs.toArray 0)).get? s1.heap.objs.size = some (seqObj "list" vs.toArray 0) := Heap.get?_push_size _ rfl
  refine wpAny_bind (wpAny_holding (wpAny_call_entry slot_list_sort ⟨_, at1, rfl⟩ entry_list_sort
    (list_sort_treeK strKind_oneLt at1 r.keysOf (fun v1 v2 rest e => keyKind_strs (by rw [← e]; exact r)) (by rw [hv]; exact few) fun st' hp hs => ?_) (args_list_sort _)))
  obtain ⟨ys, b1, b2, b3⟩ := sorted_out_str r hp hs
  obtain ⟨c, hc⟩ := sortedHeap_at (vs := vs) (out := (arrOf st').map (·.2)) at1
  refine ⟨_, rfl, wpAny_pure ⟨_, rfl, q _ s1.heap.objs.size _ c ys (fun b u e => ?_) g1 o1 z1 hc b1 (b2.trans pl) b3⟩⟩
  have e1 := k1 b u e
  have lt := Heap.lt_size e1
  show (sortedHeap (s1.heap.push (seqObj "list" vs.toArray 0)) s1.heap.objs.size vs _).get? b = some u
  rw [sortedHeap_old (Nat.ne_of_lt lt) (by rw [size_push']; exact Nat.lt_succ_of_lt lt)]
  exact Heap.get?_push_of_some _ e1
end
/-- what stands at a: a set of the texts l -/
def SetS (P : Program) (w : World) (a : Addr) (l : List Str) : HO := .ext fun h => Holds P w h a l
section
variable {X : Cx}
def rSetOfS (K : PySem.W.Frag) (P : Program) (w : World) : List V → Hp → VK → Prop := fun xs H Q => ∃ (l : Addr) (ks : List Str), xs = [V.ref l] ∧ SqL K H l (ks.map V.str) ∧ ks.length ≤ 1000 ∧
  ∀ a ls, H a = none → (∀ z, z ∈ ls ↔ z ∈ ks) → ls.length ≤ ks.length → Q (.ref a) (upd H a (SetS P w a ls))
theorem cr_setOfS (hc : X.calm = true) : CallR X (.type "set") (rSetOfS X.K X.prog X.w) := by
  intro pins s σ H xs us Q I r h
  obtain ⟨l, ks, rfl, hl, hk, q⟩ := h
  rw [Vals.ref1 r]
  obtain ⟨its, rv, pl, hz⟩ := I.list hl
  have hn : H s.heap.objs.size = none := I.hok.fresh (Nat.le_refl _)
  refine made (P := X.prog) (w := X.w) ks (I.ok.hd hc) pl.isList (by simpa using rv.strs) (by unfold scanBound; omega) fun h' tk ls hh hm hl k => ?_
  have new : ObjOk X.prog X.w (upd H s.heap.objs.size (SetS X.prog X.w s.heap.objs.size ls)) h' s.heap.objs.size (SetS X.prog X.w s.heap.objs.size ls) :=
    ⟨hh, let ⟨_, e, _⟩ := hh; ⟨_, e⟩, fun h1 h2 x kk => x.kept kk⟩
  exact ⟨.ref s.heap.objs.size, upd H s.heap.objs.size (SetS X.prog X.w s.heap.objs.size ls), I.laid (t' := tk) k (Nat.le_refl _) new, rfl, q _ ls hn hm hl⟩
def rSortedS (P : Program) (w : World) : List V → Hp → VK → Prop := fun vs H Q => ∃ (a : Addr) (l : List Str), vs = [V.ref a] ∧ H a = some (SetS P w a l) ∧ l.length < 64 ∧
  ∀ (ls : List Str) (p : Addr), ls.Perm l → ls.Nodup → sortedS ls = true → H p = none → Q (.ref p) (upd H p (.lst (ls.map V.str)))
theorem cr_sortedSetS (hc : X.calm = true) : CallR X (.builtin "sorted") (rSortedS X.prog X.w) := by
  intro pins s σ H vs us Q I r h
  obtain ⟨a, l, rfl, ha, few, q⟩ := h
  have R : Holds X.prog X.w s.heap a l := (I.hok a _ ha).1
  have nd : l.Nodup := let ⟨_, _, p⟩ := R; p.nd
  rw [Vals.ref1 r]
  refine inOrder R (I.ok.hd hc) few fun s' p out c ls k g o hp hg hi pm so => ?_
  have hlen : (ls.map V.str).length ≤ sizeLine := by rw [List.length_map, pm.length_eq, sizeLine_eq]; omega
  have hn : H p = none := I.hok.fresh hp
  have J : Inv X pins σ (upd H p (.lst (ls.map V.str))) { s with heap := s'.heap, gens := s'.gens, drawn := s'.drawn, toks := s'.toks } :=
    I.call (ch := []) (Un.laid k hp hn) (I.hok.laid k hp ⟨hlen, out.toList, c, vals_of_strs hi, hg⟩) (by rw [g]; exact I.bare) (fun _ z => nomatch z)
  have e : s' = { s with heap := s'.heap, gens := s'.gens, drawn := s'.drawn, toks := s'.toks } := by
    cases s'
    cases s
    cases o
    rfl
  rw [e]
  exact ⟨.ref p, _, J, rfl, q ls p pm (pm.nodup_iff.mpr nd) so hn⟩
end
end Tset

/-! // by a divisor of any size. CPython may hand such a division to _pylong: that nothing of the program stands in its way is known of the heap behind the top. -/
namespace Big
open PySem PySem.Spec PyProof.Rows L2
section
variable {X : Cx}
theorem op_fdivP (hN : X.base.NoSeer) (ht : X.prog.given.tree = none) (hs : X.stack = X.env :: X.outer) (hg : X.env.scope.isGenerator = false) (hc : X.env.scope.isCoroutine = false) (hd : X.A.depth + 100 < recursionLimit) :
    OpR X (binaryOp .FloorDiv) (rI (fun _ j => 0 < j) fun i j => .int (i / j)) := by
  intro pins s σ H x y v u Q I rx ry h
  obtain ⟨i, j, rfl, rfl, hj, q⟩ := h
  obtain ⟨t, rfl⟩ := rx
  obtain ⟨t', rfl⟩ := ry
  have hj' : (0 : Int) < j := hj
  have room : PylongRoom (model X.prog X.w) X.A s :=
    PylongRoom.of I.nolimit hd (SeerAt.of (env := X.env) (l := X.outer) (hN.keeps I.bk) ht (by rw [I.ok.frames, hs]) hg hc I.ok.blt I.ok.glob)
  refine floordiv_int (by omega) ?_ (.inr room)
  rw [Int.fdiv_eq_ediv_of_nonneg i (by omega)]
  exact ⟨.int _, H, I.tok _, ⟨_, rfl⟩, q⟩
end
section
variable {P : Program} {w : World} {K : PySem.W.Frag} {mg mb : Str → Option Value} {s : Shared} {a : Addr} {vs : List Value}
/-- the heap without what is tracked: what no list stands for is still there -/
theorem hid_ns {H : Hp} (ha : s.heap.get? a = some { cls := .type "list", data := .seq vs.toArray }) (only : ∀ b, H b ≠ none → b = a) {b : Addr} {m : Str → Option Value} (x : s.heap.Ns b m) : (hidT s.heap H).Ns b m := by
  obtain ⟨o, es, ep, e, d, r⟩ := x
  refine ⟨o, es, ep, hidT_get e ?_, d, r⟩
  refine Classical.byContradiction fun n => ?_
  rw [only b n, ha] at e
  cases e
  cases d
theorem hid_get {H : Hp} (ha : s.heap.get? a = some { cls := .type "list", data := .seq vs.toArray }) (only : ∀ b, H b ≠ none → b = a) {b : Addr} {o : Obj} (e : s.heap.get? b = some o) (hc : o.cls ≠ .type "list") : (hidT s.heap H).get? b = some o := by
  refine hidT_get e (Classical.byContradiction fun n => ?_)
  rw [only b n, ha] at e
  cases e
  exact hc rfl
theorem hid_seer {H : Hp} (ha : s.heap.get? a = some { cls := .type "list", data := .seq vs.toArray }) (only : ∀ b, H b ≠ none → b = a) (x : s.heap.NoSeer) : (hidT s.heap H).NoSeer where
  statics := let ⟨m, p, q⟩ := x.statics; ⟨m, hid_ns ha only p, q⟩
  mods := let ⟨m, p, q⟩ := x.mods; ⟨m, hid_ns ha only p, q⟩
  imp := let ⟨m, p, q⟩ := x.imp; ⟨m, hid_ns ha only p, q⟩
  main := let ⟨m, bm, ob, p, q, e, c, d⟩ := x.main; ⟨m, bm, ob, hid_ns ha only p, q, hid_get ha only e (by rw [c]; decide), c, d⟩
/-- the law's call, entered: the base is known to be free of what a great division asks for -/
theorem entered {CX : CXT} {k : Nat} {fa : Addr} {fd : FuncData} {x : Str} {sp : Sp} {ns : List Int} (KX : K.In s.heap) (hmain : s.heap.Ns mainGlobals mg) (hb : s.heap.Ns builtinsNs mb) (hbb : ∀ x : Str, x ≠ "__name__" → mb x = bootBuiltins x) (hlim : s.heap.NoLimit) (seer : s.heap.NoSeer) (hg : s.gens = #[])
    (ha : s.heap.get? a = some { cls := .type "list", data := .seq vs.toArray }) (hi : IntsAre vs ns) (hl : ns.length ≤ sizeLine) (hr : Room k callerA)
    (F : ∀ base : Heap, K.In base → base.Ns mainGlobals mg → base.NoSeer → FnOk P w K mg base CX k fa fd [x] sp) (bind : ∀ (s : Shared) (u : Value), BindsTo s fd ⟨[u], []⟩ [(x, u)])
    (hsp : ∀ H : Hp, Only H → SqL K H a (ns.map V.int) → sp [.ref a] H (fun v _ => v = .bl true) fun _ _ _ => False) (hCX : ∀ H e s', CX [] H s (fun _ _ _ => False) e s' → False) :
    codeAny (model P w) callerA (.call (.ref fa) ⟨[.ref a], []⟩) (fun r s' => r = .ok (.ret (.bool true)) ∧ OldK s.heap s'.heap ∧ s'.os = s.os ∧ AllBare s'.gens) s := by
  have rv := vals_ints hi
  obtain ⟨H, hO, hS, ok, only, kno⟩ : ∃ H : Hp, Only H ∧ SqL K H a (ns.map V.int) ∧ HOk P w H s.heap ∧ (∀ b, H b ≠ none → b = a) ∧ (H a ≠ none → K.lookup a = none) := by
    cases hk : K.lookup a with
    | some o =>
      have e := KX a o hk
      rw [ha] at e
      cases e
      refine ⟨fun _ => none, fun _ => .inl rfl, .inr ⟨_, vs.toArray, _, hk, rfl, rfl, rfl, by rw [List.size_toArray, hi.length]; exact hl, by simpa using rv⟩, ?_, fun b z => absurd rfl z, fun z => absurd rfl z⟩
      intro b u z
      have z' : (none : Option HO) = some u := z
      cases z'
    | none =>
      have new : ∀ b, b ≠ a → (upd (fun _ => none) a (.frz { cls := .type "list", data := .seq vs.toArray } (.lst (ns.map V.int)))) b = none := fun b n => upd_ne n
      refine ⟨upd (fun _ => none) a (.frz { cls := .type "list", data := .seq vs.toArray } (.lst (ns.map V.int))), fun b => ?_, .inl (.inr ⟨_, upd_same⟩), fun b u z => ?_, fun b z => ?_, fun _ => rfl⟩
      · by_cases e : b = a
        · exact .inr ⟨_, _, by rw [e, upd_same]⟩
        · exact .inl (new b e)
      · by_cases e : b = a
        · subst e
          rw [upd_same] at z
          cases z
          exact ⟨ha, by rw [List.length_map]; exact hl, vs, _, rv, ha⟩
        · rw [new b e] at z
          cases z
      · exact Classical.byContradiction fun e => z (new b e)
  have KB : K.In (hidT s.heap H) := fun b o e => hidT_get (KX b o e) (Classical.byContradiction fun n => by
    have eb := only b n
    subst eb
    rw [kno n] at e
    cases e)
  have M : Mod K mg (hidT s.heap H) := ⟨KB, hid_ns ha only hmain, ⟨mb, hid_ns ha only hb, hbb⟩, let ⟨mc, p, q⟩ := hlim; ⟨mc, hid_ns ha only p, q⟩⟩
  have e0 : Env0 P w K mg (hidT s.heap H) callerA [] s H := ⟨rfl, M, fun b o e => of_hidT e, Nat.le_of_eq (hidT_size _ _), trivial, (fun b z => by cases z), ok, .of_eq hg⟩
  refine codeAny_mono ((F _ KB (hid_ns ha only hmain) (hid_seer ha only seer)).run callerA [] s H ⟨[.ref a], []⟩ [.ref a] [.ref a] _ _ hr e0 (bind s (.ref a)) (.cons rfl .nil) (hsp H hO hS)) fun r s' h => ?_
  rcases r with e | fl
  · exact (hCX H e s' h).elim
  cases fl with
  | ret u =>
    obtain ⟨v, H', os, bare, un, ok', r', q⟩ := h
    have ev : v = .bl true := q
    subst ev
    obtain rfl : u = Value.bool true := r'
    refine ⟨rfl, OldK.of_keep fun b o e => ?_, os, bare⟩
    cases hb' : H b with
    | none => exact un.keep b o e hb' (by intro z; cases z) (by simp)
    | some u =>
      rcases hO b with z | ⟨ob, xs, z⟩
      · rw [hb'] at z
        cases z
      · obtain ⟨e1, _⟩ := ok b _ z
        obtain ⟨e2, _⟩ := ok' b _ (un.frzs b ob _ z)
        rw [e] at e1
        cases e1
        exact e2
  | _ => exact h.elim
end
end Big
namespace Big
open PySem PySem.W PySem.Calls PyProof.Rows
theorem attach {l : OpenLaw} {n : Nat} {q : Program} {loose : List Str} {XP : (Str → Option Value) → Heap → Prop} {YP : World → Heap → Prop} {d : DefRec} (hn : l.most = some n) (hdf : d.params.defaults = [])
    (call : ∀ (w : World) (s₀ s₁ : Shared) (mg mb : Str → Option Value) (fa a : Addr) (vs : List Value) (ns : List Int), Ground q loose [] XP w s₀ mg mb s₁.heap → YP w s₁.heap → mg d.name = some (.ref fa) →
      s₁.heap.get? a = some { cls := .type "list", data := .seq vs.toArray } → IntsAre vs ns → ns.length ≤ n → (∀ k ∈ ns, Builtin.Int.intBits k ≤ 1048576) → s₁.gens = #[] →
      codeAny (model l.prog w) callerA (.call (.ref fa) ⟨[.ref a], []⟩) (fun r s' => r = .ok (.ret (.bool true)) ∧ OldK s₁.heap s'.heap ∧ s'.os = s₁.os ∧ AllBare s'.gens) s₁) :
    WalkO q loose XP YP l.row.toRowW d [] (fun f vs => PySem.call f vs) :=
  Att.attach_callB hn hdf fun w s₀ s₁ mg mb fa _ _ _ _ a vs ns G Y _ _ _ hm ho hi hl hb hg => call w s₀ s₁ mg mb fa a vs ns G Y hm ho hi hl hb hg
end Big
namespace Big
open PySem PySem.Spec PyProof.Rows L2
theorem walk {l : PySem.W.OpenLaw} {n k : Nat} {q : Program} {loose : List Str} {XP : (Str → Option Value) → Heap → Prop} {YP : World → Heap → Prop} {d : DefRec} {K : Params → PySem.W.Frag} {CX : World → CXT} {sp : World → Sp} {x : Str}
    (hn : l.most = some n) (hn2 : n ≤ sizeLine) (hdf : d.params.defaults = []) (hr : Room k callerA) (hi : importsNone q = true) (hY : ∀ (w : World) (h : Heap), YP w h → (K w.params).In h)
    (F : ∀ (w : World) (mg : Str → Option Value) (fa : Addr) (h : Heap), (K w.params).In h → h.Ns mainGlobals mg → mg d.name = some (.ref fa) →
      ∃ fd : FuncData, (∀ (s : Shared) (u : Value), BindsTo s fd ⟨[u], []⟩ [(x, u)]) ∧ ∀ base : Heap, (K w.params).In base → base.Ns mainGlobals mg → base.NoSeer → FnOk l.prog w (K w.params) mg base (CX w) k fa fd [x] (sp w))
    (hsp : ∀ (w : World) (H : Hp) (a : Addr) (ns : List Int), ns.length ≤ n → (∀ z ∈ ns, Builtin.Int.intBits z ≤ 1048576) → Only H → SqL (K w.params) H a (ns.map V.int) → sp w [.ref a] H (fun v _ => v = .bl true) fun _ _ _ => False)
    (hCX : ∀ (w : World) (H : Hp) (s : Shared) (e : Value) (s' : Shared), CX w [] H s (fun _ _ _ => False) e s' → False) : PySem.W.WalkO q loose XP YP l.row.toRowW d [] (fun f vs => PySem.call f vs) := by
  refine Big.attach hn hdf fun w s₀ s₁ mg mb fa a vs ns G Y hm ho hi2 hl hb hg => ?_
  obtain ⟨fd, bd, FF⟩ := F w mg fa _ (hY w _ Y) G.T.g hm
  exact entered (hY w _ Y) G.T.g G.T.b G.T.builtins G.T.nolimit (G.T.seer hi) hg ho hi2 (Nat.le_trans hl hn2) hr FF bd (fun H hO hS => hsp w H a ns hl hb hO hS) fun H e s' => hCX w H s₁ e s'
end Big
namespace Big
open PySem PySem.Spec PyProof.Rows L2
section
variable {X : Cx}
/-- // by a divisor of any size, in a comprehension's block: the frame is that of the def around it -/
theorem op_fdivB (hN : X.base.NoSeer) (ht : X.prog.given.tree = none) {e : Env} {l : List Env} (hs : X.stack = e :: l) (hg : e.scope.isGenerator = false) (hc : e.scope.isCoroutine = false) (hb : e.builtins = builtinsNs) (hgl : e.globals = mainGlobals) (hd : X.A.depth + 100 < recursionLimit) :
    OpR X (binaryOp .FloorDiv) (rI (fun _ j => 0 < j) fun i j => .int (i / j)) := by
  intro pins s σ H x y v u Q I rx ry h
  obtain ⟨i, j, rfl, rfl, hj, q⟩ := h
  obtain ⟨t, rfl⟩ := rx
  obtain ⟨t', rfl⟩ := ry
  have hj' : (0 : Int) < j := hj
  have room : PylongRoom (model X.prog X.w) X.A s :=
    PylongRoom.of I.nolimit hd (SeerAt.of (env := e) (l := l) (hN.keeps I.bk) ht (by rw [I.ok.frames, hs]) hg hc hb hgl)
  refine floordiv_int (by omega) ?_ (.inr room)
  rw [Int.fdiv_eq_ediv_of_nonneg i (by omega)]
  exact ⟨.int _, H, I.tok _, ⟨_, rfl⟩, q⟩
end
end Big

namespace Tw
open PySem PySem.Spec PyProof.Rows L2
/-! what the laws' helpers do to the heap: the draws at d shrink, all else stands -/
def DrA (H : Hp) (d : Addr) : Prop := ∃ ns : List Int, H d = some (.lst (ns.map V.int))
structure Dr (d : Addr) (H H' : Hp) : Prop where
  keep : ∀ b o, b ≠ d → H b = some o → H' b = some o
  at_ : DrA H' d
theorem Dr.refl {d : Addr} {H : Hp} (h : DrA H d) : Dr d H H := ⟨fun _ _ _ e => e, h⟩
theorem Dr.trans {d : Addr} {H H1 H2 : Hp} (a : Dr d H H1) (b : Dr d H1 H2) : Dr d H H2 := ⟨fun c o n e => b.keep c o n (a.keep c o n e), b.at_⟩
theorem Dr.then {d : Addr} {H H1 H2 : Hp} (a : Dr d H H1) (b : Same H1 H2) : Dr d H H2 := ⟨fun c o n e => b c o (a.keep c o n e), let ⟨ns, q⟩ := a.at_; ⟨ns, b d _ q⟩⟩
theorem Dr.of {d : Addr} {H H1 : Hp} (h : DrA H d) (b : Same H H1) : Dr d H H1 := (Dr.refl h).then b
theorem Dr.free {d : Addr} {H H' : Hp} (a : Dr d H H') (h : DrA H d) {l : Addr} (n : H' l = none) : H l = none := by
  cases q : H l with
  | none => rfl
  | some o =>
    by_cases e : l = d
    · obtain ⟨_, z⟩ := a.at_
      rw [e, z] at n
      cases n
    · rw [a.keep l o e q] at n
      cases n
theorem Dr.ne {d : Addr} {H H' : Hp} (a : Dr d H H') {l : Addr} (n : H' l = none) : l ≠ d := fun e => by
  obtain ⟨_, z⟩ := a.at_
  rw [e, z] at n
  cases n
theorem Dr.seq {K : PySem.W.Frag} {d a : Addr} {H H' : Hp} {xs : List V} (r : Dr d H H') (ne : a ≠ d) (h : SqL K H a xs) : SqL K H' a xs := by
  rcases h with (h | ⟨o, h⟩) | h
  · exact .inl (.inl (r.keep _ _ ne h))
  · exact .inl (.inr ⟨o, r.keep _ _ ne h⟩)
  · exact .inr h
theorem same_new {H : Hp} {p : Addr} {o : HO} (h : H p = none) : Same H (upd H p o) := fun b x e => by
  rw [upd_ne (ne_of_none e h)]
  exact e
theorem drA_upd {H : Hp} {d : Addr} (ns : List Int) : DrA (upd H d (.lst (ns.map V.int))) d := ⟨ns, upd_same⟩
theorem dr_upd {H : Hp} {d : Addr} (ns : List Int) : Dr d H (upd H d (.lst (ns.map V.int))) := ⟨fun b o n e => by rw [upd_ne n]; exact e, drA_upd ns⟩
theorem at_last {α : Type} {xs : List α} (h : xs ≠ []) : xs[xs.length - 1]? = some (xs.getLast h) := by
  rw [← List.getLast?_eq_getElem?, List.getLast?_eq_getLast h]
theorem map_at {ns : List Int} {i : Nat} (h : i < ns.length) : (ns.map V.int)[i]? = some (.int ns[i]) := by
  rw [List.getElem?_map, List.getElem?_eq_getElem h]
  rfl
theorem sline : (2000 : Nat) < sizeLine := by decide
theorem small {n : Nat} (h : n ≤ 2000) : n < sizeLine := Nat.lt_of_le_of_lt h sline
theorem small' {n : Nat} (h : n ≤ 2000) : n ≤ sizeLine := Nat.le_of_lt (small h)
theorem atI_z {α : Type} {xs : List α} {z : Int} {j : Nat} {v : α} (e : z = (j : Int)) (h : xs[j]? = some v) : atI xs z = some v := by
  rw [e]
  exact atI_nat h
theorem atI_pos {α : Type} {xs : List α} {z : Int} (h0 : 0 ≤ z) (h1 : z < xs.length) : atI xs z = some (xs[z.toNat]'(by omega)) :=
  atI_z (j := z.toNat) (by omega) (List.getElem?_eq_getElem (by omega))
theorem atM_pos {ns : List Int} {z : Int} (h0 : 0 ≤ z) (h1 : z < ns.length) : atI (ns.map V.int) z = some (.int (ns[z.toNat]'(by omega))) :=
  atI_z (j := z.toNat) (by omega) (map_at (by omega))
/-- an address that was not there at the beginning may be written -/
theorem Dr.keepNew {d p : Addr} {H H' : Hp} {o : HO} (r : Dr d H H') (ne : p ≠ d) (n : H p = none) : Dr d H (upd H' p o) :=
  ⟨fun b x nb e => by rw [upd_ne (ne_of_none e n)]; exact r.keep b x nb e, let ⟨ns, z⟩ := r.at_; ⟨ns, by rw [upd_ne ne.symm]; exact z⟩⟩
/-- the script is read behind every draw -/
theorem Dr.script {K : PySem.W.Frag} {d a : Addr} {H H1 H' : Hp} {xs : List V} (h : SqL K H a xs) (n : H d = none) (s : Same H H1) (r : Dr d H1 H') : SqL K H' a xs := by
  rcases h with (h | ⟨o, h⟩) | h
  · exact .inl (.inl (r.keep _ _ (ne_of_none h n) (s _ _ h)))
  · exact .inl (.inr ⟨o, r.keep _ _ (ne_of_none h n) (s _ _ h)⟩)
  · exact .inr h
theorem same_keep {H H' : Hp} {p : Addr} {o : HO} (s : Same H H') (n : H p = none) : Same H (upd H' p o) := fun b x e => by
  rw [upd_ne (ne_of_none e n)]
  exact s b x e

/-! a plan in the heap -/
structure Mt where
  name : Str
  low : Int
  high : Int
  err : Int
structure Pl where
  len : Int
  ms : List Mt
def MtAt (H : Hp) (t : Addr) (m : Mt) : Prop := H t = some (.tup [.str m.name, .int m.low, .int m.high, .int m.err])
structure PlanAt (H : Hp) (p tm : Addr) (ts : List Addr) (P : Pl) : Prop where
  top : H p = some (.tup [.int P.len, .ref tm])
  mid : H tm = some (.tup (ts.map V.ref))
  low : Paired (MtAt H) ts P.ms
/-- the names in the order of the alphabet, each once -/
def Risen (l : List Str) : Prop := sortedS l = true ∧ l.Nodup
structure MtOk (c : Int) (m : Mt) : Prop where
  order : m.low ≤ m.high
  err0 : 0 ≤ m.err
  err1 : m.err ≤ 60
  lowB : m.low.natAbs ≤ c.natAbs + 3
  highB : m.high.natAbs ≤ 2 * c.natAbs + 3 + 10 ^ 20
structure PlanOk (c : Int) (P : Pl) : Prop where
  len : 1 ≤ P.len
  lenB : P.len ≤ c.natAbs + 60
  some_ : P.ms ≠ []
  few : P.ms.length ≤ 6
  risen : Risen (P.ms.map Mt.name)
  each : ∀ m ∈ P.ms, MtOk c m
theorem Dr.tup {d t : Addr} {H H' : Hp} {xs : List V} (r : Dr d H H') (h : DrA H d) (e : H t = some (.tup xs)) : H' t = some (.tup xs) := by
  obtain ⟨ns, z⟩ := h
  exact r.keep _ _ (ne_of e z (fun q => nomatch q)) e
theorem Dr.mts {d : Addr} {H H' : Hp} (r : Dr d H H') (h : DrA H d) : ∀ {ts : List Addr} {ms : List Mt}, Paired (MtAt H) ts ms → Paired (MtAt H') ts ms
  | _, _, .nil => .nil
  | _, _, .cons a b => .cons (r.tup h a) (Dr.mts r h b)
theorem Dr.plan {d p tm : Addr} {H H' : Hp} {ts : List Addr} {P : Pl} (r : Dr d H H') (h : DrA H d) (x : PlanAt H p tm ts P) : PlanAt H' p tm ts P := ⟨r.tup h x.top, r.tup h x.mid, r.mts h x.low⟩
theorem same_mts {H H' : Hp} (r : Same H H') : ∀ {ts : List Addr} {ms : List Mt}, Paired (MtAt H) ts ms → Paired (MtAt H') ts ms
  | _, _, .nil => .nil
  | _, _, .cons a b => .cons (r _ _ a) (same_mts r b)
theorem PlanAt.same {p tm : Addr} {H H' : Hp} {ts : List Addr} {P : Pl} (r : Same H H') (x : PlanAt H p tm ts P) : PlanAt H' p tm ts P := ⟨r _ _ x.top, r _ _ x.mid, same_mts r x.low⟩
theorem pick {xs : List Int} {vs : List V} {k : Int} (e : vs = xs.map V.int) (h0 : 0 ≤ k) (h1 : k < xs.length) : ∃ v, v ∈ xs ∧ atI vs k = some (.int v) := by
  rw [e]
  exact ⟨_, List.getElem_mem _, atM_pos h0 h1⟩
theorem abs_eq (c : Int) : (if c < 0 then -c else c) = (c.natAbs : Int) := by
  by_cases h : c < 0
  · rw [if_pos h]
    omega
  · rw [if_neg h]
    omega
theorem paired_snoc {α β : Type} {R : α → β → Prop} {xs : List α} {ys : List β} {a : α} {b : β} (h : Paired R xs ys) (r : R a b) : Paired R (xs ++ [a]) (ys ++ [b]) := h.snoc r
theorem map_snoc {ts : List Addr} {t : Addr} : ts.map V.ref ++ [V.ref t] = (ts ++ [t]).map V.ref := by
  rw [List.map_append]
  rfl
/-- a name: letters a to z, one or more, not many -/
def IsW (w : Str) : Prop := w.cps.toList ≠ [] ∧ (∀ c ∈ w.cps.toList, 97 ≤ c ∧ c ≤ 122) ∧ w.length ≤ 200
theorem mts_at {H : Hp} : ∀ {ts : List Addr} {ms : List Mt} {i : Nat} {t : Addr}, Paired (MtAt H) ts ms → ts[i]? = some t → ∃ m, ms[i]? = some m ∧ MtAt H t m
  | _, _, _, _, .nil, h => by simp at h
  | _, _, 0, _, .cons a _, h => by
    cases (Option.some.inj h)
    exact ⟨_, rfl, a⟩
  | _, _, i + 1, _, .cons _ r, h => mts_at (i := i) r h
def mtOf (H : Hp) (t : Addr) : Mt := match H t with
  | some (.tup [.str n, .int a, .int b, .int c]) => ⟨n, a, b, c⟩
  | _ => ⟨⟨#[]⟩, 0, 0, 0⟩
theorem mtOf_at {H : Hp} {t : Addr} {m : Mt} (h : MtAt H t m) : mtOf H t = m := by
  unfold mtOf
  rw [show H t = some (.tup [.str m.name, .int m.low, .int m.high, .int m.err]) from h]
theorem mts_map {H : Hp} : ∀ {ts : List Addr} {ms : List Mt}, Paired (MtAt H) ts ms → ms = ts.map (mtOf H) ∧ ∀ t ∈ ts, MtAt H t (mtOf H t)
  | _, _, .nil => ⟨rfl, fun _ z => nomatch z⟩
  | t :: ts, _ :: ms, .cons a r => by
    obtain ⟨e, k⟩ := mts_map r
    refine ⟨by rw [List.map_cons, mtOf_at a, ← e], fun x hx => ?_⟩
    rcases List.mem_cons.mp hx with rfl | z
    · rw [mtOf_at a]
      exact a
    · exact k x z
theorem mts_of {H : Hp} : ∀ (ts : List Addr), (∀ t ∈ ts, MtAt H t (mtOf H t)) → Paired (MtAt H) ts (ts.map (mtOf H))
  | [], _ => .nil
  | t :: ts, h => .cons (h t List.mem_cons_self) (mts_of ts fun x hx => h x (List.mem_cons_of_mem _ hx))
theorem refs_perm {ys : List V} {ts : List Addr} (p : ys.Perm (ts.map V.ref)) : ∃ us : List Addr, ys = us.map V.ref ∧ us.Perm ts := by
  have g : ∀ ys : List V, (∀ y ∈ ys, ∃ t, y = V.ref t) → ∃ us : List Addr, ys = us.map V.ref := by
    intro ys
    induction ys with
    | nil => exact fun _ => ⟨[], rfl⟩
    | cons y ys ih =>
      intro h
      obtain ⟨t, rfl⟩ := h y List.mem_cons_self
      obtain ⟨us, e⟩ := ih fun u hu => h u (List.mem_cons_of_mem _ hu)
      exact ⟨t :: us, by rw [e]; rfl⟩
  obtain ⟨us, rfl⟩ := g ys fun y hy => by
    obtain ⟨t, _, e⟩ := List.mem_map.mp (p.mem_iff.mp hy)
    exact ⟨t, e.symm⟩
  refine ⟨us, rfl, ?_⟩
  have q := p.map (fun v => match v with | .ref a => a | _ => 0)
  rw [List.map_map, List.map_map] at q
  have e : ∀ l : List Addr, l.map ((fun v => match v with | .ref a => a | _ => 0) ∘ V.ref) = l := fun l => by
    have : ((fun v => match v with | V.ref a => a | _ => 0) ∘ V.ref) = (id : Addr → Addr) := rfl
    rw [this, List.map_id]
  rw [e, e] at q
  exact q
theorem in_names {x : Str} : ∀ ns : List Str, inV (.str x) (ns.map V.str) = decide (x ∈ ns)
  | [] => by simp [inV]
  | n :: ns => by
    have ih := in_names (x := x) ns
    unfold inV at ih ⊢
    rw [List.map_cons, List.any_cons, ih]
    by_cases e : n = x
    · subst e
      simp [eqV]
    · have e1 : eqV (.str n) (.str x) = false := beq_eq_false_iff_ne.mpr e
      have e2 : ¬ x = n := fun z => e z.symm
      rw [e1, Bool.false_or, decide_eq_decide]
      simp [List.mem_cons, e2]
theorem flat_names (ns : List Str) : (ns.map V.str).all flatV = true := by
  rw [List.all_map, List.all_eq_true]
  exact fun _ _ => rfl

def topS (i : Nat) : Stmt := PySem.Challenge.pw_toldwhensure_k03_windows_of_times.main.body.getD i (.Pass ⟨0, 0, 0, 0⟩)
abbrev s_window_of : Stmt := topS 1
theorem sc_window_of : FnScope ["plan", "time"] ["plan", "time"] (defScope s_window_of) := ⟨rfl, rfl, rfl, by decide +kernel, rfl, by decide +kernel, by decide +kernel⟩
abbrev s_l_draws : Stmt := topS 3
theorem sc_l_draws : FnScope ["script", "many", "cells", "rest", "draws", "k", "at", "once", "cell"] ["script", "many"] (defScope s_l_draws) := ⟨rfl, rfl, rfl, by decide +kernel, rfl, by decide +kernel, by decide +kernel⟩
abbrev s_l_take : Stmt := topS 4
theorem sc_l_take : FnScope ["draws", "many"] ["draws", "many"] (defScope s_l_take) := ⟨rfl, rfl, rfl, by decide +kernel, rfl, by decide +kernel, by decide +kernel⟩
abbrev s_l_cell : Stmt := topS 5
theorem sc_l_cell : FnScope ["script", "draws"] ["script", "draws"] (defScope s_l_cell) := ⟨rfl, rfl, rfl, by decide +kernel, rfl, by decide +kernel, by decide +kernel⟩
abbrev s_l_word : Stmt := topS 6
theorem sc_l_word : FnScope ["number", "word", "k"] ["number"] (defScope s_l_word) := ⟨rfl, rfl, rfl, by decide +kernel, rfl, by decide +kernel, by decide +kernel⟩
abbrev s_l_some_word : Stmt := topS 7
theorem sc_l_some_word : FnScope ["draws", "number", "great"] ["draws"] (defScope s_l_some_word) := ⟨rfl, rfl, rfl, by decide +kernel, rfl, by decide +kernel, by decide +kernel⟩
abbrev s_l_is_integer : Stmt := topS 8
theorem sc_l_is_integer : FnScope ["value"] ["value"] (defScope s_l_is_integer) := ⟨rfl, rfl, rfl, by decide +kernel, rfl, by decide +kernel, by decide +kernel⟩
abbrev s_l_plan : Stmt := topS 9
theorem sc_l_plan : FnScope ["draws", "cell", "many", "meters", "name", "low", "wide", "length", "k"] ["draws", "cell"] (defScope s_l_plan) := ⟨rfl, rfl, rfl, by decide +kernel, rfl, by decide +kernel, by decide +kernel⟩
abbrev s_l_right : Stmt := topS 10
theorem sc_l_right : FnScope ["plan", "time", "window"] ["plan", "time"] (defScope s_l_right) := ⟨rfl, rfl, rfl, by decide +kernel, rfl, by decide +kernel, by decide +kernel⟩
abbrev s_law : Stmt := topS 11
theorem sc_law : FnScope ["script", "draws", "cell", "k", "plan", "edge", "time"] ["script"] (defScope s_law) := ⟨rfl, rfl, rfl, by decide +kernel, rfl, by decide +kernel, by decide +kernel⟩
/-- what the top has left: where each def stands; the built-ins' names are not taken -/
structure Ctx (K : PySem.W.Frag) (mg : Str → Option Value) where
  f_window_of : Addr
  fd_window_of : FuncData
  F_window_of : Fun K "window_of" "window_of" s_window_of f_window_of fd_window_of
  b_window_of : Binds K fd_window_of ["plan", "time"] []
  g_window_of : mg "window_of" = some (.ref f_window_of)
  f_l_draws : Addr
  fd_l_draws : FuncData
  F_l_draws : Fun K "_law_draws" "_law_draws" s_l_draws f_l_draws fd_l_draws
  b_l_draws : Binds K fd_l_draws ["script", "many"] []
  g_l_draws : mg "_law_draws" = some (.ref f_l_draws)
  f_l_take : Addr
  fd_l_take : FuncData
  F_l_take : Fun K "_law_take" "_law_take" s_l_take f_l_take fd_l_take
  b_l_take : Binds K fd_l_take ["draws", "many"] []
  g_l_take : mg "_law_take" = some (.ref f_l_take)
  f_l_cell : Addr
  fd_l_cell : FuncData
  F_l_cell : Fun K "_law_cell" "_law_cell" s_l_cell f_l_cell fd_l_cell
  b_l_cell : Binds K fd_l_cell ["script", "draws"] []
  g_l_cell : mg "_law_cell" = some (.ref f_l_cell)
  f_l_word : Addr
  fd_l_word : FuncData
  F_l_word : Fun K "_law_word" "_law_word" s_l_word f_l_word fd_l_word
  b_l_word : Binds K fd_l_word ["number"] []
  g_l_word : mg "_law_word" = some (.ref f_l_word)
  f_l_some_word : Addr
  fd_l_some_word : FuncData
  F_l_some_word : Fun K "_law_some_word" "_law_some_word" s_l_some_word f_l_some_word fd_l_some_word
  b_l_some_word : Binds K fd_l_some_word ["draws"] []
  g_l_some_word : mg "_law_some_word" = some (.ref f_l_some_word)
  f_l_is_integer : Addr
  fd_l_is_integer : FuncData
  F_l_is_integer : Fun K "_law_is_integer" "_law_is_integer" s_l_is_integer f_l_is_integer fd_l_is_integer
  b_l_is_integer : Binds K fd_l_is_integer ["value"] []
  g_l_is_integer : mg "_law_is_integer" = some (.ref f_l_is_integer)
  f_l_plan : Addr
  fd_l_plan : FuncData
  F_l_plan : Fun K "_law_plan" "_law_plan" s_l_plan f_l_plan fd_l_plan
  b_l_plan : Binds K fd_l_plan ["draws", "cell"] []
  g_l_plan : mg "_law_plan" = some (.ref f_l_plan)
  f_l_right : Addr
  fd_l_right : FuncData
  F_l_right : Fun K "_law_right" "_law_right" s_l_right f_l_right fd_l_right
  b_l_right : Binds K fd_l_right ["plan", "time"] []
  g_l_right : mg "_law_right" = some (.ref f_l_right)
  f_law : Addr
  fd_law : FuncData
  F_law : Fun K "law" "law" s_law f_law fd_law
  b_law : Binds K fd_law ["script"] []
  g_law : mg "law" = some (.ref f_law)
  m_abs : mg "abs" = none
  m_bool : mg "bool" = none
  m_int : mg "int" = none
  m_isinstance : mg "isinstance" = none
  m_len : mg "len" = none
  m_list : mg "list" = none
  m_range : mg "range" = none
  m_set : mg "set" = none
  m_sorted : mg "sorted" = none
  m_tuple : mg "tuple" = none
def sp_window_of (K : PySem.W.Frag) : Sp := fun vs H Q _ => ∃ (p : Addr) (L t : Int) (xs : List V), vs = [.ref p, .int t] ∧ H p = some (.tup (.int L :: xs)) ∧ 1 ≤ L ∧ Q (.int (t / L)) H
section
variable {P : Program} {w : World} {K : PySem.W.Frag} {mg : Str → Option Value} {base : Heap}
theorem ok_window_of (T : Ctx K mg) (hN : base.NoSeer) (ht : P.given.tree = none) : FnOk P w K mg base CX0 34 T.f_window_of T.fd_window_of ["plan", "time"] (sp_window_of K) := by
  refine T.F_window_of.ok sc_window_of (fun vs H Q E h => ?_) (fun cdv A outer s H vs Q E hr h => ?_)
  · obtain ⟨p, L, t, xs, rfl, _⟩ := h
    rfl
  · obtain ⟨p, L, t, xs, rfl, hp, hL, q⟩ := h
    have hd0 := hr.dp
    have hd : (A.deeper (envOfC "window_of" (defScope s_window_of) s.heap.objs.size T.f_window_of cdv)).depth + 100 < recursionLimit := by omega
    refine ⟨_, (pss_one (ps_ret (pe_op (Big.op_fdivP hN ht rfl rfl rfl hd) (pv 1) (pe_ix ix_tup (pv 0) pe_int (fun _ _ => rfl))))), ?_⟩
    exact ⟨.int t, rfl, .ref p, rfl, p, _, 0, _, rfl, rfl, .inl (.inl hp), atI_nat (j := 0) rfl, _, _, rfl, rfl, (show (0 : Int) < L by omega), q⟩
end
def sp_l_draws (K : PySem.W.Frag) : Sp := fun vs H Q _ => ∃ (a : Addr) (ns : List Int) (m : Nat), vs = [.ref a, .int (m : Int)] ∧ SqL K H a (ns.map V.int) ∧ ns.length ≤ 1000 ∧ m ≤ 1000 ∧
  ∀ H' d, Same H H' → H d = none → DrA H' d → Q (.ref d) H'
section
variable {P : Program} {w : World} {K : PySem.W.Frag} {mg : Str → Option Value} {base : Heap}
theorem ok_l_draws (T : Ctx K mg) : FnOk P w K mg base CX0 1 T.f_l_draws T.fd_l_draws ["script", "many"] (sp_l_draws K) := by
  refine T.F_l_draws.ok sc_l_draws (fun vs H Q E h => ?_) (fun cdv A outer s H vs Q E hr h => ?_)
  · obtain ⟨a, ns, m, rfl, _⟩ := h
    rfl
  · obtain ⟨a, ns, m, rfl, hS, hlen, hm, q⟩ := h
    refine ⟨_, (pss_cons (ps_setLc (i := 2) (own := [("cell", 8)]) (g := gName 8) (by rfl) sc_l_draws.nd rfl rfl (sw_true rfl rfl rfl (by decide +kernel)) (pi_list (pv 0)) (blkOk_by (own := [("cell", 8)]) (N := ["script", "many", "cells", "rest", "draws", "k", "at", "once", "cell"]) (sc := defScope s_l_draws) (by decide +kernel)) (fun _ _ _ _ _ => pg_name (i := 8) sc_l_draws.nd rfl (Or.inl rfl)) (fun _ _ _ _ _ => pts_nil) (fun _ _ _ _ _ => (pe_callTy call_int1 (by rfl) T.m_int (by decide +kernel) (pa_cons (pv 8) pa_nil))))
      (pss_cons (ps_if (pt_cmpR op_eq (pe_callB call_len_seq (by rfl) T.m_len (by decide +kernel) (pa_cons (pv 2) pa_nil)) pe_int (nomark _))
        (pss_one (ps_expr (pe_bm PySem.F.plainAttrs_list PySem.F.slot_list_append PySem.F.type_list_append mt_append (pv 2) (pa_cons pe_int pa_nil))))
        pss_nil)
      (pss_cons (ps_set (i := 3) sc_l_draws.nd rfl (.inl rfl) (pe_callTy call_list_of (by rfl) T.m_list (by decide +kernel) (pa_cons (pv 2) pa_nil)))
      (pss_cons (ps_set (i := 4) sc_l_draws.nd rfl (.inl rfl) (pe_lst pa_nil))
      (pss_cons (ps_for PassesOwn.never rfl (pi_range1 (by rfl) T.m_range (pa_cons (pv 1) pa_nil)) (pg_name (i := 5) sc_l_draws.nd rfl (.inl rfl))
        (pss_cons (ps_set (i := 6) sc_l_draws.nd rfl (.inl rfl) (pe_op op_mod (pv 5) (pe_callB call_len_seq (by rfl) T.m_len (by decide +kernel) (pa_cons (pv 2) pa_nil))))
      (pss_one (ps_if (pt_cmpR op_ge (pe_ix ix_list (pv 2) (pv 6) (fun _ _ => rfl)) (pe_op op_pow pe_int pe_int) (nomark _))
        (pss_cons (ps_expr (pe_bm PySem.F.plainAttrs_list PySem.F.slot_list_append PySem.F.type_list_append mt_append (pv 4) (pa_cons (pe_op op_mod (pe_callTy call_int1 (by rfl) T.m_int (by decide +kernel) (pa_cons (pe_ix ix_list (pv 3) (pv 6) (fun _ _ => rfl)) pa_nil)) pe_int) pa_nil)))
      (pss_one (ps_asg (pe_op op_fdiv (pe_ix ix_list (pv 3) (pv 6) (fun _ _ => rfl)) pe_int) (pg_sub (pv 3) (pv 6) set_list))))
        (pss_cons (ps_set (i := 7) sc_l_draws.nd rfl (.inl rfl) (pe_op op_mod (pe_callTy call_int1 (by rfl) T.m_int (by decide +kernel) (pa_cons (pe_op op_add (pe_op op_add (pe_op op_mul (pe_ix ix_list (pv 2) (pv 6) (fun _ _ => rfl)) pe_int) (pe_op op_mul (pv 5) pe_int)) pe_int) pa_nil)) pe_int))
      (pss_one (ps_expr (pe_bm PySem.F.plainAttrs_list PySem.F.slot_list_append PySem.F.type_list_append mt_append (pv 4) (pa_cons (pe_op op_mod (pe_callTy call_int1 (by rfl) T.m_int (by decide +kernel) (pa_cons (pe_op op_add (pe_op op_add (pe_op op_mul (pv 7) (pv 7)) (pe_op op_mul pe_int (pv 7))) (pv 5)) pa_nil)) pe_int) pa_nil)))))))))
      (pss_cons (ps_expr (pe_bm0 PySem.F.plainAttrs_list PySem.F.slot_list_reverse PySem.F.type_list_reverse mt_reverse (pv 4)))
      (pss_one (ps_ret (pv 4))))))))), ?_⟩
    -- cells = [int(cell) for cell in script]
    refine ⟨.ref a, rfl, a, rfl, ⟨_, hS⟩, fun C hC => lc_list (K := K) (a := a) (xs := ns.map V.int) (fun i H1 => Same H H1 ∧ H1 C = some (.lst ((ns.take i).map V.int))) ⟨same_new hC, upd_same⟩ (fun i H1 _ p => p.1.seq hS) (fun i x H1 hx p => ?_) (fun H1 p => ?_)⟩
    · obtain ⟨hlt, hx'⟩ := List.getElem?_eq_some_iff.mp hx
      rw [List.length_map] at hlt
      have ex : x = .int ns[i] := by
        rw [← hx', List.getElem_map]
      subst ex
      refine ⟨rfl, _, rfl, .inl ⟨_, rfl, _, p.2, ?_, ?_, ?_⟩⟩
      · rw [List.length_map, List.length_take]
        exact small (by omega)
      · exact fun b o e => by
          rw [upd_ne (ne_of_none e hC)]
          exact p.1 b o e
      · rw [upd_same, List.take_add_one, List.getElem?_eq_getElem hlt, List.map_append]
        rfl
    · rw [List.length_map, List.take_length] at p
      obtain ⟨s1, hc⟩ := p
      refine ⟨.ref C, rfl, C, _, rfl, .inl (.inl (.inl hc)), rfl, _, rfl, ite2 (fun e => ?c1) (fun e => ?c2)⟩
      case' c1 =>
        have e0 : ns = [] := by
          have z : ((ns.map V.int).length : Int) = 0 := V.int.inj (of_decide_eq_true e)
          rw [List.length_map] at z
          exact List.length_eq_zero_iff.mp (by omega)
        subst e0
        refine ⟨.ref C, rfl, .inl ⟨rfl, _, .inl (.inl hc)⟩, C, _, _, rfl, rfl, hc, small (by decide), ?_⟩
        obtain ⟨H2, cs, hH, hcs, hcl, s2, hc2⟩ : ∃ (H2 : Hp) (cs : List Int), H2 = upd H1 C (.lst (List.map V.int [] ++ [.int 0])) ∧ cs ≠ [] ∧ cs.length ≤ 1000 ∧ Same H H2 ∧ H2 C = some (.lst (cs.map V.int)) :=
          ⟨_, [0], rfl, by simp, by decide, fun b o e => by rw [upd_ne (ne_of_none e hC)]; exact s1 b o e, upd_same⟩
        rw [← hH]
      case' c2 =>
        obtain ⟨H2, cs, hH, hcs, hcl, s2, hc2⟩ : ∃ (H2 : Hp) (cs : List Int), H2 = H1 ∧ cs ≠ [] ∧ cs.length ≤ 1000 ∧ Same H H2 ∧ H2 C = some (.lst (cs.map V.int)) :=
          ⟨H1, ns, rfl, fun z => by subst z; exact e (decide_eq_true rfl), hlen, s1, hc⟩
        rw [← hH]
      all_goals (
        have hcl0 : 0 < cs.length := by cases cs with | nil => exact absurd rfl hcs | cons x r => exact Nat.succ_pos _
        refine ⟨.ref C, rfl, C, _, rfl, .inl (.inl (.inl hc2)), fun r nr => ⟨Nat.zero_le _, fun D nD => ⟨.int m, rfl, m, rfl, by omega, by omega, ?_⟩⟩⟩
        have nrC : C ≠ r := ne_of_none hc2 nr
        have nDr : D ≠ r := fun e => by rw [e, upd_same] at nD; cases nD
        have nDC : C ≠ D := fun e => by rw [← e, upd_ne nrC, hc2] at nD; cases nD
        have nHD : H D = none := s2.free (by rw [upd_ne nDr] at nD; exact nD)
        have nHr : H r = none := s2.free nr
        refine for_range (lo := 0) (n := m) (fun i σ H3 => ∃ (y5 y6 y7 y8 : Option V) (rs ds : List Int), σ = [some (.ref a), some (.int m), some (.ref C), some (.ref r), some (.ref D), y5, y6, y7, y8] ∧
          Same H H3 ∧ H3 C = some (.lst (cs.map V.int)) ∧ H3 r = some (.lst (rs.map V.int)) ∧ rs.length = cs.length ∧ H3 D = some (.lst (ds.map V.int)) ∧ ds.length = i) ?_ (fun i σ H3 hi hp => ?_) (fun σ H3 hp => ?_)
        · refine ⟨none, none, none, none, cs, [], rfl, (s2.trans (same_new nr)).trans (same_new nD), ?_, ?_, rfl, upd_same, rfl⟩
          · rw [upd_ne nDC, upd_ne nrC]; exact hc2
          · rw [upd_ne nDr.symm, upd_same]
        · obtain ⟨y5, y6, y7, y8, rs, ds, rfl, s3, hC3, hr3, hrl, hD3, hdl⟩ := hp
          have e0 : (0 : Int) + (i : Int) = (i : Int) := by omega
          have hk0 : 0 ≤ ((0 : Int) + (i : Int)) % (cs.length : Int) := Int.emod_nonneg _ (by omega)
          have hk1 : ((0 : Int) + (i : Int)) % (cs.length : Int) < (cs.length : Int) := Int.emod_lt_of_pos _ (by omega)
          have hlenC : ((cs.map V.int).length : Int) = (cs.length : Int) := by rw [List.length_map]
          have hSC : SqL K H3 C (cs.map V.int) := .inl (.inl hC3)
          have hSr : SqL K H3 r (rs.map V.int) := .inl (.inl hr3)
          have more : ∀ (z : Int) (H4 : Hp), (∀ b o, H3 b = some o → b ≠ D → b ≠ r → H4 b = some o) → ∀ rs' : List Int, rs'.length = cs.length → H4 r = some (.lst (rs'.map V.int)) → H4 D = some (.lst (ds.map V.int ++ [.int z])) → ∀ y6 y7 : Option V,
              ∃ (z5 z6 z7 z8 : Option V) (rs ds : List Int), [some (.ref a), some (.int m), some (.ref C), some (.ref r), some (.ref D), some (.int ((0 : Int) + (i : Int))), y6, y7, y8] = [some (.ref a), some (.int m), some (.ref C), some (.ref r), some (.ref D), z5, z6, z7, z8] ∧
              Same H H4 ∧ H4 C = some (.lst (cs.map V.int)) ∧ H4 r = some (.lst (rs.map V.int)) ∧ rs.length = cs.length ∧ H4 D = some (.lst (ds.map V.int)) ∧ ds.length = i + 1 := fun z H4 k rs' hl' hr' hd' y6 y7 => by
            refine ⟨_, _, _, _, rs', ds ++ [z], rfl, fun b o e => k b o (s3 b o e) (ne_of_none e nHD) (ne_of_none e nHr), k C _ hC3 nDC nrC, hr', hl', ?_, ?_⟩
            · rw [hd', List.map_append]; rfl
            · rw [List.length_append, hdl]; rfl
          refine ⟨.int (0 + (i : Int)), rfl, .ref C, rfl, C, _, rfl, .inl hSC, _, _, rfl, rfl, by rw [hlenC]; omega, ?_⟩
          rw [hlenC]
          dsimp only
          generalize hkk : ((0 : Int) + (i : Int)) % (cs.length : Int) = kk at hk0 hk1 ⊢
          have hat : atI (cs.map V.int) kk = some (.int (cs[kk.toNat]'(by omega))) := atM_pos hk0 hk1
          have har : atI (rs.map V.int) kk = some (.int (rs[kk.toNat]'(by omega))) := atM_pos hk0 (by omega)
          generalize cs[kk.toNat]'(by omega) = cv at hat
          generalize rs[kk.toNat]'(by omega) = rv at har
          refine ⟨.ref C, rfl, .int kk, rfl, C, _, kk, _, rfl, rfl, hSC, hat, 10, 18, rfl, rfl, ⟨by decide, by decide, by decide⟩, _, _, rfl, rfl, _, rfl, ite2 (fun e => ?_) (fun e => ?_)⟩
          · have hge : (10 : Int) ^ (18 : Int).toNat ≤ cv := of_decide_eq_true e
            refine ⟨.ref D, rfl, .inl ⟨rfl, _, .inl (.inl hD3)⟩, .ref r, rfl, .int kk, rfl, r, _, kk, _, rfl, rfl, hSr, har, .inl ⟨_, rfl, _, _, rfl, rfl, (show (0 : Int) < 1000 by decide), D, _, _, rfl, rfl, hD3, ?_, ?_⟩⟩
            · rw [List.length_map]; exact small (by omega)
            · have nrD : r ≠ D := nDr.symm
              have hr4 : upd H3 D (.lst (ds.map V.int ++ [.int (rv % 1000)])) r = some (.lst (rs.map V.int)) := by rw [upd_ne nrD]; exact hr3
              have hj : ixN (rs.map V.int).length kk = some kk.toNat := by
                unfold ixN
                rw [if_pos hk0, if_pos (by rw [List.length_map]; omega)]
              refine ⟨.ref r, rfl, .int kk, rfl, r, _, kk, _, rfl, rfl, .inl (.inl hr4), har, _, _, rfl, rfl, ⟨by decide, by decide⟩, .ref r, rfl, .int kk, rfl, r, _, kk, _, rfl, rfl, hr4, hj, ?_⟩
              refine more (rv % 1000) _ (fun b o e n1 n2 => ?_) (rs.set kk.toNat (rv / 1000)) (by rw [List.length_set]; exact hrl) ?_ ?_ _ _
              · rw [upd_ne n2, upd_ne n1]; exact e
              · rw [upd_same, List.map_set]
              · rw [upd_ne nDr, upd_same]
          · refine ⟨.ref C, rfl, .int kk, rfl, C, _, kk, _, rfl, rfl, hSC, hat, _, _, rfl, rfl, .inr ⟨by decide, by decide⟩, .int (0 + (i : Int)), rfl, _, _, rfl, rfl, .inr ⟨by decide, by decide⟩, _, _, rfl, rfl, _, _, rfl, rfl, .inl ⟨_, rfl, _, _, rfl, rfl, (show (0 : Int) < 2147483647 by decide), ?_⟩⟩
            have o0 : 0 ≤ (cv * 48271 + (0 + (i : Int)) * 69621 + 11) % 2147483647 := Int.emod_nonneg _ (by decide)
            have o1 : (cv * 48271 + (0 + (i : Int)) * 69621 + 11) % 2147483647 < 2147483647 := Int.emod_lt_of_pos _ (by decide)
            dsimp only
            generalize (cv * 48271 + (0 + (i : Int)) * 69621 + 11) % 2147483647 = on at o0 o1 ⊢
            refine ⟨.ref D, rfl, .inl ⟨rfl, _, .inl (.inl hD3)⟩, .int on, rfl, .int on, rfl, _, _, rfl, rfl, .inl ⟨by omega, by omega⟩, .int on, rfl, _, _, rfl, rfl, .inl ⟨by decide, by decide⟩, _, _, rfl, rfl, .int (0 + (i : Int)), rfl, _, _, rfl, rfl, .inl ⟨_, rfl, _, _, rfl, rfl, (show (0 : Int) < 1000003 by decide), D, _, _, rfl, rfl, hD3, ?_, ?_⟩⟩
            · rw [List.length_map]; exact small (by omega)
            · exact more _ _ (fun b o e n1 n2 => by rw [upd_ne n1]; exact e) rs hrl (by rw [upd_ne nDr.symm]; exact hr3) upd_same _ _
        · obtain ⟨y5, y6, y7, y8, rs, ds, rfl, s3, hC3, hr3, hrl, hD3, hdl⟩ := hp
          refine ⟨.ref D, rfl, .inl ⟨rfl, _, .inl (.inl hD3)⟩, D, _, rfl, rfl, hD3, .ref D, rfl, ?_⟩
          refine q _ D (fun b o e => ?_) nHD ⟨ds.reverse, ?_⟩
          · rw [upd_ne (ne_of_none e nHD)]; exact s3 b o e
          · rw [upd_same, List.map_reverse])
end
def sp_l_take (K : PySem.W.Frag) : Sp := fun vs H Q _ => ∃ (d : Addr) (m : Int), vs = [.ref d, .int m] ∧ DrA H d ∧ 0 < m ∧ ∀ H' r, Dr d H H' → 0 ≤ r → r < m → Q (.int r) H'
section
variable {P : Program} {w : World} {K : PySem.W.Frag} {mg : Str → Option Value} {base : Heap}
theorem ok_l_take (T : Ctx K mg) : FnOk P w K mg base CX0 1 T.f_l_take T.fd_l_take ["draws", "many"] (sp_l_take K) := by
  refine T.F_l_take.ok sc_l_take (fun vs H Q E h => ?_) (fun cdv A outer s H vs Q E hr h => ?_)
  · obtain ⟨d, m, rfl, _⟩ := h
    rfl
  · obtain ⟨d, m, rfl, ⟨ns, hd⟩, hm, q⟩ := h
    refine ⟨_, (pss_cons (ps_if (pt_cmpR op_eq (pe_callB call_len_seq (by rfl) T.m_len (by decide +kernel) (pa_cons (pv 0) pa_nil)) pe_int (nomark _))
        (pss_one (ps_ret pe_int))
        pss_nil)
      (pss_one (ps_ret (pe_op op_mod (pe_callTy call_int1 (by rfl) T.m_int (by decide +kernel) (pa_cons (pe_bm0 PySem.F.plainAttrs_list PySem.F.slot_list_pop PySem.F.type_list_pop mt_pop (pv 0)) pa_nil)) (pv 1))))), ?_⟩
    have hS : SqL K H d (ns.map V.int) := .inl (.inl hd)
    refine ⟨.ref d, rfl, d, _, rfl, .inl hS, rfl, _, rfl, ite2 (fun e => ?_) (fun e => ?_)⟩
    · exact q H 0 ⟨fun _ _ _ h => h, ns, hd⟩ (Int.le_refl 0) hm
    · have hne : ns ≠ [] := fun z => by
        subst z
        exact e (decide_eq_true rfl)
      have hl : (ns.map V.int)[(ns.map V.int).length - 1]? = some (.int (ns.getLast hne)) := by
        rw [List.getElem?_map, List.length_map, at_last hne]
        rfl
      refine ⟨.ref d, rfl, .inl ⟨rfl, _, hS⟩, d, _, _, rfl, rfl, hd, hl, .inl ⟨_, rfl, .int m, rfl, _, _, rfl, rfl, hm, ?_⟩⟩
      rw [← List.map_dropLast]
      exact q _ _ (dr_upd _) (Int.emod_nonneg _ (by omega)) (Int.emod_lt_of_pos _ hm)
end
def sp_l_cell (K : PySem.W.Frag) : Sp := fun vs H Q _ => ∃ (a d : Addr) (ns : List Int), vs = [.ref a, .ref d] ∧ (∀ H', Dr d H H' → SqL K H' a (ns.map V.int)) ∧ DrA H d ∧
  ∀ H' c, Dr d H H' → (c = 0 ∨ c ∈ ns) → Q (.int c) H'
section
variable {P : Program} {w : World} {K : PySem.W.Frag} {mg : Str → Option Value} {base : Heap}
theorem ok_l_cell (T : Ctx K mg) : FnOk P w K mg base CX0 2 T.f_l_cell T.fd_l_cell ["script", "draws"] (sp_l_cell K) := by
  refine T.F_l_cell.ok sc_l_cell (fun vs H Q E h => ?_) (fun cdv A outer s H vs Q E hr h => ?_)
  · obtain ⟨a, d, ns, rfl, _⟩ := h
    rfl
  · obtain ⟨a, d, ns, rfl, hK, hd, q⟩ := h
    have hS := hK H (Dr.refl hd)
    refine ⟨_, (pss_cons (ps_if (pt_cmpR op_eq (pe_callB call_len_seq (by rfl) T.m_len (by decide +kernel) (pa_cons (pv 0) pa_nil)) pe_int (nomark _))
        (pss_one (ps_ret pe_int))
        pss_nil)
      (pss_one (ps_ret (pe_callTy call_int1 (by rfl) T.m_int (by decide +kernel) (pa_cons (pe_ix ix_list (pv 0) (pe_call (ok_l_take T) (hr.mono (by decide)) (by rfl) T.g_l_take T.F_l_take.kp T.b_l_take .nil pass0 (pa_cons (pv 1) (pa_cons (pe_callB call_len_seq (by rfl) T.m_len (by decide +kernel) (pa_cons (pv 0) pa_nil)) pa_nil))) (fun _ _ => rfl)) pa_nil))))), ?_⟩
    refine ⟨.ref a, rfl, a, _, rfl, .inl hS, rfl, _, rfl, ite2 (fun e => ?_) (fun e => ?_)⟩
    · exact q H 0 (Dr.refl hd) (.inl rfl)
    · have hne : ns ≠ [] := fun z => by
        subst z
        exact e (decide_eq_true rfl)
      have hl : 0 < ns.length := by cases ns with | nil => exact absurd rfl hne | cons x r => exact Nat.succ_pos _
      refine ⟨.ref a, rfl, .ref d, rfl, .ref a, rfl, a, _, rfl, .inl hS, d, _, rfl, hd, by rw [List.length_map]; omega, fun H1 r r1 h0 h1 => ?_⟩
      rw [List.length_map] at h1
      have hS1 : SqL K H1 a (ns.map V.int) := hK H1 r1
      exact ⟨a, _, r, _, rfl, rfl, hS1, atM_pos h0 h1, .inl ⟨_, rfl, q H1 _ r1 (.inr (List.getElem_mem _))⟩⟩
end
/-- the word of a number, sign by sign -/
def wcps : Nat → Int → List Nat → List Nat
  | 0, _, acc => acc
  | f + 1, n, acc => if n < 1 then acc else wcps f ((n - 1) / 26) ((97 + ((n - 1) % 26).toNat) :: acc)
def wordS (n : Int) : Str := ⟨(wcps 60 n []).toArray⟩
theorem wcps_stop : ∀ (f : Nat) (n : Int) (acc : List Nat), n < 1 → wcps f n acc = acc
  | 0, _, _, _ => rfl
  | f + 1, n, acc, h => by
    show (if n < 1 then acc else _) = acc
    rw [if_pos h]
def abc : Str := "abcdefghijklmnopqrstuvwxyz"
theorem abc_at : ∀ j : Nat, j < 26 → abc.cps.toList[j]? = some (97 + j) := by decide +kernel
theorem abc_len : abc.cps.toList.length = 26 := by decide +kernel
theorem wcps_isW : ∀ (f : Nat) (n : Int) (acc : List Nat), (∀ c ∈ acc, 97 ≤ c ∧ c ≤ 122) → (∀ c ∈ wcps f n acc, 97 ≤ c ∧ c ≤ 122) ∧ (wcps f n acc).length ≤ f + acc.length ∧ (acc ≠ [] → wcps f n acc ≠ [])
  | 0, n, acc, h => ⟨h, by show acc.length ≤ _; omega, fun z => z⟩
  | f + 1, n, acc, h => by
    by_cases c : n < 1
    · rw [wcps_stop _ _ _ c]
      exact ⟨h, by omega, fun z => z⟩
    · have e : wcps (f + 1) n acc = wcps f ((n - 1) / 26) ((97 + ((n - 1) % 26).toNat) :: acc) := if_neg c
      have h0 : 0 ≤ (n - 1) % 26 := Int.emod_nonneg _ (by decide)
      have h1 : (n - 1) % 26 < 26 := Int.emod_lt_of_pos _ (by decide)
      obtain ⟨a, b, d⟩ := wcps_isW f ((n - 1) / 26) ((97 + ((n - 1) % 26).toNat) :: acc) (fun x hx => by
        rcases List.mem_cons.mp hx with z | z
        · omega
        · exact h x z)
      rw [e]
      exact ⟨a, by simp only [List.length_cons] at b; omega, fun _ => d (List.cons_ne_nil _ _)⟩
theorem wordS_isW {n : Int} (h : 1 ≤ n) : IsW (wordS n) := by
  have e : wcps 60 n [] = wcps 59 ((n - 1) / 26) [97 + ((n - 1) % 26).toNat] := if_neg (by omega)
  have h0 : 0 ≤ (n - 1) % 26 := Int.emod_nonneg _ (by decide)
  have h1 : (n - 1) % 26 < 26 := Int.emod_lt_of_pos _ (by decide)
  obtain ⟨a, b, d⟩ := wcps_isW 59 ((n - 1) / 26) [97 + ((n - 1) % 26).toNat] (fun x hx => by
    rw [List.mem_singleton.mp hx]
    omega)
  rw [← e] at a b d
  refine ⟨by simpa [wordS] using d (by simp), by simpa [wordS] using a, ?_⟩
  show (wcps 60 n []).toArray.size ≤ 200
  simp only [List.size_toArray]
  simp only [List.length_cons, List.length_nil] at b
  omega
def sp_l_word (K : PySem.W.Frag) : Sp := fun vs H Q _ => ∃ n : Int, vs = [.int n] ∧ Q (.str (wordS n)) H
section
variable {P : Program} {w : World} {K : PySem.W.Frag} {mg : Str → Option Value} {base : Heap}
theorem ok_l_word (T : Ctx K mg) : FnOk P w K mg base CX0 1 T.f_l_word T.fd_l_word ["number"] (sp_l_word K) := by
  refine T.F_l_word.ok sc_l_word (fun vs H Q E h => ?_) (fun cdv A outer s H vs Q E hr h => ?_)
  · obtain ⟨n, rfl, _⟩ := h
    rfl
  · obtain ⟨n, rfl, q⟩ := h
    refine ⟨_, (pss_cons (ps_set (i := 1) sc_l_word.nd rfl (.inl rfl) pe_str)
      (pss_cons (ps_for PassesOwn.never rfl (pi_range1 (by rfl) T.m_range (pa_cons pe_int pa_nil)) (pg_name (i := 2) sc_l_word.nd rfl (.inl rfl))
        (pss_cons (ps_if (pt_cmpR op_lt (pv 0) pe_int (nomark _))
        (pss_one ps_break)
        pss_nil)
      (pss_cons (ps_set (i := 1) sc_l_word.nd rfl (.inl rfl) (pe_op op_add_str (pe_ix ix_str pe_str (pe_op op_mod (pe_callTy call_int1 (by rfl) T.m_int (by decide +kernel) (pa_cons (pe_op op_sub (pv 0) pe_int) pa_nil)) pe_int) (fun _ _ => rfl)) (pv 1)))
      (pss_one (ps_set (i := 0) sc_l_word.nd rfl (.inl rfl) (pe_op op_fdiv (pe_op op_sub (pv 0) pe_int) pe_int))))))
      (pss_one (ps_ret (pv 1))))), ?_⟩
    refine ⟨60, rfl, by decide, by decide, ?_⟩
    refine for_range (lo := 0) (n := 60) (fun i σ H3 => ∃ (m : Int) (acc : List Nat) (y2 : Option V), σ = [some (.int m), some (.str ⟨acc.toArray⟩), y2] ∧ H3 = H ∧ wcps 60 n [] = wcps (60 - i) m acc ∧ acc.length ≤ i) ⟨n, [], none, rfl, rfl, rfl, Nat.le_refl 0⟩ (fun i σ H3 hi hp => ?_) (fun σ H3 hp => ?_)
    · obtain ⟨m, acc, y2, rfl, rfl, hw, hl⟩ := hp
      refine ⟨.int m, rfl, _, _, rfl, rfl, _, rfl, ite2 (fun e => ?_) (fun e => ?_)⟩
      · have hm : m < 1 := of_decide_eq_true e
        rw [wcps_stop _ _ _ hm] at hw
        refine ⟨.str ⟨acc.toArray⟩, rfl, ?_⟩
        rw [← hw]
        exact q
      · have hm : ¬ m < 1 := fun z => e (decide_eq_true z)
        have h0 : 0 ≤ (m - 1) % 26 := Int.emod_nonneg _ (by decide)
        have h1 : (m - 1) % 26 < 26 := Int.emod_lt_of_pos _ (by decide)
        have hat : atI abc.cps.toList ((m - 1) % 26) = some (97 + ((m - 1) % 26).toNat) := by
          have ez : (m - 1) % 26 = (((m - 1) % 26).toNat : Int) := by omega
          have q := abc_at ((m - 1) % 26).toNat (by omega)
          rw [ez]
          exact atI_nat q
        refine ⟨.int m, rfl, _, _, rfl, rfl, .inl ⟨_, rfl, _, _, rfl, rfl, (show (0 : Int) < 26 by decide), abc, _, _, rfl, rfl, by decide +kernel, hat, .str ⟨acc.toArray⟩, rfl, _, _, rfl, rfl, ?_, .int m, rfl, _, _, rfl, rfl, _, _, rfl, rfl, ⟨by decide, by decide⟩, ?_⟩⟩
        · show 1 + acc.toArray.size ≤ sizeLine
          have : acc.toArray.size = acc.length := by simp
          rw [this]
          exact small' (by omega)
        · refine ⟨(m - 1) / 26, (97 + ((m - 1) % 26).toNat) :: acc, some (.int (0 + (i : Int))), ?_, rfl, ?_, by simp only [List.length_cons]; omega⟩
          · have ea : (⟨#[97 + ((m - 1) % 26).toNat]⟩ : Str) ++ ⟨acc.toArray⟩ = ⟨((97 + ((m - 1) % 26).toNat) :: acc).toArray⟩ := by
              show Str.mk (#[97 + ((m - 1) % 26).toNat] ++ acc.toArray) = _
              congr 1
              simp
            rw [ea]
            rfl
          · rw [hw]
            have ef : 60 - i = (60 - (i + 1)) + 1 := by omega
            rw [ef]
            show (if m < 1 then acc else _) = _
            rw [if_neg hm]
    · obtain ⟨m, acc, y2, rfl, rfl, hw, hl⟩ := hp
      refine ⟨.str ⟨acc.toArray⟩, rfl, ?_⟩
      have e : wordS n = ⟨acc.toArray⟩ := by
        unfold wordS
        rw [hw]
        rfl
      rw [← e]
      exact q
end
theorem isW_cat {a b : Str} (ha : ∀ c ∈ a.cps.toList, 97 ≤ c ∧ c ≤ 122) (hl : a.length ≤ 60) (hb : IsW b) (hb2 : b.length ≤ 100) : IsW (a ++ b) := by
  have e : (a ++ b).cps.toList = a.cps.toList ++ b.cps.toList := by
    show (a.cps ++ b.cps).toList = _
    simp
  refine ⟨?_, ?_, ?_⟩
  · rw [e]
    intro z
    exact hb.1 (List.append_eq_nil_iff.mp z).2
  · rw [e]
    intro c hc
    rcases List.mem_append.mp hc with z | z
    · exact ha c z
    · exact hb.2.1 c z
  · show (a.cps ++ b.cps).size ≤ 200
    rw [Array.size_append]
    have h1 : a.cps.size ≤ 60 := hl
    have h2 : b.cps.size ≤ 100 := hb2
    omega
theorem wordS_len (n : Int) : (wordS n).length ≤ 60 := by
  show (wcps 60 n []).toArray.size ≤ 60
  simp only [List.size_toArray]
  have h := (wcps_isW 60 n [] (fun _ z => nomatch z)).2.1
  simpa using h
theorem ljkl_ok : ∀ c ∈ (Str.ofString "abcdefghijkl").cps.toList, 97 ≤ c ∧ c ≤ 122 := by decide +kernel
theorem ljkl_len : (Str.ofString "abcdefghijkl").length ≤ 60 := by decide +kernel
def sp_l_some_word (K : PySem.W.Frag) : Sp := fun vs H Q _ => ∃ d : Addr, vs = [.ref d] ∧ DrA H d ∧ ∀ H' w, Dr d H H' → IsW w → Q (.str w) H'
section
variable {P : Program} {w : World} {K : PySem.W.Frag} {mg : Str → Option Value} {base : Heap}
theorem ok_l_some_word (T : Ctx K mg) : FnOk P w K mg base CX0 2 T.f_l_some_word T.fd_l_some_word ["draws"] (sp_l_some_word K) := by
  refine T.F_l_some_word.ok sc_l_some_word (fun vs H Q E h => ?_) (fun cdv A outer s H vs Q E hr h => ?_)
  · obtain ⟨d, rfl, _⟩ := h
    rfl
  · obtain ⟨d, rfl, hd, q⟩ := h
    refine ⟨_, (pss_cons (ps_set (i := 1) sc_l_some_word.nd rfl (.inl rfl) (pe_call (ok_l_take T) (hr.mono (by decide)) (by rfl) T.g_l_take T.F_l_take.kp T.b_l_take .nil pass0 (pa_cons (pv 0) (pa_cons pe_int pa_nil))))
      (pss_cons (ps_if (pt_cmpR op_lt (pv 1) pe_int (nomark _))
        (pss_one (ps_ret (pe_call (ok_l_word T) (hr.mono (by decide)) (by rfl) T.g_l_word T.F_l_word.kp T.b_l_word .nil pass0 (pa_cons (pe_op op_add (pe_op op_add pe_int (pe_op op_mod (pv 1) pe_int)) (pe_op op_mul pe_int (pe_op op_mod (pe_op op_fdiv (pv 1) pe_int) pe_int))) pa_nil))))
        pss_nil)
      (pss_cons (ps_if (pt_cmpR op_lt (pv 1) pe_int (nomark _))
        (pss_one (ps_ret (pe_call (ok_l_word T) (hr.mono (by decide)) (by rfl) T.g_l_word T.F_l_word.kp T.b_l_word .nil pass0 (pa_cons (pe_op op_add pe_int (pe_call (ok_l_take T) (hr.mono (by decide)) (by rfl) T.g_l_take T.F_l_take.kp T.b_l_take .nil pass0 (pa_cons (pv 0) (pa_cons pe_int pa_nil)))) pa_nil))))
        pss_nil)
      (pss_cons (ps_if (pt_cmpR op_lt (pv 1) pe_int (nomark _))
        (pss_one (ps_ret (pe_op op_add_str pe_str (pe_call (ok_l_word T) (hr.mono (by decide)) (by rfl) T.g_l_word T.F_l_word.kp T.b_l_word .nil pass0 (pa_cons (pe_op op_add pe_int (pe_call (ok_l_take T) (hr.mono (by decide)) (by rfl) T.g_l_take T.F_l_take.kp T.b_l_take .nil pass0 (pa_cons (pv 0) (pa_cons pe_int pa_nil)))) pa_nil)))))
        pss_nil)
      (pss_cons (ps_set (i := 2) sc_l_some_word.nd rfl (.inl rfl) (pe_op op_add (pe_op op_mul pe_int (pe_call (ok_l_take T) (hr.mono (by decide)) (by rfl) T.g_l_take T.F_l_take.kp T.b_l_take .nil pass0 (pa_cons (pv 0) (pa_cons pe_int pa_nil)))) (pe_op op_mul pe_int (pe_call (ok_l_take T) (hr.mono (by decide)) (by rfl) T.g_l_take T.F_l_take.kp T.b_l_take .nil pass0 (pa_cons (pv 0) (pa_cons pe_int pa_nil))))))
      (pss_cons (ps_if (pt_cmpR op_ge (pv 1) pe_int (nomark _))
        (pss_one (ps_set (i := 2) sc_l_some_word.nd rfl (.inl rfl) (pe_op op_mul (pv 2) (pe_op op_pow pe_int pe_int))))
        pss_nil)
      (pss_one (ps_ret (pe_call (ok_l_word T) (hr.mono (by decide)) (by rfl) T.g_l_word T.F_l_word.kp T.b_l_word .nil pass0 (pa_cons (pe_op op_add (pe_op op_add pe_int (pv 2)) (pe_call (ok_l_take T) (hr.mono (by decide)) (by rfl) T.g_l_take T.F_l_take.kp T.b_l_take .nil pass0 (pa_cons (pv 0) (pa_cons pe_int pa_nil)))) pa_nil)))))))))), ?_⟩
    refine ⟨.ref d, rfl, d, _, rfl, hd, by decide, fun H1 u r1 u0 u1 => ?_⟩
    refine ⟨_, rfl, _, _, rfl, rfl, _, rfl, ite2 (fun e => ?_) (fun e => ?_)⟩
    · exact ⟨_, rfl, _, _, rfl, rfl, (show (0 : Int) < 6 by decide), _, _, rfl, rfl, _, rfl, _, _, rfl, rfl, ⟨by decide, by decide⟩, _, _, rfl, rfl, (show (0 : Int) < 2 by decide), _, _, rfl, rfl, .inl ⟨by decide, by decide⟩, _, _, rfl, rfl, _, rfl, q _ _ r1 (wordS_isW (by omega))⟩
    refine ⟨_, rfl, _, _, rfl, rfl, _, rfl, ite2 (fun e => ?_) (fun e => ?_)⟩
    · exact ⟨.ref d, rfl, d, _, rfl, r1.at_, by decide, fun H2 v r2 v0 v1 => ⟨_, _, rfl, rfl, _, rfl, q _ _ (r1.trans r2) (wordS_isW (by omega))⟩⟩
    refine ⟨_, rfl, _, _, rfl, rfl, _, rfl, ite2 (fun e => ?_) (fun e => ?_)⟩
    · exact ⟨.ref d, rfl, d, _, rfl, r1.at_, by decide, fun H2 v r2 v0 v1 => ⟨_, _, rfl, rfl, _, rfl, _, _, rfl, rfl, small' (by have := ljkl_len; have := wordS_len (1 + v); omega), q _ _ (r1.trans r2) (isW_cat ljkl_ok ljkl_len (wordS_isW (by omega)) (by have := wordS_len (1 + v); omega))⟩⟩
    refine ⟨.ref d, rfl, d, _, rfl, r1.at_, by decide, fun H2 v r2 v0 v1 => ?_⟩
    refine ⟨_, _, rfl, rfl, .inl ⟨by decide, by decide⟩, .ref d, rfl, d, _, rfl, r2.at_, by decide, fun H3 x r3 x0 x1 => ?_⟩
    refine ⟨_, _, rfl, rfl, .inl ⟨by decide, by decide⟩, _, _, rfl, rfl, ?_⟩
    refine ⟨_, rfl, _, _, rfl, rfl, _, rfl, ite2 (fun e => ?_) (fun e => ?_)⟩
    · refine ⟨_, rfl, _, _, rfl, rfl, ⟨by decide, by decide, by decide⟩, _, _, rfl, rfl, .inl ⟨by omega, by omega⟩, ?_⟩
      refine ⟨_, rfl, _, _, rfl, rfl, .ref d, rfl, d, _, rfl, r3.at_, by decide, fun H4 y r4 y0 y1 => ⟨_, _, rfl, rfl, _, rfl, q _ _ (((r1.trans r2).trans r3).trans r4) (wordS_isW ?_)⟩⟩
      have z : 0 ≤ (1000000 * v + 1000 * x) * 10 ^ (15 : Int).toNat := Int.mul_nonneg (by omega) (by decide)
      omega
    · refine ⟨_, rfl, _, _, rfl, rfl, .ref d, rfl, d, _, rfl, r3.at_, by decide, fun H4 y r4 y0 y1 => ⟨_, _, rfl, rfl, _, rfl, q _ _ (((r1.trans r2).trans r3).trans r4) (wordS_isW (by omega))⟩⟩
end
def sp_l_is_integer (K : PySem.W.Frag) : Sp := fun vs H Q _ => ∃ i : Int, vs = [.int i] ∧ Q (.bl true) H
section
variable {P : Program} {w : World} {K : PySem.W.Frag} {mg : Str → Option Value} {base : Heap}
theorem ok_l_is_integer (T : Ctx K mg) : FnOk P w K mg base CX0 1 T.f_l_is_integer T.fd_l_is_integer ["value"] (sp_l_is_integer K) := by
  refine T.F_l_is_integer.ok sc_l_is_integer (fun vs H Q E h => ?_) (fun cdv A outer s H vs Q E hr h => ?_)
  · obtain ⟨i, rfl, _⟩ := h
    rfl
  · obtain ⟨i, rfl, q⟩ := h
    refine ⟨_, (pss_one (ps_ret (pe_and (pe_callB call_isi (by rfl) T.m_isinstance (by decide +kernel) (pa_cons (pv 0) (pa_cons (pe_bltn (v := .ty "int") (by rfl) T.m_int (by decide +kernel) rfl) pa_nil))) (pe_one (pe_not (pe_callB call_isi (by rfl) T.m_isinstance (by decide +kernel) (pa_cons (pv 0) (pa_cons (pe_bltn (v := .ty "bool") (by rfl) T.m_bool (by decide +kernel) rfl) pa_nil)))))))), ?_⟩
    refine ⟨.int i, rfl, .int i, .ty "int", .type "int", .type "int", true, rfl, .ty _, .base (.int _), kit_ty (by decide +kernel), true, rfl, iteT ?_⟩
    exact ⟨.int i, rfl, .int i, .ty "bool", .type "int", .type "bool", false, rfl, .ty _, .base (.int _), kit_ty (by decide +kernel), false, rfl, q⟩
end
def sp_l_plan (K : PySem.W.Frag) : Sp := fun vs H Q _ => ∃ (d : Addr) (c : Int), vs = [.ref d, .int c] ∧ DrA H d ∧
  ∀ H' p tm ts P, Dr d H H' → PlanAt H' p tm ts P → PlanOk c P → (∀ m ∈ P.ms, IsW m.name) → Q (.ref p) H'
section
variable {P : Program} {w : World} {K : PySem.W.Frag} {mg : Str → Option Value} {base : Heap}
theorem ok_l_plan (T : Ctx K mg) : FnOk P w K mg base CX0 3 T.f_l_plan T.fd_l_plan ["draws", "cell"] (sp_l_plan K) := by
  refine T.F_l_plan.ok sc_l_plan (fun vs H Q E h => ?_) (fun cdv A outer s H vs Q E hr h => ?_)
  · obtain ⟨d, c, rfl, _⟩ := h
    rfl
  · obtain ⟨d, c, rfl, hd, q⟩ := h
    refine ⟨_, (pss_cons (ps_set (i := 2) sc_l_plan.nd rfl (.inl rfl) (pe_op op_add pe_int (pe_call (ok_l_take T) (hr.mono (by decide)) (by rfl) T.g_l_take T.F_l_take.kp T.b_l_take .nil pass0 (pa_cons (pv 0) (pa_cons pe_int pa_nil)))))
      (pss_cons (ps_if (pt_cmpR op_eq (pe_call (ok_l_take T) (hr.mono (by decide)) (by rfl) T.g_l_take T.F_l_take.kp T.b_l_take .nil pass0 (pa_cons (pv 0) (pa_cons pe_int pa_nil))) pe_int (nomark _))
        (pss_one (ps_set (i := 2) sc_l_plan.nd rfl (.inl rfl) (pe_op op_add (pv 2) pe_int)))
        pss_nil)
      (pss_cons (ps_set (i := 3) sc_l_plan.nd rfl (.inl rfl) (pe_lst pa_nil))
      (pss_cons (ps_for PassesOwn.never rfl (pi_list (pe_callB (Tset.cr_sortedSetS rfl) (by rfl) T.m_sorted (by decide +kernel) (pa_cons (pe_callTy (Tset.cr_setOfS rfl) (by rfl) T.m_set (by decide +kernel) (pa_cons (pe_lc (own := [("k", 8)]) (g := gName 8) (by rfl) sc_l_plan.nd (pi_range1 (by rfl) T.m_range (pa_cons (pv 2) pa_nil)) (blkOk_by (own := [("k", 8)]) (N := ["draws", "cell", "many", "meters", "name", "low", "wide", "length", "k"]) (sc := defScope s_l_plan) (by decide +kernel)) (fun _ _ _ _ _ => pg_name (i := 8) sc_l_plan.nd rfl (Or.inl rfl)) (fun _ _ _ _ _ => pts_nil) (fun _ _ _ _ _ => (pe_call (ok_l_some_word T) (hr.mono (by decide)) (by rfl) T.g_l_some_word T.F_l_some_word.kp T.b_l_some_word .nil pass0 (pa_cons (pv 0) pa_nil)))) pa_nil)) pa_nil))) (pg_name (i := 4) sc_l_plan.nd rfl (.inl rfl))
        (pss_cons (ps_set (i := 5) sc_l_plan.nd rfl (.inl rfl) (pe_ix ix_list (pe_lst (pa_cons (pe_op op_sub (pe_call (ok_l_take T) (hr.mono (by decide)) (by rfl) T.g_l_take T.F_l_take.kp T.b_l_take .nil pass0 (pa_cons (pv 0) (pa_cons pe_int pa_nil))) pe_int) (pa_cons (pv 1) pa_nil))) (pe_op op_fdiv (pe_call (ok_l_take T) (hr.mono (by decide)) (by rfl) T.g_l_take T.F_l_take.kp T.b_l_take .nil pass0 (pa_cons (pv 0) (pa_cons pe_int pa_nil))) pe_int) (fun _ _ => rfl)))
      (pss_cons (ps_set (i := 6) sc_l_plan.nd rfl (.inl rfl) (pe_ix ix_list (pe_lst (pa_cons pe_int (pa_cons pe_int (pa_cons pe_int (pa_cons pe_int (pa_cons pe_int (pa_cons pe_int (pa_cons (pe_op op_pow pe_int pe_int) (pa_cons (pe_callB call_abs (by rfl) T.m_abs (by decide +kernel) (pa_cons (pv 1) pa_nil)) pa_nil))))))))) (pe_call (ok_l_take T) (hr.mono (by decide)) (by rfl) T.g_l_take T.F_l_take.kp T.b_l_take .nil pass0 (pa_cons (pv 0) (pa_cons pe_int pa_nil))) (fun _ _ => rfl)))
      (pss_one (ps_expr (pe_bm PySem.F.plainAttrs_list PySem.F.slot_list_append PySem.F.type_list_append mt_append (pv 3) (pa_cons (pe_tup (pa_cons (pv 4) (pa_cons (pv 5) (pa_cons (pe_op op_add (pv 5) (pv 6)) (pa_cons (pe_ix ix_list (pe_lst (pa_cons pe_int (pa_cons pe_int (pa_cons pe_int (pa_cons pe_int (pa_cons pe_int (pa_cons pe_int pa_nil))))))) (pe_call (ok_l_take T) (hr.mono (by decide)) (by rfl) T.g_l_take T.F_l_take.kp T.b_l_take .nil pass0 (pa_cons (pv 0) (pa_cons pe_int pa_nil))) (fun _ _ => rfl)) pa_nil))))) pa_nil)))))))
      (pss_cons (ps_set (i := 7) sc_l_plan.nd rfl (.inl rfl) (pe_ix ix_list (pe_lst (pa_cons pe_int (pa_cons pe_int (pa_cons pe_int (pa_cons pe_int (pa_cons pe_int (pa_cons (pe_op op_add pe_int (pe_callB call_abs (by rfl) T.m_abs (by decide +kernel) (pa_cons (pv 1) pa_nil))) pa_nil))))))) (pe_call (ok_l_take T) (hr.mono (by decide)) (by rfl) T.g_l_take T.F_l_take.kp T.b_l_take .nil pass0 (pa_cons (pv 0) (pa_cons pe_int pa_nil))) (fun _ _ => rfl)))
      (pss_one (ps_ret (pe_tup (pa_cons (pv 7) (pa_cons (pe_callTy call_tuple_of (by rfl) T.m_tuple (by decide +kernel) (pa_cons (pv 3) pa_nil)) pa_nil)))))))))), ?_⟩
    refine ⟨.ref d, rfl, d, _, rfl, hd, by decide, fun H1 u r1 u0 u1 => ⟨_, _, rfl, rfl, ?_⟩⟩
    refine ⟨.ref d, rfl, d, _, rfl, r1.at_, by decide, fun H2 v r2 v0 v1 => ⟨rfl, _, rfl, ite2 (fun e => ?c1) (fun e => ?c2)⟩⟩
    case' c1 =>
      refine ⟨_, rfl, _, _, rfl, rfl, ?_⟩
      dsimp only
      obtain ⟨mn, emn, m0, m1⟩ : ∃ mn : Int, mn = 1 + u + 3 ∧ 1 ≤ mn ∧ mn ≤ 6 := ⟨_, rfl, by omega, by omega⟩
      rw [← emn]
    case' c2 =>
      dsimp only
      obtain ⟨mn, emn, m0, m1⟩ : ∃ mn : Int, mn = 1 + u ∧ 1 ≤ mn ∧ mn ≤ 6 := ⟨_, rfl, by omega, by omega⟩
      rw [← emn]
    all_goals (
      refine ⟨Nat.zero_le _, fun M nM => ?_⟩
      have r12 := r1.trans r2
      have rM : Dr d H (upd H2 M (.lst [])) := r12.then (same_new nM)
      have nMd : M ≠ d := r12.ne nM
      refine ⟨.int mn, rfl, mn, rfl, by omega, by omega, fun C nC => ?_⟩
      have nCd : C ≠ d := rM.ne nC
      have nCM : C ≠ M := fun z => by rw [z, upd_same] at nC; cases nC
      refine lc_range (lo := 0) (n := mn.toNat) (fun i H3 => Dr d H H3 ∧ H3 M = some (.lst []) ∧ ∃ ws : List Str, H3 C = some (.lst (ws.map V.str)) ∧ ws.length = i ∧ ∀ w ∈ ws, IsW w) ⟨rM.then (same_new nC), by rw [upd_ne nCM.symm, upd_same], [], upd_same, rfl, fun _ z => nomatch z⟩ (fun i H3 hi hp => ?_) (fun H3 hp => ?_)
      · obtain ⟨r3, hM3, ws, hC3, hwl, hws⟩ := hp
        refine ⟨rfl, .ref d, rfl, d, rfl, r3.at_, fun H4 wd r4 hw => ⟨_, r4.keep _ _ nCd hC3, ?_, r3.trans r4 |>.keepNew nCd ?_, ?_, ws ++ [wd], ?_, ?_, ?_⟩⟩
        · rw [List.length_map]
          exact small (by omega)
        · exact rM.free hd nC
        · rw [upd_ne nCM.symm]
          exact r4.keep _ _ nMd hM3
        · rw [upd_same, List.map_append]
          rfl
        · rw [List.length_append, hwl]
          rfl
        · intro w hm
          rcases List.mem_append.mp hm with z | z
          · exact hws w z
          · rw [List.mem_singleton.mp z]
            exact hw
      · obtain ⟨r3, hM3, ws, hC3, hwl, hws⟩ := hp
        refine ⟨C, ws, rfl, .inl (.inl hC3), by omega, fun S ls nS hm hll => ⟨S, ls, rfl, upd_same, by omega, fun ys L pm nd so nL => ?_⟩⟩
        have nSd : S ≠ d := r3.ne nS
        have rS := r3.then (same_new (o := Tset.SetS P w S ls) nS)
        have nLd : L ≠ d := rS.ne nL
        have nMS : M ≠ S := ne_of_none hM3 nS
        have hMS : upd H3 S (Tset.SetS P w S ls) M = some (.lst []) := by rw [upd_ne nMS]; exact hM3
        have nML : M ≠ L := ne_of_none hMS nL
        have ysW : ∀ y ∈ ys, IsW y := fun y hy => hws y ((hm y).mp (pm.mem_iff.mp hy))
        have ysl : ys.length ≤ 6 := by rw [pm.length_eq]; omega
        have ysne : ys ≠ [] := fun z => by
          rw [z] at pm
          have e0 : ls = [] := List.length_eq_zero_iff.mp (by have := pm.length_eq; simpa using this.symm)
          have : 0 < ws.length := by omega
          cases ws with
          | nil => exact absurd this (by decide)
          | cons x r =>
            have := (hm x).mpr List.mem_cons_self
            rw [e0] at this
            cases this
        refine ⟨L, rfl, ⟨_, .inl (.inl upd_same)⟩, for_list (K := K) (a := L) (xs := ys.map V.str) (fun i σ H4 => ∃ (y4 y5 y6 y7 : Option V) (ts : List Addr) (ms : List Mt), σ = [some (.ref d), some (.int c), some (.int mn), some (.ref M), y4, y5, y6, y7, none] ∧
          Dr d H H4 ∧ H4 L = some (.lst (ys.map V.str)) ∧ H4 M = some (.lst (ts.map V.ref)) ∧ Paired (MtAt H4) ts ms ∧ ms.map Mt.name = ys.take i ∧ (∀ m ∈ ms, MtOk c m)) ?_ (fun i σ H4 _ hp => ?_) (fun i x σ H4 hx hp => ?_) (fun σ H4 hp => ?_)⟩
        · exact ⟨none, none, none, none, [], [], rfl, rS.then (same_new nL), upd_same, by rw [upd_ne nML]; exact hMS, .nil, rfl, fun _ z => nomatch z⟩
        · obtain ⟨_, _, _, _, _, _, _, _, hL, _⟩ := hp
          exact .inl (.inl hL)
        · obtain ⟨y4, y5, y6, y7, ts, ms, rfl, r4, hL4, hM4, hP4, hn4, ho4⟩ := hp
          obtain ⟨hlt, hx'⟩ := List.getElem?_eq_some_iff.mp hx
          rw [List.length_map] at hlt
          have ex : x = .str ys[i] := by rw [← hx', List.getElem_map]
          subst ex
          have hml : ms.length = i := by
            have := congrArg List.length hn4
            rw [List.length_map, List.length_take] at this
            omega
          have htl : ts.length = i := by rw [← hml]; exact hP4.length
          -- low
          refine ⟨.ref d, rfl, d, _, rfl, r4.at_, by decide, fun H5 x5 r5 x50 x51 => ⟨_, _, rfl, rfl, .int c, rfl, small' (n := 2) (by decide), fun p5 n5 => ?_⟩⟩
          have r45 := r4.trans r5
          have q5 := r45.then (same_new (o := .lst [.int (x5 - 3), .int c]) n5)
          have n5d : p5 ≠ d := r45.ne n5
          refine ⟨.ref d, rfl, d, _, rfl, q5.at_, by decide, fun H6 x6 r6 x60 x61 => ?_⟩
          have h6 : H6 p5 = some (.lst [.int (x5 - 3), .int c]) := r6.keep _ _ n5d upd_same
          obtain ⟨lv, lvm, lva⟩ := pick (xs := [x5 - 3, c]) (vs := [.int (x5 - 3), .int c]) (k := x6 / 8) rfl (by omega) (by show x6 / 8 < 2; omega)
          have lvB : lv.natAbs ≤ c.natAbs + 3 := by
            rcases List.mem_cons.mp lvm with z | z
            · omega
            · rw [List.mem_singleton.mp z]; omega
          refine ⟨_, _, rfl, rfl, ⟨by decide, by decide⟩, p5, _, _, _, rfl, rfl, .inl (.inl h6), lva, ?_⟩
          -- wide
          refine ⟨_, _, rfl, rfl, ⟨by decide, by decide, by decide⟩, .int c, rfl, c, rfl, small' (n := 8) (by decide), fun p7 n7 => ?_⟩
          rw [abs_eq]
          have q6 := q5.trans r6
          have q7 := q6.then (same_new (o := .lst [.int 0, .int 1, .int 1, .int 2, .int 5, .int 40, .int (10 ^ (20 : Int).toNat), .int (c.natAbs : Int)]) n7)
          have n7d : p7 ≠ d := q6.ne n7
          refine ⟨.ref d, rfl, d, _, rfl, q7.at_, by decide, fun H8 x8 r8 x80 x81 => ?_⟩
          have h8 : H8 p7 = some (.lst [.int 0, .int 1, .int 1, .int 2, .int 5, .int 40, .int (10 ^ (20 : Int).toNat), .int (c.natAbs : Int)]) := r8.keep _ _ n7d upd_same
          obtain ⟨wv, wvm, wva⟩ := pick (xs := [0, 1, 1, 2, 5, 40, 10 ^ (20 : Int).toNat, (c.natAbs : Int)]) (vs := [.int 0, .int 1, .int 1, .int 2, .int 5, .int 40, .int (10 ^ (20 : Int).toNat), .int (c.natAbs : Int)]) (k := x8) rfl (by omega) (by show x8 < 8; omega)
          have wvB : 0 ≤ wv ∧ wv ≤ c.natAbs + 10 ^ 20 := by
            have et : (10 : Int) ^ (20 : Int).toNat = 10 ^ 20 := rfl
            rw [et] at wvm
            simp only [List.mem_cons, List.not_mem_nil, or_false] at wvm
            omega
          refine ⟨p7, _, _, _, rfl, rfl, .inl (.inl h8), wva, ?_⟩
          -- the meter
          have q8 := q7.trans r8
          have hM8 : H8 M = some (.lst (ts.map V.ref)) := by
            have a5 : H5 M = some (.lst (ts.map V.ref)) := r5.keep _ _ nMd hM4
            have a6 := r6.keep _ _ nMd (show upd H5 p5 _ M = some (.lst (ts.map V.ref)) by rw [upd_ne (ne_of_none a5 n5)]; exact a5)
            exact r8.keep _ _ nMd (by rw [upd_ne (ne_of_none a6 n7)]; exact a6)
          have hL8 : H8 L = some (.lst (ys.map V.str)) := by
            have a5 : H5 L = some (.lst (ys.map V.str)) := r5.keep _ _ nLd hL4
            have a6 := r6.keep _ _ nLd (show upd H5 p5 _ L = some (.lst (ys.map V.str)) by rw [upd_ne (ne_of_none a5 n5)]; exact a5)
            exact r8.keep _ _ nLd (by rw [upd_ne (ne_of_none a6 n7)]; exact a6)
          have hP8 : Paired (MtAt H8) ts ms :=
            r8.mts q7.at_ (same_mts (same_new n7) (r6.mts q5.at_ (same_mts (same_new n5) (r5.mts r4.at_ hP4))))
          refine ⟨.ref M, rfl, .inl ⟨rfl, _, .inl (.inl hM8)⟩, .str ys[i], rfl, .int lv, rfl, .int lv, rfl, .int wv, rfl, _, _, rfl, rfl, small' (n := 6) (by decide), fun p9 n9 => ?_⟩
          have n9d : p9 ≠ d := q8.ne n9
          have q9 := q8.then (same_new (o := .lst [.int 0, .int 0, .int 1, .int 2, .int 7, .int 60]) n9)
          refine ⟨.ref d, rfl, d, _, rfl, q9.at_, by decide, fun HA xA rA xA0 xA1 => ?_⟩
          have hA : HA p9 = some (.lst [.int 0, .int 0, .int 1, .int 2, .int 7, .int 60]) := rA.keep _ _ n9d upd_same
          obtain ⟨ev, evm, eva⟩ := pick (xs := [0, 0, 1, 2, 7, 60]) (vs := [.int 0, .int 0, .int 1, .int 2, .int 7, .int 60]) (k := xA) rfl (by omega) (by show xA < 6; omega)
          have evB : 0 ≤ ev ∧ ev ≤ 60 := by
            simp only [List.mem_cons, List.not_mem_nil, or_false] at evm
            omega
          refine ⟨p9, _, _, _, rfl, rfl, .inl (.inl hA), eva, small' (n := 4) (by decide), fun t nt => ?_⟩
          have qA := q9.trans rA
          have hMA : HA M = some (.lst (ts.map V.ref)) := rA.keep _ _ nMd (by rw [upd_ne (ne_of_none hM8 n9)]; exact hM8)
          have hLA : HA L = some (.lst (ys.map V.str)) := rA.keep _ _ nLd (by rw [upd_ne (ne_of_none hL8 n9)]; exact hL8)
          have hPA : Paired (MtAt HA) ts ms := rA.mts q9.at_ (same_mts (same_new n9) hP8)
          have qT := qA.then (same_new (o := .tup [.str ys[i], .int lv, .int (lv + wv), .int ev]) nt)
          have nMt : M ≠ t := ne_of_none hMA nt
          have nLt : L ≠ t := ne_of_none hLA nt
          have nMfree : H M = none := r12.free hd nM
          refine ⟨M, _, _, rfl, rfl, by rw [upd_ne nMt]; exact hMA, by rw [List.length_map, htl]; exact small (by omega), ?_⟩
          have kp : Same HA (upd HA t (.tup [.str ys[i], .int lv, .int (lv + wv), .int ev])) := same_new nt
          refine ⟨_, _, _, _, ts ++ [t], ms ++ [⟨ys[i], lv, lv + wv, ev⟩], rfl, qT.keepNew nMd nMfree, ?_, ?_, ?_, ?_, ?_⟩
          · rw [upd_ne (show L ≠ M from nML.symm), upd_ne nLt]
            exact hLA
          · rw [upd_same, map_snoc]
          · have tupM : ∀ b xs, (upd HA t (.tup [.str ys[i], .int lv, .int (lv + wv), .int ev])) b = some (.tup xs) → upd (upd HA t (.tup [.str ys[i], .int lv, .int (lv + wv), .int ev])) M (.lst (ts.map V.ref ++ [V.ref t])) b = some (.tup xs) := fun b xs z => by
              have nb : b ≠ M := fun zz => by
                rw [zz, upd_ne nMt, hMA] at z
                cases z
              rw [upd_ne nb]
              exact z
            have lift : ∀ {us : List Addr} {ls : List Mt}, Paired (MtAt HA) us ls → Paired (MtAt (upd (upd HA t (.tup [.str ys[i], .int lv, .int (lv + wv), .int ev])) M (.lst (ts.map V.ref ++ [V.ref t])))) us ls := fun {us ls} z => L2.Paired.mapP z fun a b y => tupM _ _ (kp _ _ y)
            exact (lift hPA).snoc (tupM t _ upd_same)
          · rw [List.map_append, hn4, List.take_add_one, List.getElem?_eq_getElem hlt]
            rfl
          · intro m hm
            rcases List.mem_append.mp hm with z | z
            · exact ho4 m z
            · rw [List.mem_singleton.mp z]
              exact ⟨by show lv ≤ lv + wv; omega, evB.1, evB.2, lvB, by show (lv + wv).natAbs ≤ _; omega⟩
        · obtain ⟨y4, y5, y6, y7, ts, ms, rfl, r4, hL4, hM4, hP4, hn4, ho4⟩ := hp
          rw [List.length_map, List.take_length] at hn4
          refine ⟨.int c, rfl, c, rfl, _, _, rfl, rfl, small' (n := 6) (by decide), fun p5 n5 => ?_⟩
          rw [abs_eq]
          have n5d : p5 ≠ d := r4.ne n5
          have q5 := r4.then (same_new (o := .lst [.int 1, .int 2, .int 5, .int 10, .int 60, .int (1 + (c.natAbs : Int))]) n5)
          refine ⟨.ref d, rfl, d, _, rfl, q5.at_, by decide, fun H6 x6 r6 x60 x61 => ?_⟩
          have h6 : H6 p5 = some (.lst [.int 1, .int 2, .int 5, .int 10, .int 60, .int (1 + (c.natAbs : Int))]) := r6.keep _ _ n5d upd_same
          obtain ⟨lv, lvm, lva⟩ := pick (xs := [1, 2, 5, 10, 60, 1 + (c.natAbs : Int)]) (vs := [.int 1, .int 2, .int 5, .int 10, .int 60, .int (1 + (c.natAbs : Int))]) (k := x6) rfl (by omega) (by show x6 < 6; omega)
          have lvB : 1 ≤ lv ∧ lv ≤ c.natAbs + 60 := by
            simp only [List.mem_cons, List.not_mem_nil, or_false] at lvm
            omega
          refine ⟨p5, _, _, _, rfl, rfl, .inl (.inl h6), lva, ?_⟩
          have q6 := q5.trans r6
          have hM6 : H6 M = some (.lst (ts.map V.ref)) := r6.keep _ _ nMd (by rw [upd_ne (ne_of_none hM4 n5)]; exact hM4)
          have hP6 : Paired (MtAt H6) ts ms := r6.mts q5.at_ (same_mts (same_new n5) hP4)
          refine ⟨.int lv, rfl, .ref M, rfl, M, _, rfl, .inl ⟨.inl (.inl hM6), fun tm ntm => ⟨small' (n := 2) (by decide), fun p np => ?_⟩⟩⟩
          have s1 := same_new (o := .tup (ts.map V.ref)) ntm
          have s2 := same_new (o := .tup [.int lv, .ref tm]) np
          have nn : tm ≠ p := fun z => by
            rw [← z, upd_same] at np
            cases np
          refine q _ p tm ts ⟨lv, ms⟩ ((q6.then s1).then s2) ⟨upd_same, by rw [upd_ne nn, upd_same], same_mts s2 (same_mts s1 hP6)⟩ ⟨lvB.1, lvB.2, fun z => ysne ?_, ?_, ?_, ho4⟩ fun m hm => ysW _ ?_
          · have z' : ms = [] := z
            rw [z'] at hn4
            exact hn4.symm
          · have := congrArg List.length hn4
            rw [List.length_map] at this
            show ms.length ≤ 6
            omega
          · show Risen (ms.map Mt.name)
            rw [hn4]
            exact ⟨so, nd⟩
          · rw [← hn4]
            exact List.mem_map_of_mem hm)
end
theorem bits_le {x : Int} {b : Nat} (h0 : 0 < b) (h : x.natAbs < 2 ^ b) : Builtin.Int.intBits x ≤ b := by
  have l := PySem.Flt.log2_lt_of h0 h
  unfold Builtin.Int.intBits
  split <;> omega
theorem mulX {x y : Int} {a b : Nat} (ha : x.natAbs < 2 ^ a) (hb : y.natAbs < 2 ^ b) (h0 : 0 < a) (h1 : 0 < b) (h : a + b ≤ 134217728) : CMulX x y := by
  have p := bits_le h0 ha
  have q := bits_le h1 hb
  unfold CMulX
  omega
theorem div_le {t L : Int} (h : 1 ≤ L) : (t / L).natAbs ≤ t.natAbs := by
  rcases Int.lt_or_le t 0 with n | n
  · have a : t ≤ t / L := by
      have b : t / L ≥ t := by
        rw [ge_iff_le, Int.le_ediv_iff_mul_le (by omega)]
        have c : t * L ≤ t * 1 := Int.mul_le_mul_of_nonpos_left (by omega) h
        omega
      exact b
    have c : t / L < 0 := Int.ediv_neg_of_neg_of_pos n (by omega)
    omega
  · have a : t / L ≤ t := Int.ediv_le_self _ n
    have b : 0 ≤ t / L := Int.ediv_nonneg n (by omega)
    omega
def sp_l_right (K : PySem.W.Frag) : Sp := fun vs H Q _ => ∃ (p : Addr) (L t : Int) (xs : List V) (b : Nat), vs = [.ref p, .int t] ∧ H p = some (.tup (.int L :: xs)) ∧ 1 ≤ L ∧ 1 ≤ b ∧ b ≤ 30000000 ∧ L.natAbs < 2 ^ b ∧ t.natAbs < 2 ^ b ∧ Q (.bl true) H
section
variable {P : Program} {w : World} {K : PySem.W.Frag} {mg : Str → Option Value} {base : Heap}
theorem ok_l_right (T : Ctx K mg) (hN : base.NoSeer) (ht : P.given.tree = none) : FnOk P w K mg base CX0 35 T.f_l_right T.fd_l_right ["plan", "time"] (sp_l_right K) := by
  refine T.F_l_right.ok sc_l_right (fun vs H Q E h => ?_) (fun cdv A outer s H vs Q E hr h => ?_)
  · obtain ⟨p, L, t, xs, b, rfl, _⟩ := h
    rfl
  · obtain ⟨p, L, t, xs, b, rfl, hp, hL, hb0, hb, hLb, htb, q⟩ := h
    refine ⟨_, (pss_cons (ps_set (i := 2) sc_l_right.nd rfl (.inl rfl) (pe_call (ok_window_of T hN ht) (hr.mono (by decide)) (by rfl) T.g_window_of T.F_window_of.kp T.b_window_of .nil pass0 (pa_cons (pv 0) (pa_cons (pv 1) pa_nil))))
      (pss_cons (ps_if (pt_not (pt_val (pe_call (ok_l_is_integer T) (hr.mono (by decide)) (by rfl) T.g_l_is_integer T.F_l_is_integer.kp T.b_l_is_integer .nil pass0 (pa_cons (pv 2) pa_nil))))
        (pss_one (ps_ret pe_bl))
        pss_nil)
      (pss_one (ps_ret (pe_and (pe_cmpR op_le (pe_op op_mulX (pv 2) (pe_ix ix_tup (pv 0) pe_int (fun _ _ => rfl))) (pv 1) (nomark _)) (pe_one (pe_cmpR op_lt (pv 1) (pe_op op_mulX (pe_op op_add (pv 2) pe_int) (pe_ix ix_tup (pv 0) pe_int (fun _ _ => rfl))) (nomark _)))))))), ?_⟩
    have hS : SqT K H p (.int L :: xs) := .inl (.inl hp)
    have wl := div_le (t := t) hL
    have h1 : L * (t / L) + t % L = t := Int.mul_ediv_add_emod t L
    have h2 : 0 ≤ t % L := Int.emod_nonneg _ (by omega)
    have h3 : t % L < L := Int.emod_lt_of_pos _ (by omega)
    refine ⟨.ref p, rfl, .int t, rfl, p, L, t, xs, rfl, hp, hL, ?_⟩
    generalize ew : t / L = w at wl h1
    refine ⟨.int w, rfl, w, rfl, true, rfl, iteF ?_⟩
    have m1 : CMulX w L := mulX (a := b) (b := b) (by omega) hLb hb0 hb0 (by omega)
    have pb : 2 ^ (b + 1) = 2 ^ b * 2 := Nat.pow_succ 2 b
    have m2 : CMulX (w + 1) L := mulX (a := b + 1) (b := b) (by omega) hLb (by omega) hb0 (by omega)
    refine ⟨.int w, rfl, .ref p, rfl, p, _, 0, _, rfl, rfl, hS, atI_nat (j := 0) rfl, _, _, rfl, rfl, m1, .int t, rfl, _, _, rfl, rfl, _, rfl, ?_⟩
    have c1 : w * L ≤ t := by rw [Int.mul_comm]; omega
    have c2 : t < (w + 1) * L := by
      rw [Int.add_mul, Int.mul_comm w L]
      omega
    rw [decide_eq_true c1]
    refine iteT ⟨.int t, rfl, .int w, rfl, _, _, rfl, rfl, .ref p, rfl, p, _, 0, _, rfl, rfl, hS, atI_nat (j := 0) rfl, _, _, rfl, rfl, m2, _, _, rfl, rfl, ?_⟩
    show Q (.bl (decide (t < (w + 1) * L))) H
    rw [decide_eq_true c2]
    exact q
end
theorem lt_bits {z : Int} {n : Nat} (h : Builtin.Int.intBits z ≤ n) : z.natAbs < 2 ^ n := by
  by_cases e : z.natAbs = 0
  · rw [e]
    exact Nat.pow_pos (by decide)
  · have l : z.natAbs.log2 < n := by
      have ne : (z == 0) = false := beq_eq_false_iff_ne.mpr (by omega)
      unfold Builtin.Int.intBits at h
      rw [ne] at h
      have h' : z.natAbs.log2 + 1 ≤ n := h
      omega
    exact (Nat.log2_lt e).mp l
def sp_law (K : PySem.W.Frag) : Sp := fun vs H Q _ => ∃ (a : Addr) (ns : List Int) (b : Nat), vs = [.ref a] ∧ SqL K H a (ns.map V.int) ∧ ns.length ≤ 63 ∧ b ≤ 1048576 ∧ 64 ≤ b ∧ (∀ z ∈ ns, z.natAbs < 2 ^ b) ∧ ∀ H', Q (.bl true) H'
section
variable {P : Program} {w : World} {K : PySem.W.Frag} {mg : Str → Option Value} {base : Heap}
theorem ok_law (T : Ctx K mg) (hN : base.NoSeer) (ht : P.given.tree = none) : FnOk P w K mg base CX0 36 T.f_law T.fd_law ["script"] (sp_law K) := by
  refine T.F_law.ok sc_law (fun vs H Q E h => ?_) (fun cdv A outer s H vs Q E hr h => ?_)
  · obtain ⟨a, ns, b, rfl, _⟩ := h
    rfl
  · obtain ⟨a, ns, b, rfl, hS, hlen, hb1, hb0, hbits, q⟩ := h
    refine ⟨_, (pss_cons (ps_set (i := 1) sc_law.nd rfl (.inl rfl) (pe_call (ok_l_draws T) (hr.mono (by decide)) (by rfl) T.g_l_draws T.F_l_draws.kp T.b_l_draws .nil pass0 (pa_cons (pv 0) (pa_cons pe_int pa_nil))))
      (pss_cons (ps_set (i := 2) sc_law.nd rfl (.inl rfl) (pe_call (ok_l_cell T) (hr.mono (by decide)) (by rfl) T.g_l_cell T.F_l_cell.kp T.b_l_cell .nil pass0 (pa_cons (pv 0) (pa_cons (pv 1) pa_nil))))
      (pss_cons (ps_for PassesOwn.never rfl (pi_range1 (by rfl) T.m_range (pa_cons pe_int pa_nil)) (pg_name (i := 3) sc_law.nd rfl (.inl rfl))
        (pss_cons (ps_set (i := 4) sc_law.nd rfl (.inl rfl) (pe_call (ok_l_plan T) (hr.mono (by decide)) (by rfl) T.g_l_plan T.F_l_plan.kp T.b_l_plan .nil pass0 (pa_cons (pv 1) (pa_cons (pv 2) pa_nil))))
      (pss_cons (ps_set (i := 5) sc_law.nd rfl (.inl rfl) (pe_op op_mul (pe_ix ix_tup (pv 4) pe_int (fun _ _ => rfl)) (pe_op op_sub (pe_call (ok_l_take T) (hr.mono (by decide)) (by rfl) T.g_l_take T.F_l_take.kp T.b_l_take .nil pass0 (pa_cons (pv 1) (pa_cons pe_int pa_nil))) pe_int)))
      (pss_cons (ps_for PassesOwn.never rfl (pi_list (pe_lst (pa_cons (pe_op op_sub (pe_call (ok_l_take T) (hr.mono (by decide)) (by rfl) T.g_l_take T.F_l_take.kp T.b_l_take .nil pass0 (pa_cons (pv 1) (pa_cons pe_int pa_nil))) pe_int) (pa_cons (pv 2) (pa_cons (pe_un un_neg (pv 2)) (pa_cons (pv 5) (pa_cons (pe_op op_sub (pv 5) pe_int) (pa_cons (pe_op op_add (pv 5) pe_int) (pa_cons (pe_op op_mulX (pe_ix ix_tup (pv 4) pe_int (fun _ _ => rfl)) (pv 2)) (pa_cons (pe_op op_sub (pe_op op_mulX (pe_ix ix_tup (pv 4) pe_int (fun _ _ => rfl)) (pv 2)) pe_int) pa_nil)))))))))) (pg_name (i := 6) sc_law.nd rfl (.inl rfl))
        (pss_one (ps_if (pt_not (pt_val (pe_call (ok_l_right T hN ht) (hr.mono (by decide)) (by rfl) T.g_l_right T.F_l_right.kp T.b_l_right .nil pass0 (pa_cons (pv 4) (pa_cons (pv 6) pa_nil)))))
        (pss_one (ps_ret pe_bl))
        pss_nil)))
      (pss_one (ps_if (PW.pt (pw_or (pt_not (pt_val (pe_call (ok_l_right T hN ht) (hr.mono (by decide)) (by rfl) T.g_l_right T.F_l_right.kp T.b_l_right .nil pass0 (pa_cons (pe_tup (pa_cons pe_int (pa_cons (pe_ix ix_tup (pv 4) pe_int (fun _ _ => rfl)) pa_nil))) (pa_cons (pv 2) pa_nil))))) (pw_or1 (pt_not (pt_val (pe_call (ok_l_right T hN ht) (hr.mono (by decide)) (by rfl) T.g_l_right T.F_l_right.kp T.b_l_right .nil pass0 (pa_cons (pe_tup (pa_cons (pe_op op_add (pe_ix ix_tup (pv 4) pe_int (fun _ _ => rfl)) pe_int) (pa_cons (pe_ix ix_tup (pv 4) pe_int (fun _ _ => rfl)) pa_nil))) (pa_cons (pv 5) pa_nil))))))))
        (pss_one (ps_ret pe_bl))
        pss_nil))))))
      (pss_one (ps_ret pe_bl))))), ?_⟩
    refine ⟨.ref a, rfl, a, ns, 112, rfl, hS, by omega, by decide, fun H1 d s1 nd hd => ?_⟩
    refine ⟨.ref a, rfl, .ref d, rfl, a, d, ns, rfl, fun H' r => r.script hS nd s1, hd, fun H2 cell r2 hc => ?_⟩
    have hcb : cell.natAbs < 2 ^ b := by
      rcases hc with e | m
      · rw [e]
        exact Nat.pow_pos (by decide)
      · exact hbits _ m
    have p6 : 2 ^ 6 ≤ 2 ^ b := Nat.pow_le_pow_right (by decide) (by omega)
    have p1 : 2 ^ (b + 1) = 2 ^ b * 2 := Nat.pow_succ 2 b
    have p7 : 2 ^ (b + 7) = 2 ^ b * 2 ^ 7 := Nat.pow_add 2 b 7
    have pB : 2 ^ (b + 7) ≤ 2 ^ (2 * b + 8) := Nat.pow_le_pow_right (by decide) (by omega)
    have pC : 2 ^ (2 * b + 1) * 2 ≤ 2 ^ (2 * b + 8) := by
      rw [← Nat.pow_succ 2 (2 * b + 1)]
      exact Nat.pow_le_pow_right (by decide) (by omega)
    refine ⟨2, rfl, by decide, by decide, for_range (lo := 0) (n := 2) (fun i σ H3 => ∃ y3 y4 y5 y6 : Option V, σ = [some (.ref a), some (.ref d), some (.int cell), y3, y4, y5, y6] ∧ DrA H3 d) ⟨none, none, none, none, rfl, r2.at_⟩ (fun i σ H3 hi hp => ?_) (fun σ H3 hp => ?_)⟩
    · obtain ⟨y3, y4, y5, y6, rfl, hd3⟩ := hp
      refine ⟨.ref d, rfl, .int cell, rfl, d, cell, rfl, hd3, fun H4 p tm ts P r4 pa po iw => ?_⟩
      have hL0 := po.len
      have hLB := po.lenB
      generalize eL : P.len = L at hL0 hLB
      have top : H4 p = some (.tup [.int L, .ref tm]) := by rw [← eL]; exact pa.top
      have hLb : L.natAbs < 2 ^ (b + 1) := by omega
      refine ⟨.ref p, rfl, p, _, 0, _, rfl, rfl, .inl (.inl top), atI_nat (j := 0) rfl, .ref d, rfl, d, _, rfl, r4.at_, by decide, fun H5 x r5 x0 x1 => ⟨_, _, rfl, rfl, _, _, rfl, rfl, .inr ⟨by omega, by omega⟩, ?_⟩⟩
      have top5 : H5 p = some (.tup [.int L, .ref tm]) := r5.tup r4.at_ top
      have hE : (L * (x - 20)).natAbs < 2 ^ (b + 7) - 2 := by
        rw [Int.natAbs_mul]
        have u : (x - 20).natAbs ≤ 20 := by omega
        have v : L.natAbs * (x - 20).natAbs ≤ L.natAbs * 20 := Nat.mul_le_mul_left _ u
        omega
      dsimp only
      generalize eE : L * (x - 20) = edge at hE
      have hM : (L * cell).natAbs < 2 ^ (2 * b + 1) := by
        have z := wide_lt hLb hcb
        have e : b + 1 + b = 2 * b + 1 := by omega
        rw [e] at z
        exact z
      have mC : CMulX L cell := mulX hLb hcb (by omega) (by omega) (by omega)
      -- the times
      refine ⟨.ref d, rfl, d, _, rfl, r5.at_, by decide, fun H6 u r6 u0 u1 => ?_⟩
      have top6 : H6 p = some (.tup [.int L, .ref tm]) := r6.tup r5.at_ top5
      have hS6 : SqT K H6 p [.int L, .ref tm] := .inl (.inl top6)
      refine ⟨_, _, rfl, rfl, .int cell, rfl, .int cell, rfl, _, rfl, .int edge, rfl, .int edge, rfl, _, _, rfl, rfl, .int edge, rfl, _, _, rfl, rfl, .ref p, rfl, p, _, 0, _, rfl, rfl, hS6, atI_nat (j := 0) rfl, .int cell, rfl, _, _, rfl, rfl, mC, .ref p, rfl, p, _, 0, _, rfl, rfl, hS6, atI_nat (j := 0) rfl, .int cell, rfl, _, _, rfl, rfl, mC, _, _, rfl, rfl, small' (n := 8) (by decide), fun T nT => ?_⟩
      have topT : ∀ o, upd H6 T o p = some (.tup [.int L, .ref tm]) := fun o => by rw [upd_ne (ne_of_none top6 nT)]; exact top6
      have ndT : T ≠ d := r6.ne nT
      refine ⟨T, rfl, ⟨_, .inl (.inl upd_same)⟩, for_list (K := K) (a := T) (xs := [u - 100, cell, -cell, edge, edge - 1, edge + 1, L * cell, L * cell - 1].map V.int)
        (fun j σ H7 => ∃ y6 : Option V, σ = [some (.ref a), some (.ref d), some (.int cell), some (.int (0 + (i : Int))), some (.ref p), some (.int edge), y6] ∧ H7 = upd H6 T (.lst ([u - 100, cell, -cell, edge, edge - 1, edge + 1, L * cell, L * cell - 1].map V.int))) ⟨_, rfl, rfl⟩
        (fun j σ H7 _ hp => ?_) (fun j v σ H7 hv hp => ?_) (fun σ H7 hp => ?_)⟩
      · obtain ⟨_, _, rfl⟩ := hp
        exact .inl (.inl upd_same)
      · obtain ⟨y6, rfl, rfl⟩ := hp
        obtain ⟨t, tm', rfl⟩ := List.mem_map.mp (List.mem_of_getElem? hv)
        have tb : t.natAbs < 2 ^ (2 * b + 8) := by
          simp only [List.mem_cons, List.not_mem_nil, or_false] at tm'
          omega
        refine ⟨.ref p, rfl, .int t, rfl, p, L, t, _, 2 * b + 8, rfl, topT _, hL0, by omega, by omega, by omega, tb, true, rfl, iteF ⟨_, rfl, rfl⟩⟩
      · obtain ⟨y6, rfl, rfl⟩ := hp
        have hST : SqT K (upd H6 T (.lst ([u - 100, cell, -cell, edge, edge - 1, edge + 1, L * cell, L * cell - 1].map V.int))) p [.int L, .ref tm] := .inl (.inl (topT _))
        refine ⟨.ref p, rfl, p, _, 1, _, rfl, rfl, hST, atI_nat (j := 1) rfl, small' (n := 2) (by decide), fun t1 n1 => ⟨.int cell, rfl, t1, 1, cell, _, 2 * b + 8, rfl, upd_same, by decide, by omega, by omega, ?_, by omega, true, rfl, iteF ?_⟩⟩
        · have : 0 < 2 ^ b := Nat.pow_pos (by decide)
          show (1 : Nat) < _
          omega
        · have top1 : upd (upd H6 T (.lst ([u - 100, cell, -cell, edge, edge - 1, edge + 1, L * cell, L * cell - 1].map V.int))) t1 (.tup [.int 1, .ref tm]) p = some (.tup [.int L, .ref tm]) := by rw [upd_ne (ne_of_none (topT _) n1)]; exact topT _
          have hS1 : SqT K (upd (upd H6 T (.lst ([u - 100, cell, -cell, edge, edge - 1, edge + 1, L * cell, L * cell - 1].map V.int))) t1 (.tup [.int 1, .ref tm])) p [.int L, .ref tm] := .inl (.inl top1)
          refine ⟨.ref p, rfl, p, _, 0, _, rfl, rfl, hS1, atI_nat (j := 0) rfl, _, _, rfl, rfl, .ref p, rfl, p, _, 1, _, rfl, rfl, hS1, atI_nat (j := 1) rfl, small' (n := 2) (by decide), fun t2 n2 => ⟨.int edge, rfl, t2, L + 1, edge, _, 2 * b + 8, rfl, upd_same, by omega, by omega, by omega, by omega, by omega, true, rfl, iteF ?_⟩⟩
          exact ⟨_, _, _, _, rfl, (((r6.then (same_new nT)).then (same_new n1)).then (same_new n2)).at_⟩
    · obtain ⟨y3, y4, y5, y6, rfl, hd3⟩ := hp
      exact q _
end
theorem all_mk {l : PySem.W.OpenLaw} {w : World} {K : PySem.W.Frag} {h : Heap} {mg : Str → Option Value} {fa : Addr} (X : K.In h) (G : h.Ns mainGlobals mg) (hfa : mg "law" = some (.ref fa)) (hgt : l.prog.given.tree = none)
    {f1 : Addr} {od1 an1 : Option Addr} {sl1 : Array (Option Value)} {oc1 kV1 dc1 pm1 cd1 ct1 : Value}
    {f2 : Addr} {od2 an2 : Option Addr} {sl2 : Array (Option Value)} {oc2 kV2 dc2 pm2 cd2 ct2 : Value}
    {f3 : Addr} {od3 an3 : Option Addr} {sl3 : Array (Option Value)} {oc3 kV3 dc3 pm3 cd3 ct3 : Value}
    {f4 : Addr} {od4 an4 : Option Addr} {sl4 : Array (Option Value)} {oc4 kV4 dc4 pm4 cd4 ct4 : Value}
    {f5 : Addr} {od5 an5 : Option Addr} {sl5 : Array (Option Value)} {oc5 kV5 dc5 pm5 cd5 ct5 : Value}
    {f6 : Addr} {od6 an6 : Option Addr} {sl6 : Array (Option Value)} {oc6 kV6 dc6 pm6 cd6 ct6 : Value}
    {f7 : Addr} {od7 an7 : Option Addr} {sl7 : Array (Option Value)} {oc7 kV7 dc7 pm7 cd7 ct7 : Value}
    {f8 : Addr} {od8 an8 : Option Addr} {sl8 : Array (Option Value)} {oc8 kV8 dc8 pm8 cd8 ct8 : Value}
    {f9 : Addr} {od9 an9 : Option Addr} {sl9 : Array (Option Value)} {oc9 kV9 dc9 pm9 cd9 ct9 : Value}
    {f10 : Addr} {od10 an10 : Option Addr} {sl10 : Array (Option Value)} {oc10 kV10 dc10 pm10 cd10 ct10 : Value}
    (a1 : PySem.W.nsIn K mainGlobals "window_of" = some (some (.ref f1))) (l1 : K.lookup f1 = some ⟨oc1, od1, .func (PySem.W.fnOf "window_of" "window_of" (defArgs s_window_of) (defBody s_window_of) (defScope s_window_of) .none kV1 dc1 pm1 an1 cd1 ct1), sl1⟩) (c1 : PySem.W.codeIn K cd1 "window_of" = true) (k1 : PySem.W.keepIn K (.ref f1) = true)
    (a2 : PySem.W.nsIn K mainGlobals "_law_draws" = some (some (.ref f2))) (l2 : K.lookup f2 = some ⟨oc2, od2, .func (PySem.W.fnOf "_law_draws" "_law_draws" (defArgs s_l_draws) (defBody s_l_draws) (defScope s_l_draws) .none kV2 dc2 pm2 an2 cd2 ct2), sl2⟩) (c2 : PySem.W.codeIn K cd2 "_law_draws" = true) (k2 : PySem.W.keepIn K (.ref f2) = true)
    (a3 : PySem.W.nsIn K mainGlobals "_law_take" = some (some (.ref f3))) (l3 : K.lookup f3 = some ⟨oc3, od3, .func (PySem.W.fnOf "_law_take" "_law_take" (defArgs s_l_take) (defBody s_l_take) (defScope s_l_take) .none kV3 dc3 pm3 an3 cd3 ct3), sl3⟩) (c3 : PySem.W.codeIn K cd3 "_law_take" = true) (k3 : PySem.W.keepIn K (.ref f3) = true)
    (a4 : PySem.W.nsIn K mainGlobals "_law_cell" = some (some (.ref f4))) (l4 : K.lookup f4 = some ⟨oc4, od4, .func (PySem.W.fnOf "_law_cell" "_law_cell" (defArgs s_l_cell) (defBody s_l_cell) (defScope s_l_cell) .none kV4 dc4 pm4 an4 cd4 ct4), sl4⟩) (c4 : PySem.W.codeIn K cd4 "_law_cell" = true) (k4 : PySem.W.keepIn K (.ref f4) = true)
    (a5 : PySem.W.nsIn K mainGlobals "_law_word" = some (some (.ref f5))) (l5 : K.lookup f5 = some ⟨oc5, od5, .func (PySem.W.fnOf "_law_word" "_law_word" (defArgs s_l_word) (defBody s_l_word) (defScope s_l_word) .none kV5 dc5 pm5 an5 cd5 ct5), sl5⟩) (c5 : PySem.W.codeIn K cd5 "_law_word" = true) (k5 : PySem.W.keepIn K (.ref f5) = true)
    (a6 : PySem.W.nsIn K mainGlobals "_law_some_word" = some (some (.ref f6))) (l6 : K.lookup f6 = some ⟨oc6, od6, .func (PySem.W.fnOf "_law_some_word" "_law_some_word" (defArgs s_l_some_word) (defBody s_l_some_word) (defScope s_l_some_word) .none kV6 dc6 pm6 an6 cd6 ct6), sl6⟩) (c6 : PySem.W.codeIn K cd6 "_law_some_word" = true) (k6 : PySem.W.keepIn K (.ref f6) = true)
    (a7 : PySem.W.nsIn K mainGlobals "_law_is_integer" = some (some (.ref f7))) (l7 : K.lookup f7 = some ⟨oc7, od7, .func (PySem.W.fnOf "_law_is_integer" "_law_is_integer" (defArgs s_l_is_integer) (defBody s_l_is_integer) (defScope s_l_is_integer) .none kV7 dc7 pm7 an7 cd7 ct7), sl7⟩) (c7 : PySem.W.codeIn K cd7 "_law_is_integer" = true) (k7 : PySem.W.keepIn K (.ref f7) = true)
    (a8 : PySem.W.nsIn K mainGlobals "_law_plan" = some (some (.ref f8))) (l8 : K.lookup f8 = some ⟨oc8, od8, .func (PySem.W.fnOf "_law_plan" "_law_plan" (defArgs s_l_plan) (defBody s_l_plan) (defScope s_l_plan) .none kV8 dc8 pm8 an8 cd8 ct8), sl8⟩) (c8 : PySem.W.codeIn K cd8 "_law_plan" = true) (k8 : PySem.W.keepIn K (.ref f8) = true)
    (a9 : PySem.W.nsIn K mainGlobals "_law_right" = some (some (.ref f9))) (l9 : K.lookup f9 = some ⟨oc9, od9, .func (PySem.W.fnOf "_law_right" "_law_right" (defArgs s_l_right) (defBody s_l_right) (defScope s_l_right) .none kV9 dc9 pm9 an9 cd9 ct9), sl9⟩) (c9 : PySem.W.codeIn K cd9 "_law_right" = true) (k9 : PySem.W.keepIn K (.ref f9) = true)
    (a10 : PySem.W.nsIn K mainGlobals "law" = some (some (.ref f10))) (l10 : K.lookup f10 = some ⟨oc10, od10, .func (PySem.W.fnOf "law" "law" (defArgs s_law) (defBody s_law) (defScope s_law) .none kV10 dc10 pm10 an10 cd10 ct10), sl10⟩) (c10 : PySem.W.codeIn K cd10 "law" = true) (k10 : PySem.W.keepIn K (.ref f10) = true)
    (z11 : PySem.W.nsIn K mainGlobals "abs" = some none)
    (z12 : PySem.W.nsIn K mainGlobals "bool" = some none)
    (z13 : PySem.W.nsIn K mainGlobals "int" = some none)
    (z14 : PySem.W.nsIn K mainGlobals "isinstance" = some none)
    (z15 : PySem.W.nsIn K mainGlobals "len" = some none)
    (z16 : PySem.W.nsIn K mainGlobals "list" = some none)
    (z17 : PySem.W.nsIn K mainGlobals "range" = some none)
    (z18 : PySem.W.nsIn K mainGlobals "set" = some none)
    (z19 : PySem.W.nsIn K mainGlobals "sorted" = some none)
    (z20 : PySem.W.nsIn K mainGlobals "tuple" = some none) :
    ∃ fd : FuncData, (∀ (s : Shared) (v : Value), BindsTo s fd ⟨[v], []⟩ [("script", v)]) ∧ ∀ base : Heap, K.In base → base.Ns mainGlobals mg → base.NoSeer →  FnOk l.prog w K mg base CX0 36 fa fd ["script"] (sp_law K) := by
  have e := hfa.symm.trans (PySem.W.mg_of X G a10)
  cases e
  have F1 := fun_mk (st := s_window_of) l1 c1 k1
  have B1 := F1.binds (ps := ["plan", "time"]) (fun _ _ _ _ _ _ us hl => match us, hl with | [_, _], _ => rfl)
  have F2 := fun_mk (st := s_l_draws) l2 c2 k2
  have B2 := F2.binds (ps := ["script", "many"]) (fun _ _ _ _ _ _ us hl => match us, hl with | [_, _], _ => rfl)
  have F3 := fun_mk (st := s_l_take) l3 c3 k3
  have B3 := F3.binds (ps := ["draws", "many"]) (fun _ _ _ _ _ _ us hl => match us, hl with | [_, _], _ => rfl)
  have F4 := fun_mk (st := s_l_cell) l4 c4 k4
  have B4 := F4.binds (ps := ["script", "draws"]) (fun _ _ _ _ _ _ us hl => match us, hl with | [_, _], _ => rfl)
  have F5 := fun_mk (st := s_l_word) l5 c5 k5
  have B5 := F5.binds (ps := ["number"]) (fun _ _ _ _ _ _ us hl => match us, hl with | [_], _ => rfl)
  have F6 := fun_mk (st := s_l_some_word) l6 c6 k6
  have B6 := F6.binds (ps := ["draws"]) (fun _ _ _ _ _ _ us hl => match us, hl with | [_], _ => rfl)
  have F7 := fun_mk (st := s_l_is_integer) l7 c7 k7
  have B7 := F7.binds (ps := ["value"]) (fun _ _ _ _ _ _ us hl => match us, hl with | [_], _ => rfl)
  have F8 := fun_mk (st := s_l_plan) l8 c8 k8
  have B8 := F8.binds (ps := ["draws", "cell"]) (fun _ _ _ _ _ _ us hl => match us, hl with | [_, _], _ => rfl)
  have F9 := fun_mk (st := s_l_right) l9 c9 k9
  have B9 := F9.binds (ps := ["plan", "time"]) (fun _ _ _ _ _ _ us hl => match us, hl with | [_, _], _ => rfl)
  have F10 := fun_mk (st := s_law) l10 c10 k10
  have B10 := F10.binds (ps := ["script"]) (fun _ _ _ _ _ _ us hl => match us, hl with | [_], _ => rfl)
  let T : Ctx K mg := { f_window_of := f1, fd_window_of := _, F_window_of := F1, b_window_of := B1, g_window_of := PySem.W.mg_of X G a1, f_l_draws := f2, fd_l_draws := _, F_l_draws := F2, b_l_draws := B2, g_l_draws := PySem.W.mg_of X G a2, f_l_take := f3, fd_l_take := _, F_l_take := F3, b_l_take := B3, g_l_take := PySem.W.mg_of X G a3, f_l_cell := f4, fd_l_cell := _, F_l_cell := F4, b_l_cell := B4, g_l_cell := PySem.W.mg_of X G a4, f_l_word := f5, fd_l_word := _, F_l_word := F5, b_l_word := B5, g_l_word := PySem.W.mg_of X G a5, f_l_some_word := f6, fd_l_some_word := _, F_l_some_word := F6, b_l_some_word := B6, g_l_some_word := PySem.W.mg_of X G a6, f_l_is_integer := f7, fd_l_is_integer := _, F_l_is_integer := F7, b_l_is_integer := B7, g_l_is_integer := PySem.W.mg_of X G a7, f_l_plan := f8, fd_l_plan := _, F_l_plan := F8, b_l_plan := B8, g_l_plan := PySem.W.mg_of X G a8, f_l_right := f9, fd_l_right := _, F_l_right := F9, b_l_right := B9, g_l_right := PySem.W.mg_of X G a9, f_law := fa, fd_law := _, F_law := F10, b_law := B10, g_law := PySem.W.mg_of X G a10, m_abs := PySem.W.mg_none_of X G z11, m_bool := PySem.W.mg_none_of X G z12, m_int := PySem.W.mg_none_of X G z13, m_isinstance := PySem.W.mg_none_of X G z14, m_len := PySem.W.mg_none_of X G z15, m_list := PySem.W.mg_none_of X G z16, m_range := PySem.W.mg_none_of X G z17, m_set := PySem.W.mg_none_of X G z18, m_sorted := PySem.W.mg_none_of X G z19, m_tuple := PySem.W.mg_none_of X G z20 }
  exact ⟨PySem.W.fnOf "law" "law" (defArgs s_law) (defBody s_law) (defScope s_law) .none kV10 dc10 pm10 an10 cd10 ct10, fun s v => .of_eq rfl, fun base _ _ hN => ok_law T hN hgt⟩
end Tw
open PySem PySem.W PyProof.Rows
set_option maxHeartbeats 0 in
theorem PySem.Challenge.cw_toldwhensure_k03_windows_of_times_holds : PySem.Challenge.rw_toldwhensure_k03_windows_of_times.Holds := by
  w_on; o_law; k_head; (case hw => w_witness2)
  k_fill
  refine Big.walk (l := PySem.Challenge.rw_toldwhensure_k03_windows_of_times) (n := 63) (k := 36) (x := "script") (CX := fun _ => L2.CX0) (sp := fun w => Tw.sp_law _) rfl (by decide) rfl ⟨rfl, by decide, by decide⟩ (by decide +kernel) (fun w h Y => PySem.W.kIn_of Y) ?F
    (fun _ _ a ns hl hb _ hS => ⟨a, ns, 1048576, rfl, hS, hl, Nat.le_refl _, by decide, fun z hz => Tw.lt_bits (hb z hz), fun _ => rfl⟩) (fun _ _ _ _ _ h => h)
  case F =>
    intro w mg fa h KX G hmg
    refine' Tw.all_mk KX G hmg (by rfl) ?a1 ?l1 ?c1 ?k1 ?a2 ?l2 ?c2 ?k2 ?a3 ?l3 ?c3 ?k3 ?a4 ?l4 ?c4 ?k4 ?a5 ?l5 ?c5 ?k5 ?a6 ?l6 ?c6 ?k6 ?a7 ?l7 ?c7 ?k7 ?a8 ?l8 ?c8 ?k8 ?a9 ?l9 ?c9 ?k9 ?a10 ?l10 ?c10 ?k10 ?z11 ?z12 ?z13 ?z14 ?z15 ?z16 ?z17 ?z18 ?z19 ?z20
    (case a1 => k_is); (case l1 => k_is); (case c1 => k_is); (case k1 => k_is); (case a2 => k_is); (case l2 => k_is); (case c2 => k_is); (case k2 => k_is); (case a3 => k_is); (case l3 => k_is); (case c3 => k_is); (case k3 => k_is); (case a4 => k_is); (case l4 => k_is); (case c4 => k_is); (case k4 => k_is); (case a5 => k_is); (case l5 => k_is); (case c5 => k_is); (case k5 => k_is); (case a6 => k_is); (case l6 => k_is); (case c6 => k_is); (case k6 => k_is); (case a7 => k_is); (case l7 => k_is); (case c7 => k_is); (case k7 => k_is); (case a8 => k_is); (case l8 => k_is); (case c8 => k_is); (case k8 => k_is); (case a9 => k_is); (case l9 => k_is); (case c9 => k_is); (case k9 => k_is); (case a10 => k_is); (case l10 => k_is); (case c10 => k_is); (case k10 => k_is); (case z11 => k_is); (case z12 => k_is); (case z13 => k_is); (case z14 => k_is); (case z15 => k_is); (case z16 => k_is); (case z17 => k_is); (case z18 => k_is); (case z19 => k_is); (case z20 => k_is)
