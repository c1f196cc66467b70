import PyProof.Rows.All
import Wide.All
import OpenK.AllK
import Wide.FinOn
import PyProof.Rows.ReprOcc
import HandS.ForMost
import HandS.Wide
import HandS.WideBits
import HandS.TupAny
import HandS.IsInst
import HandS.SetFor
import HandS.SetTxt0
import HandS.Strs
import HandS.More
import HandS.EndBits
import HandS.Zip
import HandS.FStr
import HandS.Walk
import HandS.TryOnly
import HandS.Star
import HandS.TupLe
import HandS.Style
import HandS.Comp
import PySem.Challenge.RW_toldwhensure_k13_bags_and_histories
set_option Elab.async false
set_option linter.all false
set_option maxRecDepth 100000
/-! sets of texts: set(list of texts), sorted(such a set). The members are told as a list without duplicates. -/
namespace Tset
open PySem PySem.Spec PyProof.Rows L2 PySem.Froz
/-- the payload D has the texts l, can be walked and can be read in order -/
structure Pay (P : Program) (w : World) (D : SD) (l : List Str) : Prop where
  tx : TxOk P w D l
  ris : Ris D.2.2.place.toList
  led : w.params.followText "set-order" = true ∨ D.2.2.led = true
  nd : l.Nodup
def Holds (P : Program) (w : World) (h : Heap) (a : Addr) (l : List Str) : Prop := ∃ D : SD, h.get? a = some (sObj "set" D) ∧ Pay P w D l
section
variable {P : Program} {w : World} {A : Around} {E : Value → Shared → Prop} {s : Shared}
theorem Holds.kept {h h' : Heap} {a : Addr} {l : List Str} (x : Holds P w h a l) (k : ∀ o, h.get? a = some o → h'.get? a = some o) : Holds P w h' a l :=
  let ⟨D, e, r⟩ := x
  ⟨D, k _ e, r⟩
theorem Pay.tail {es : Array (Int × Value)} {t : SetTable} {l : List Str} (ep : Nat) (dm : Bool) (tx : TxOk P w (tailTx ep es t dm) l) (nd : l.Nodup) (r : Ris t.place.toList) (g : w.params.followText "set-order" = true ∨ t.led = true) :
    Pay P w (tailTx ep es t dm) l := by
  refine ⟨tx, ?_, ?_, nd⟩ <;> unfold tailTx <;> split
  · exact relayAll_ris _ _ _
  · exact r
  · rcases g with g | g
    · exact .inl g
    · exact .inr ((relayAll_led _ _ _).trans g)
  · exact g
theorem Pay.add {D : SD} {l : List Str} {k : Str} (u : Tok) (x : Pay P w D l) (hk : k ∉ l) : Pay P w (addTx (hashStr w k) (.str k u) D) (k :: l) := by
  have tx := add_ok (k := k) u x.tx
  unfold addTx at tx ⊢
  have r1 := layNew_ris D.2.2 D.1 (hashStr w k) (.str k u) x.ris
  have l1 := layNew_led D.2.2 D.1 (hashStr w k) (.str k u)
  refine Pay.tail _ _ tx (List.nodup_cons.mpr ⟨hk, x.nd⟩) ?_ ?_
  · split <;> exact r1
  · rcases x.led with g | g
    · exact .inl g
    · right
      split
      · exact l1.trans g
      · exact l1.trans g
/-- a text that is there already is not added -/
theorem add_there {a : Addr} {D : SD} {l : List Str} {k : Str} {u : Tok} {Q : Bool → Shared → Prop} (ho : s.heap.get? a = some (sObj "set" D)) (x : TxOk P w D l) (hk : k ∈ l) (hb : l.length < scanBound) (q : Q false s) :
    wpAny (model P w) A (setAddHashed a (.str k u) (hashStr w k)) Q E s := by
  obtain ⟨es, ep, t⟩ := D
  have hy : (strKind P w).is k (.str k u) = true := is_str k u
  have hsz : es.size = l.length := x.sz
  have fits : t.fits es.size = true := x.fit
  have elems : ElemsOf (strKind P w) es.toList := x.el
  have few : es.size < scanBound := by rw [hsz]; exact hb
  obtain ⟨e, he, hz⟩ := (x.mem k).mp hk
  unfold setAddHashed setAddHashedIn
  refine wpAny_holding (wpAny_bind (wpAny_setState_of ho rfl fits ?_))
  dsimp only
  rw [byScan_of rfl few elems]
  simp only [↓reduceIte]
  unfold setAddByScan
  refine wpAny_bind (wpAny_bind (wpAny_rule ?_))
  refine wpAny_bind (wpAny_setScan_of (knd := strKind P w) (k := k) hy ho rfl fits elems ?_)
  cases hf : List.findIdx? (fun e => (strKind P w).is k e.2) es.toList with
  | some j => exact wpAny_pure (wpAny_pure q)
  | none =>
    have no := List.findIdx?_eq_none_iff.mp hf e he
    rw [hz] at no
    cases no
/-- one text more: it is there behind it -/
theorem add_one {a : Addr} {l : List Str} {k : Str} {u : Tok} {Q : Bool → Shared → Prop} (x : Holds P w s.heap a l) (hb : l.length + 1 < scanBound)
    (q : ∀ b h' l', Heap.SameBut a s.heap h' → Holds P w h' a l' → (∀ z, z ∈ l' ↔ z = k ∨ z ∈ l) → l'.length ≤ l.length + 1 → Q b { s with heap := h' }) :
    wpAny (model P w) A (setAddHashed a (.str k u) (hashStr w k)) Q E s := by
  obtain ⟨D, ho, p⟩ := x
  by_cases hk : k ∈ l
  · exact add_there ho p.tx hk (by omega) (q false s.heap l (Heap.SameBut.refl a s.heap) ⟨D, ho, p⟩ (fun z => ⟨.inr, fun h => h.elim (fun e => e ▸ hk) id⟩) (by omega))
  · refine add_x ho p.tx hk hb (q true _ (k :: l) (Heap.SameBut.update s.heap a _) ⟨_, get_upd _ ho rfl, p.add u hk⟩ (fun z => List.mem_cons) (by simp))
/-- the fresh set -/
theorem fresh {h : Heap} {a : Addr} (ho : h.get? a = some { cls := .type "set", dict := none, data := .set #[] 0 (.fresh 0 0 (!w.params.followText "set-order")) }) : Holds P w h a [] := by
  refine ⟨(#[], 0, .fresh 0 0 (!w.params.followText "set-order")), ho, TxOk.nil rfl, List.Pairwise.nil, ?_, List.nodup_nil⟩
  show _ ∨ (!w.params.followText "set-order") = true
  cases w.params.followText "set-order"
  · exact .inr rfl
  · exact .inl rfl
/-- the loop that puts the items in -/
theorem fill {I S : Addr} {fp wr : List Addr} {G : Array GenState → Array GenState → Prop} {n : Nat} {Pv : Nat → Value → Prop} {Sx : Nat → Shared → Prop} {R : Result → Shared → Prop} (W : WalksS P w A.in1 I fp wr G n Pv Sx)
    (nS : S ∉ fp) (ks : List Str) (hn : n = ks.length) (hb : ks.length + 1 < scanBound) (val : ∀ i v, Pv i v → ∃ k t, ks[i]? = some k ∧ v = .str k t) :
    ∀ (left i : Nat) (s : Shared), n - i = left → i ≤ n → Sx i s → (∃ l, Holds P w s.heap S l ∧ (∀ z, z ∈ l ↔ z ∈ ks.take i) ∧ l.length ≤ i) →
      (∀ s' l, Moved (S :: wr) G s s' → Holds P w s'.heap S l → (∀ z, z ∈ l ↔ z ∈ ks) → l.length ≤ n → R (.ok (.ret .none)) s') → codeAny (model P w) A (.builtin "set.update.loop" ⟨[.ref S, .ref I], []⟩) R s := by
  have nSw : S ∉ wr := fun z => nS (W.sub _ z)
  have up : ∀ b ∈ wr, b ∈ S :: wr := fun b z => List.mem_cons_of_mem _ z
  intro left
  induction left with
  | zero =>
    intro i s e hi st ⟨l, hl, hm, hll⟩ hR
    obtain rfl : i = n := by omega
    refine codeAny_builtin F.entry_set_update_loop ?_
    rw [Around.under_plainId F.plain_set_update_loop _]
    refine wpAny_bind (m := pyNext (.ref I)) (W.done s _ _ st fun s' mv => ?_)
    rw [List.take_of_length_le (by omega)] at hm
    exact wpAny_pure (hR s' l (mv.mono up) (hl.kept fun o z => mv.heap S o nSw z) hm hll)
  | succ left ih =>
    intro i s e hi st ⟨l, hl, hm, hll⟩ hR
    have lt : i < n := by omega
    refine codeAny_builtin F.entry_set_update_loop ?_
    rw [Around.under_plainId F.plain_set_update_loop _]
    refine wpAny_bind (m := pyNext (.ref I)) (W.item i s _ _ lt st fun v s1 hv st1 mv => ?_)
    obtain ⟨k, t, hk, rfl⟩ := val i v hv
    refine wpAny_bind (m := holding [Value.str k t] (setAdd S (.str k t))) (wpAny_holding ?_)
    unfold setAdd
    refine wpAny_holding (wpAny_bind ((strKind P w).pyHash (is_str k t) ?_))
    refine add_one (s := { s1 with toks := s1.toks + 1 }) (l := l) (hl.kept fun o z => mv.heap S o nSw z) (by omega) fun b h2 l2 sb hl2 hm2 hll2 => ?_
    refine wpAny_pure ⟨plainId_quiet F.plain_set_update_loop _, ih (i + 1) _ (by omega) lt (W.frame _ s1 _ _ st1 (Nat.le_succ _) fun b hb o z => ?_) ⟨l2, hl2, fun z => ?_, by omega⟩ fun s3 l3 mv3 hl3 hm3 hll3 => ?_⟩
    · rw [sb.2 b fun x => nS (x ▸ hb)]
      exact z
    · rw [hm2, hm, List.take_add_one, hk]
      simp only [Option.toList_some, List.mem_append, List.mem_singleton]
      exact Or.comm
    · refine hR s3 l3 (Moved.trans W.gtrans ((mv.mono up).then_heap (Nat.le_succ _) fun b o hb z => ?_) mv3) hl3 hm3 hll3
      rw [sb.2 b fun x => hb (x ▸ List.mem_cons_self)]
      exact z
theorem at_text : ∀ {us : List Value} {ks : List Str}, StrsAre us ks → ∀ (i : Nat) (v : Value), us[i]? = some v → ∃ k t, ks[i]? = some k ∧ v = .str k t
  | _, _, .nil, i, v, h => by simp at h
  | _, _, .cons k t r, 0, v, h => ⟨k, t, rfl, (Option.some.inj h).symm⟩
  | _, _, .cons k t r, i + 1, v, h => at_text r i v h
set_option maxHeartbeats 3200000 in
theorem made {l : Addr} {items : Array Value} (ks : List Str) {Q : Value → Shared → Prop} (hh : A.handled = none) (hl : s.heap.IsList l items) (hit : StrsAre items.toList ks) (hb : ks.length + 1 < scanBound)
    (q : ∀ (h' : Heap) (tk : Nat) (ls : List Str), Holds P w h' s.heap.objs.size ls → (∀ z, z ∈ ls ↔ z ∈ ks) → ls.length ≤ ks.length → (∀ b o, s.heap.get? b = some o → h'.get? b = some o) → Q (.ref s.heap.objs.size) { s with heap := h', toks := tk }) :
    wpAny (model P w) A (call (.type "set") [.ref l]) Q E s := by
  have sz : items.size = ks.length := by rw [← Array.length_toList]; exact StrsAre.length hit
  obtain ⟨_, _, hmro⟩ := F.called_set.mro
  have hmade := F.called_set.made
  have hsub := F.called_set.sub
  have h1 := F.called_set.notType
  have h2 := F.called_set.canCreate
  have h3 := F.typeCall_set_1 (.ref l)
  refine wpAny_call (codeAny_of_tree ?_)
  show wpAny _ _ (callAny (.type "set") _) _ _ _
  refine wpAny_pure ⟨Code.quiet_builtin _ (by decide +kernel), codeAny_builtin F.entry_type_call ?_⟩
  rw [Around.under_plain (weight_type_call_type "set" [.ref l] []) rfl]
  repeat (any_goals (first | assumption | wp_step))
  generalize eo : ({ cls := .type "set", dict := none, data := .set #[] 0 (.fresh 0 0 (!w.params.followText "set-order")) } : Obj) = ob
  refine codeAny_mono (code_set_led1 (.ref l) (E := E) (Q₁ := fun r s' => r = .ref s.heap.objs.size ∧ s' = { s with heap := s.heap.push ob }) (by subst eo; exact ⟨rfl, rfl⟩)) fun r s' hr => ?_
  rcases r with e | fl
  · exact hr
  cases fl with
  | ret r =>
    obtain ⟨rfl, rfl⟩ := hr
    have at0 : (s.heap.push ob).get? s.heap.objs.size = some ob := Heap.get?_push_size _ (by subst eo; rfl)
    have ty0 : Shared.TypeIs { s with heap := s.heap.push ob } (.ref s.heap.objs.size) "set" := ⟨ob, at0, by subst eo; rfl⟩
    have hli := F.called_set.init.lookup
    have hbi := F.called_set.init.bind (.ref s.heap.objs.size)
    repeat (any_goals (first | assumption | wp_step))
    refine codeAny_mono (codeAny_call_builtin (R := wants (fun r s2 => r = .none ∧ ∃ h' tk ls, s2 = { s with heap := h', toks := tk } ∧ Holds P w h' s.heap.objs.size ls ∧ (∀ z, z ∈ ls ↔ z ∈ ks) ∧ ls.length ≤ ks.length ∧ (∀ b o, s.heap.get? b = some o → h'.get? b = some o)) E)
      F.called_set.init.plain F.entry_set_init (check_set_init_1 ty0 ?_)) fun r s2 hr => ?_
    · obtain ⟨⟨oc, od, oD, os⟩, hol, hc, nl, hd⟩ := hl
      simp only at hc hd
      subst hc; subst hd
      have lst1 : (s.heap.push ob).IsList l items := ⟨_, Heap.get?_push_of_some _ hol, rfl, nl, rfl⟩
      have hol' := Heap.get?_push_of_some ob hol
      have neI : l ≠ (s.heap.push ob).objs.size := by
        rw [Heap.size_push]
        exact Nat.ne_of_lt (Nat.lt_succ_of_lt (Heap.lt_size hol))
      subst eo
      have a1 := F.sub_list_set
      have a2 := F.sub_list_frozenset
      have a3 : (Value.type "list" == Value.type "dict") = false := by decide
      unfold Builtin.«set.__init__» noKeywords Builtin.Frozenset.updateFrom
      generalize hPI : pyIter = PI
      wp_walk
      subst hPI
      refine wpAny_pyIter_list lst1 ?_
      refine wpAny_bind (wpAny_runValue ?_)
      have ltl : l < s.heap.objs.size := Heap.lt_size hol
      have hd3 : A.in1.in1.in1.handled = none := by simp [hh]
      have val : ∀ (i : Nat) (v : Value), items[i]? = some v → ∃ k t, ks[i]? = some k ∧ v = .str k t := fun i v hv => at_text hit i v (by rw [Array.getElem?_toList]; exact hv)
      refine fill ((Walks.list hd3 _ l neI items).toS) (S := s.heap.objs.size) ?nS ks sz hb val (items.size - 0) 0 _ (by omega) (Nat.zero_le _) ⟨⟨_, Heap.get?_push_size _ rfl, rfl, rfl⟩, (lst1.push _)⟩ ⟨[], ?f, by simp, Nat.le_refl 0⟩ ?R
      case nS =>
        rw [Heap.size_push]
        simp only [List.mem_cons, List.mem_singleton, List.not_mem_nil, or_false, not_or]
        exact ⟨Nat.ne_of_lt (Nat.lt_succ_self _), Nat.ne_of_gt ltl⟩
      case f =>
        have z := Heap.get?_push_of_some ({ cls := .type "list_iterator", data := .fields #[.ref l, .int 0 0] } : Obj) at0
        exact fresh z
      case R =>
        rintro ⟨h', g2, d2, t2, o2⟩ ls mv hH hm hll
        obtain rfl : g2 = s.gens := mv.gens
        obtain rfl : d2 = s.drawn := mv.drawn
        obtain rfl : o2 = s.os := mv.os
        show wpAny _ _ _ _ _ _
        refine wpAny_pure ?_
        show wpAny _ _ (ret Value.none) _ _ _
        refine wpAny_pure ⟨rfl, h', t2, ls, rfl, hH, hm, by rw [← sz]; exact hll, fun b o e => ?_⟩
        have b0 : b < s.heap.objs.size := Heap.lt_size e
        refine mv.heap b o ?_ (Heap.get?_push_of_some _ (Heap.get?_push_of_some _ e))
        simp only [List.mem_cons, List.mem_singleton, List.not_mem_nil, or_false, not_or]
        refine ⟨Nat.ne_of_lt b0, ?_⟩
        rw [Heap.size_push]
        exact Nat.ne_of_lt (Nat.lt_succ_of_lt b0)
    · rcases r with e | fl
      · exact hr
      cases fl with
      | ret r =>
        obtain ⟨rfl, h', tk, ls, rfl, hH, hm, hll, hk⟩ := hr
        repeat (any_goals (first | assumption | wp_step))
        exact q _ _ _ hH hm hll hk
      | _ => exact hr.elim
  | _ => exact hr.elim
/-- as many items as members, each member among them: the members in another order -/
theorem perm_of : ∀ (l ls : List Str), l.Nodup → (∀ z ∈ l, z ∈ ls) → ls.length ≤ l.length → ls.Perm l
  | [], ls, _, _, h => by
    have e : ls = [] := List.length_eq_zero_iff.mp (by simpa using h)
    rw [e]
  | x :: l, ls, nd, sub, h => by
    obtain ⟨nx, nd⟩ := List.nodup_cons.mp nd
    have hx : x ∈ ls := sub x List.mem_cons_self
    have p := List.perm_cons_erase hx
    have e1 : (ls.erase x).length ≤ l.length := by
      rw [List.length_erase_of_mem hx]
      simp only [List.length_cons] at h
      omega
    refine p.trans (List.Perm.cons x (perm_of l (ls.erase x) nd (fun z hz => ?_) e1))
    rcases List.mem_cons.mp (p.mem_iff.mp (sub z (List.mem_cons_of_mem _ hz))) with e | m
    · exact absurd (e ▸ hz) nx
    · exact m
theorem texts : ∀ (es : List (Int × Value)), ElemsOf (strKind P w) es → ∃ ls : List Str, StrsAre (es.map (·.2)) ls ∧ ∀ z, z ∈ ls ↔ ∃ e ∈ es, (strKind P w).is z e.2 = true
  | [], _ => ⟨[], .nil, fun z => by simp⟩
  | e :: es, h => by
    obtain ⟨ls, r, m⟩ := texts es fun x hx => h x (List.mem_cons_of_mem _ hx)
    obtain ⟨⟨k, hk, _⟩, _⟩ := h e List.mem_cons_self
    obtain ⟨t, ek⟩ := Value.isStrOf_shape (x := k) (v := e.2) hk
    refine ⟨k :: ls, ?_, fun z => ?_⟩
    · show StrsAre (e.2 :: es.map (·.2)) (k :: ls)
      rw [ek]
      exact .cons k t r
    · rw [List.mem_cons, m]
      constructor
      · rintro (rfl | ⟨x, hx, y⟩)
        · exact ⟨e, List.mem_cons_self, hk⟩
        · exact ⟨x, List.mem_cons_of_mem _ hx, y⟩
      · rintro ⟨x, hx, y⟩
        rcases List.mem_cons.mp hx with rfl | hx
        · exact .inl ((strKind P w).inj x.2 z k y hk)
        · exact .inr ⟨x, hx, y⟩
/-- the values of the payload, whatever their order, are the members, whatever theirs -/
theorem values {D : SD} {l : List Str} {vs : List Value} (p : Pay P w D l) (pm : vs.Perm (D.1.toList.map (·.2))) : ∃ ls : List Str, StrsAre vs ls ∧ ls.Perm l := by
  obtain ⟨l1, r1, m1⟩ := texts D.1.toList p.tx.el
  have e1 : l1.length = l.length := by rw [← StrsAre.length r1, List.length_map, Array.length_toList, p.tx.sz]
  have p1 : l1.Perm l := perm_of l l1 p.nd (fun z hz => (m1 z).mpr ((p.tx.mem z).mp hz)) (by omega)
  have all : ∀ v ∈ vs, ∃ x t, v = .str x t := fun v hv => r1.all v (pm.mem_iff.mp hv)
  refine ⟨vs.map strOf, strsAre_map vs all, ?_⟩
  have e2 := pm.map strOf
  rw [r1.strs] at e2
  exact e2.trans p1
/-- sorted(the set), fewer than 64 members -/
theorem inOrder {a : Addr} {l : List Str} {Q : Value → Shared → Prop} (x : Holds P w s.heap a l) (hh : A.handled = none) (few : l.length < 64)
    (q : ∀ s' p (out : Array Value) (c : Nat) (ls : List Str), (∀ b o, s.heap.get? b = some o → s'.heap.get? b = some o) → s'.gens = s.gens → s'.os = s.os → s.heap.objs.size ≤ p → s'.heap.get? p = some (seqObj "list" out c) →
      StrsAre out.toList ls → ls.Perm l → sortedS ls = true → Q (.ref p) s') : wpAny (model P w) A (call (.builtin "sorted") [.ref a]) Q E s := by
  obtain ⟨⟨es, ep, t⟩, ho, p⟩ := x
  have sz : es.size = l.length := p.tx.sz
  refine Calls.call_function_entry kind_sorted plain_sorted entry_sorted (args_sorted1 _) ?_
  unfold Builtin.«sorted»
  refine wpAny_bind (m := checkCount "sorted" 1 1 _) (wpAny_pure ?_)
  refine wpAny_bind (collect_set (A := A.in1) hh ⟨_, ho, rfl, rfl⟩ p.tx.fit (by show es.size < scanBound; unfold scanBound; omega) p.ris p.led fun s1 vs k1 z1 g1 o1 pm => ?_)
  obtain ⟨ls, r, pl⟩ := values p pm
  have hv : vs.length = l.length := by rw [StrsAre.length r, pl.length_eq]
  refine wpAny_bind (wpAny_newList ?_ (by rw [hv, sizeLine_eq]; omega))
  have at1 : (s1.heap.push (seqObj "list" vs.toArray 0)).get? s1.heap.objs.size = some (seqObj "list" vs.toArray 0) := Heap.get?_push_size _ rfl
  refine wpAny_bind (wpAny_holding (wpAny_call_entry slot_list_sort ⟨_, at1, rfl⟩ entry_list_sort
    (list_sort_treeK strKind_oneLt at1 r.keysOf (fun v1 v2 rest e => keyKind_strs (by rw [← e]; exact r)) (by rw [hv]; exact few) fun st' hp hs => ?_) (args_list_sort _)))
  obtain ⟨ys, b1, b2, b3⟩ := sorted_out_str r hp hs
  obtain ⟨c, hc⟩ := sortedHeap_at (vs := vs) (out := (arrOf st').map (·.2)) at1
  refine ⟨_, rfl, wpAny_pure ⟨_, rfl, q _ s1.heap.objs.size _ c ys (fun b u e => ?_) g1 o1 z1 hc b1 (b2.trans pl) b3⟩⟩
  have e1 := k1 b u e
  have lt := Heap.lt_size e1
  show (sortedHeap (s1.heap.push (seqObj "list" vs.toArray 0)) s1.heap.objs.size vs _).get? b = some u
  rw [sortedHeap_old (Nat.ne_of_lt lt) (by rw [size_push']; exact Nat.lt_succ_of_lt lt)]
  exact Heap.get?_push_of_some _ e1
end
/-- what stands at a: a set of the texts l -/
def SetS (P : Program) (w : World) (a : Addr) (l : List Str) : HO := .ext fun h => Holds P w h a l
section
variable {X : Cx}
def rSetOfS (K : PySem.W.Frag) (P : Program) (w : World) : List V → Hp → VK → Prop := fun xs H Q => ∃ (l : Addr) (ks : List Str), xs = [V.ref l] ∧ SqL K H l (ks.map V.str) ∧ ks.length ≤ 1000 ∧
  ∀ a ls, H a = none → (∀ z, z ∈ ls ↔ z ∈ ks) → ls.length ≤ ks.length → Q (.ref a) (upd H a (SetS P w a ls))
theorem cr_setOfS (hc : X.calm = true) : CallR X (.type "set") (rSetOfS X.K X.prog X.w) := by
  intro pins s σ H xs us Q I r h
  obtain ⟨l, ks, rfl, hl, hk, q⟩ := h
  rw [Vals.ref1 r]
  obtain ⟨its, rv, pl, hz⟩ := I.list hl
  have hn : H s.heap.objs.size = none := I.hok.fresh (Nat.le_refl _)
  refine made (P := X.prog) (w := X.w) ks (I.ok.hd hc) pl.isList (by simpa using rv.strs) (by unfold scanBound; omega) fun h' tk ls hh hm hl k => ?_
  have new : ObjOk X.prog X.w (upd H s.heap.objs.size (SetS X.prog X.w s.heap.objs.size ls)) h' s.heap.objs.size (SetS X.prog X.w s.heap.objs.size ls) :=
    ⟨hh, let ⟨_, e, _⟩ := hh; ⟨_, e⟩, fun h1 h2 x kk => x.kept kk⟩
  exact ⟨.ref s.heap.objs.size, upd H s.heap.objs.size (SetS X.prog X.w s.heap.objs.size ls), I.laid (t' := tk) k (Nat.le_refl _) new, rfl, q _ ls hn hm hl⟩
def rSortedS (P : Program) (w : World) : List V → Hp → VK → Prop := fun vs H Q => ∃ (a : Addr) (l : List Str), vs = [V.ref a] ∧ H a = some (SetS P w a l) ∧ l.length < 64 ∧
  ∀ (ls : List Str) (p : Addr), ls.Perm l → ls.Nodup → sortedS ls = true → H p = none → Q (.ref p) (upd H p (.lst (ls.map V.str)))
theorem cr_sortedSetS (hc : X.calm = true) : CallR X (.builtin "sorted") (rSortedS X.prog X.w) := by
  intro pins s σ H vs us Q I r h
  obtain ⟨a, l, rfl, ha, few, q⟩ := h
  have R : Holds X.prog X.w s.heap a l := (I.hok a _ ha).1
  have nd : l.Nodup := let ⟨_, _, p⟩ := R; p.nd
  rw [Vals.ref1 r]
  refine inOrder R (I.ok.hd hc) few fun s' p out c ls k g o hp hg hi pm so => ?_
  have hlen : (ls.map V.str).length ≤ sizeLine := by rw [List.length_map, pm.length_eq, sizeLine_eq]; omega
  have hn : H p = none := I.hok.fresh hp
  have J : Inv X pins σ (upd H p (.lst (ls.map V.str))) { s with heap := s'.heap, gens := s'.gens, drawn := s'.drawn, toks := s'.toks } :=
    I.call (ch := []) (Un.laid k hp hn) (I.hok.laid k hp ⟨hlen, out.toList, c, vals_of_strs hi, hg⟩) (by rw [g]; exact I.bare) (fun _ z => nomatch z)
  have e : s' = { s with heap := s'.heap, gens := s'.gens, drawn := s'.drawn, toks := s'.toks } := by
    cases s'
    cases s
    cases o
    rfl
  rw [e]
  exact ⟨.ref p, _, J, rfl, q ls p pm (pm.nodup_iff.mpr nd) so hn⟩
end
end Tset

/-! a, b, *rest = t, t a tuple: the names ahead of the star, the rest as a new list -/
namespace Star2
open PySem PySem.Spec PyProof.Rows L2
theorem nolen_ti : typeLookup (.type "tuple_iterator") "__len__" = pure none := by rw [typeLookup_type, builtinLookup_eq_fast]; kernel_rfl
theorem hint_ti : typeLookup (.type "tuple_iterator") "__length_hint__" = pure (some (.builtin "tuple_iterator.__length_hint__")) := by rw [typeLookup_type, builtinLookup_eq_fast]; kernel_rfl
section
variable {prog : Program} {w : World} {A : Around} {E : Value → Shared → Prop} {s : Shared}
/-- the walk of a tuple from its k-th item on -/
theorem from_ {I ax : Addr} {items : Array Value} {k : Nat} (W : Walks prog w A I [I, ax] [I] items.size (fun i v => items[i]? = some v) (fun i h => h.IsTupleIter I ax i ∧ h.IsTuple ax items)) (hk : k ≤ items.size) :
    Walks prog w A I [I, ax] [I] (items.size - k) (fun i v => items[i + k]? = some v) (fun i h => h.IsTupleIter I ax (i + k) ∧ h.IsTuple ax items) where
  sub := W.sub
  frame := fun i => W.frame (i + k)
  item := fun i s Q E hi st q => W.item (i + k) s Q E (by omega) st fun v h' tk pv st' kk => q v h' tk pv ((show i + k + 1 = i + 1 + k by omega) ▸ st') kk
  done := fun s Q E st q => W.done s Q E ((show items.size - k + k = items.size by omega) ▸ st) q
  self := fun i => W.self (i + k)
/-- what is left of the walk, gathered -/
theorem rest {it t : Addr} {items : Array Value} {k : Nat} {Q : List Value → Shared → Prop} (hh : A.handled = none) (hit : s.heap.IsTupleIter it t k) (ht : s.heap.IsTuple t items) (ne : t ≠ it) (hk : k ≤ items.size) (hz : items.size ≤ sizeLine)
    (q : ∀ (h' : Heap) (tk : Nat), (∀ b o, b ≠ it → s.heap.get? b = some o → h'.get? b = some o) → s.heap.objs.size ≤ h'.objs.size → Q (items.toList.drop k) { s with heap := h', toks := tk }) : wpAny (model prog w) A (collect (.ref it)) Q E s := by
  have W := (from_ (Walks.tuple (prog := prog) (w := w) (A := A.in1) hh it t ne items) hk).toS
  obtain ⟨oi, hoi, _⟩ := id hit
  obtain ⟨ot, hot, _⟩ := id ht
  have n1 : s.heap.objs.size ≠ it := Nat.ne_of_gt (Heap.lt_size hoi)
  have n2 : s.heap.objs.size ≠ t := Nat.ne_of_gt (Heap.lt_size hot)
  have nS : s.heap.objs.size ∉ [it, t] := by simp only [List.mem_cons, List.not_mem_nil, or_false, not_or]; exact ⟨n1, n2⟩
  unfold collect
  refine wpAny_bind (wpAny_runValue (codeAny_builtin F.entry_proto_collect ?_))
  rw [Around.under_plainId F.plain_proto_collect _]
  refine wpAny_bind (m := newList []) (wpAny_newObj_type ?_)
  refine wpAny_pure ⟨plainId_quiet F.plain_list_iadd _, codeAny_builtin F.entry_list_iadd ?_⟩
  rw [Around.under_plainId F.plain_list_iadd _]
  generalize eo : ({ cls := .type "list", data := .seq ([] : List Value).toArray } : Obj) = ob
  have at1 : (s.heap.push ob).get? s.heap.objs.size = some ob := Heap.get?_push_size _ (by subst eo; rfl)
  have it1 : (s.heap.push ob).IsTupleIter it t (0 + k) := by rw [Nat.zero_add]; exact hit.at fun o e => Heap.get?_push_of_some _ e
  have ht1 : (s.heap.push ob).IsTuple t items := ht.push _
  have ty : ({ s with heap := s.heap.push ob } : Shared).TypeIs (.ref it) "tuple_iterator" := Heap.IsTupleIter.typeIs (s := { s with heap := s.heap.push ob }) it1
  have other : Builtin.List.listSameRef (.ref s.heap.objs.size) (.ref it) = false := by simp [Builtin.List.listSameRef, n1]
  subst eo
  show wpAny _ A.in1 (Builtin.List.listExtendWith (.ref s.heap.objs.size) (.ref it) (.ref s.heap.objs.size)) _ _ _
  unfold Builtin.List.listExtendWith
  refine wpAny_bind (wpAny_typeOf ty ?_)
  rw [if_neg (by rw [other]; decide)]
  refine wpAny_bind (wpAny_pyIter_tupleiter (s := { s with heap := s.heap.push _ }) it1 ?_)
  refine wpAny_bind (wpAny_holding ?_)
  unfold Builtin.List.listLengthHint
  refine wpAny_bind (wpAny_specialOf ty nolen_ti ?_)
  show wpAny _ A.in1 (specialOf (Value.ref it) (Str.ofString "__length_hint__") >>= _) _ _ _
  refine wpAny_bind (wpAny_specialOf ty hint_ti ?_)
  generalize hid : ("tuple_iterator.__length_hint__" : String) = id0
  wp_delta
  rw [show splitId id0 = some ("tuple_iterator", "__length_hint__") from by subst hid; decide +kernel]
  subst hid
  refine wpAny_bind (wpAny_isInstance (b := true) ty (by rw [isSubtype_type]; kernel_rfl) ?_)
  refine wpAny_pure ?_
  rw [if_neg (by decide)]
  refine wpAny_pure ⟨plainId_quiet F.plain_extend_loop _, codeAny_extend_loopS W (by omega) _ nS _ (items.size - k) 0 _ _ _ rfl (Nat.zero_le _) ⟨it1, ht1⟩ at1 (ItemsOf.nil _) fun s' acc c mv at2 got => ?_⟩
  show wpAny _ A (load s.heap.objs.size >>= _) _ _ s'
  refine wpAny_bind (wpAny_load at2 (wpAny_pure ?_))
  have ea : acc.toList = items.toList.drop k := by
    refine List.ext_getElem? fun i => ?_
    rw [List.getElem?_drop, Array.getElem?_toList, Array.getElem?_toList]
    have hs : acc.size = items.size - k := got.1
    by_cases hi : i < acc.size
    · have z := got.2 i acc[i] (Array.getElem?_eq_getElem hi)
      rw [Array.getElem?_eq_getElem hi, Nat.add_comm k i]
      exact z.symm
    · rw [Array.getElem?_eq_none (by omega), Array.getElem?_eq_none (by omega)]
  show Q acc.toList s'
  rw [ea, Moved.eq_with mv]
  refine q s'.heap s'.toks (fun b o hb e => mv.heap b o (fun hm => ?_) (Heap.get?_push_of_some _ e)) (Nat.le_of_lt (Heap.lt_size at2))
  rcases List.mem_cons.mp hm with z | hm
  · exact absurd (Heap.lt_size e) (by rw [z]; exact Nat.lt_irrefl _)
  · exact hb (List.mem_singleton.mp hm)
theorem items_star {t : Addr} {items : Array Value} {i n : Nat} {Q : List Value → Shared → Prop} (hh : A.handled = none) (ht : IsTup s.heap t items) (hi : i + 1 = n) (hl : i ≤ items.size) (hz : items.size ≤ sizeLine)
    (q : ∀ (h' : Heap) (tk : Nat), (∀ b o, s.heap.get? b = some o → h'.get? b = some o) → s.heap.objs.size ≤ h'.objs.size →
      Q (items.toList.take i ++ [.ref h'.objs.size]) { s with heap := h'.push { cls := .type "list", data := .seq (items.toList.drop i).toArray }, toks := tk }) :
    wpAny (model prog w) A (unpackItems (.ref t) n (some i)) Q E s := by
  have nt : t ≠ s.heap.objs.size := by obtain ⟨o, ho, _⟩ := ht; exact Nat.ne_of_lt (Heap.lt_size ho)
  unfold unpackItems
  refine wpAny_bind ?_
  unfold notIterableAtAll
  refine wpAny_bind (wpAny_specialOf ht.typeIs slot_tuple_iter.lookup (wpAny_pure ?_))
  simp only [Bool.false_eq_true, if_false]
  refine wpAny_bind (wpAny_holding (iter_tuple ht ?_))
  refine wpAny_bind (wpAny_holding (draw_tuple nt i 0 _ _ ⟨_, Heap.get?_push_size _ rfl, rfl, rfl⟩ (ht.push _) (by omega) fun h1 it1 sb => ?_))
  have e1 : List.take i (List.drop 0 items.toList) = items.toList.take i := by rw [List.drop_zero]
  rw [e1]
  have len1 : (items.toList.take i).length = i := by rw [List.length_take, Array.length_toList]; omega
  rw [if_neg (by rw [len1]; omega)]
  have ht1 : IsTup h1 t items := (ht.push _).extBut sb.extBut nt
  obtain ⟨ot, hot, hoc, hod⟩ := id ht1
  obtain ⟨oi, hoi, hic, hid⟩ := id it1
  refine wpAny_bind (wpAny_holding (rest (k := i) hh (by rw [Nat.zero_add] at it1; exact it1) ht1 nt hl hz fun h2 tk k2 z2 => ?_))
  have ea : n - 1 - i = 0 := by omega
  rw [ea]
  try dsimp only
  rw [if_neg (by omega)]
  have em : (items.toList.drop i).length - 0 = (items.toList.drop i).length := rfl
  rw [em, List.take_length, List.drop_length]
  refine wpAny_bind (wpAny_newList ?_ (by rw [List.length_drop, Array.length_toList]; omega))
  refine wpAny_pure ?_
  rw [List.append_nil]
  refine q h2 tk (fun b o e => ?_) ?_
  · have hb : b ≠ s.heap.objs.size := Nat.ne_of_lt (Heap.lt_size e)
    exact k2 b o hb (sb.extBut b o hb (Heap.get?_push_of_some _ e))
  · exact Nat.le_trans (Nat.le_of_lt (Heap.lt_size hoi)) z2
end
section
variable {X : Cx}
/-- names ahead of the star: their targets' readings; then the starred one's -/
def gStar (K : PySem.W.Frag) (i : Nat) (t : TGs) : TG := fun v σ H Q => ∃ a xs, v = .ref a ∧ SqT K H a xs ∧ i ≤ xs.length ∧ ∀ p, H p = none → t (xs.take i ++ [.ref p]) σ (upd H p (.lst (xs.drop i))) Q
theorem pgs_star {e : Expr} {pos : Pos} {t : TG} (h1 : PG X e t) (hs : (assignEach [.Starred e pos] X.env).map (·.2) = [assign e X.env] := by rfl) : PGs X [.Starred e pos] (gCons t gNil) := by
  refine ⟨fun pins s σ H vs us Q I r h => ?_⟩
  obtain ⟨v, vr, rfl, h⟩ := h
  cases r with
  | cons r rr =>
    rw [hs]
    refine assignInOrder_cons (thn (h1.run pins s σ H _ _ _ I r h) fun _ s1 ⟨σ1, H1, I1, e1, q1⟩ => ?_)
    subst e1
    cases rr
    exact assignInOrder_nil ⟨σ1, H1, I1, q1⟩
theorem pg_star {es : List Expr} {k : Nat} {t : TGs} {i : Nat} {pos : Pos} (hc : X.calm = true) (h : PGs X es t) (hn : (assignEach es X.env).length = i + 1 := by rfl) (hst : (assignEach es X.env).findIdx? (·.1) = some i := by rfl) : PG X (.Tuple es k pos) (gStar X.K i t) := by
  refine ⟨fun pins s σ H v u Q I r hw => ?_⟩
  obtain ⟨a, xs, rfl, hq, hl, hw⟩ := hw
  cases r
  obtain ⟨its, rv, ht, hz⟩ := I.tuple hq
  have el := rv.length
  rw [assign_Tuple]
  refine wpAny_bind (wpAny_standAt ?_)
  unfold unpack
  rw [hn, hst]
  refine wpAny_bind (wpAny_holding (items_star (I.ok.hd hc) ht rfl (by simp; omega) (by simp; omega) fun h' tk kk hs => ?_))
  have keep : ∀ b o, s.heap.get? b = some o → (h'.push { cls := .type "list", data := .seq (its.toArray.toList.drop i).toArray }).get? b = some o := fun b o e => Heap.get?_push_of_some _ (kk b o e)
  have hp : H h'.objs.size = none := I.hok.fresh hs
  have new : ObjOk X.prog X.w (upd H h'.objs.size (.lst (xs.drop i))) (h'.push { cls := .type "list", data := .seq (its.toArray.toList.drop i).toArray }) h'.objs.size (.lst (xs.drop i)) :=
    ⟨by rw [List.length_drop]; omega, its.drop i, 0, rv.drop i, by rw [Heap.get?_push_size _ rfl]⟩
  have J : Inv X pins σ (upd H h'.objs.size (.lst (xs.drop i))) { s with heap := h'.push { cls := .type "list", data := .seq (its.toArray.toList.drop i).toArray }, toks := tk } := I.laid keep hs new
  exact h.run pins _ σ _ _ _ Q J (Vals.append (by simpa using rv.take i) (.cons (show RelV (V.ref h'.objs.size) (Value.ref h'.objs.size) from rfl) .nil)) (hw _ hp)
end
end Star2

/-! zip of a tuple and a list: two walks of different kinds side by side -/
namespace Zmix
open PySem PySem.Spec PyProof.Rows L2
/-- what a walk at i over l needs to stand, and stands on -/
def Looks (i l : Addr) (P : Heap → Prop) : Prop := ∀ h h' : Heap, P h → (∀ b o, b = i ∨ b = l → h.get? b = some o → h'.get? b = some o) → P h'
/-- the walk's next item: only the walk's own object moves -/
def Gives (prog : Program) (w : World) (i : Addr) (x : Value) (P P' : Heap → Prop) : Prop :=
  ∀ (A : Around) (E : Value → Shared → Prop) (s : Shared) (Q : Value → Shared → Prop), P s.heap → (∀ h', P' h' → Heap.SameBut i s.heap h' → Q x { s with heap := h' }) → wpAny (model prog w) A (Builtin.SmallTypes.nextOf (.ref i)) Q E s
def Halts (prog : Program) (w : World) (i : Addr) (P : Heap → Prop) : Prop :=
  ∀ (A : Around) (E : Value → Shared → Prop) (s : Shared) (Q : Value → Shared → Prop), A.handled = none → P s.heap → (∀ h' e, Heap.ExtBut i s.heap h' → (∃ o, h'.get? e = some o ∧ o.cls = .type "StopIteration") → E (.ref e) { s with heap := h' }) → wpAny (model prog w) A (Builtin.SmallTypes.nextOf (.ref i)) Q E s
abbrev TW (i l : Addr) (k : Nat) (xs : Array Value) (h : Heap) : Prop := h.IsTupleIter i l k ∧ h.IsTuple l xs
abbrev LW (i l : Addr) (k : Nat) (xs : Array Value) (h : Heap) : Prop := h.IsListIter i l k ∧ h.IsList l xs
theorem looksT (i l : Addr) (k : Nat) (xs : Array Value) : Looks i l (TW i l k xs) := fun h h' p q => ⟨p.1.at fun o e => q i o (.inl rfl) e, by
  obtain ⟨o, ho, r⟩ := p.2
  exact ⟨o, q l o (.inr rfl) ho, r⟩⟩
theorem looksL (i l : Addr) (k : Nat) (xs : Array Value) : Looks i l (LW i l k xs) := fun h h' p q => ⟨p.1.at fun o e => q i o (.inl rfl) e, by
  obtain ⟨o, ho, r⟩ := p.2
  exact ⟨o, q l o (.inr rfl) ho, r⟩⟩
section
variable {prog : Program} {w : World} {A : Around} {E : Value → Shared → Prop} {s : Shared}
theorem givesT {i l : Addr} {k : Nat} {xs : Array Value} {x : Value} (ne : l ≠ i) (hx : xs[k]? = some x) : Gives prog w i x (TW i l k xs) (TW i l (k + 1) xs) := fun A E s Q p q =>
  RZ.nextOf_tuple_item p.1 p.2 hx fun h' a b => q h' ⟨a, p.2.extBut b.extBut ne⟩ b
theorem givesL {i l : Addr} {k : Nat} {xs : Array Value} {x : Value} (ne : l ≠ i) (hx : xs[k]? = some x) : Gives prog w i x (LW i l k xs) (LW i l (k + 1) xs) := fun A E s Q p q =>
  wpAny_nextOf_list_item p.1 p.2 hx fun h' a b => q h' ⟨a, p.2.extBut b.extBut ne⟩ b
theorem haltsT {i l : Addr} {k : Nat} {xs : Array Value} (hx : xs[k]? = none) : Halts prog w i (TW i l k xs) := fun A E s Q hh p q => RZ.nextOf_tuple_end hh p.1 p.2 hx q
/-- the next pair of two walks -/
theorem pair_next {z TI TO i1 i2 l1 l2 : Addr} {P1 P1' P2 P2' : Heap → Prop} {x y a b : Value} {Q : Option Value → Shared → Prop} (D : ZipApart z TI TO i1 i2 l1 l2)
    (k1 : Looks i1 l1 P1) (k1' : Looks i1 l1 P1') (k2 : Looks i2 l2 P2) (k2' : Looks i2 l2 P2') (g1 : Gives prog w i1 x P1 P1') (g2 : Gives prog w i2 y P2 P2')
    (hz : IsZip s.heap z TI TO .none) (hTI : IsPair s.heap TI (.ref i1) (.ref i2)) (hTO : IsPair s.heap TO a b) (p1 : P1 s.heap) (p2 : P2 s.heap)
    (q : ∀ h', IsZip h' z TI TO (rawInt s.heap.objs.size) → IsPair h' TO x y → P1' h' → P2' h' → IsPair h' s.heap.objs.size x y →
      (∀ c o, c ≠ z → c ≠ TO → c ≠ i1 → c ≠ i2 → s.heap.get? c = some o → h'.get? c = some o) → Q (some (.ref s.heap.objs.size)) { s with heap := h' }) :
    wpAny (model prog w) A (pyNext (.ref z)) Q E s := by
  have hT : s.TypeIs (.ref z) "zip" := ⟨_, hz, rfl⟩
  unfold pyNext
  refine wpAny_bind (wpAny_attempt (wpAny_callSpecial?_slot (name := Str.ofString "__next__") hT F.slot_zip_next (wpAny_call_entry F.slot_zip_next hT F.entry_zip_next ?_ (F.args_zip_next_1 _))))
  show wpAny _ _ (field (.ref z) 2 >>= _) _ _ _
  refine wpAny_bind (wpAny_field hz rfl (x := .bool false) rfl ?_)
  show wpAny _ _ (field (.ref z) 3 >>= _) _ _ _
  refine wpAny_bind (wpAny_field hz rfl (x := .ref TI) rfl (wpAny_bind (wpAny_seqItems hTI rfl ?_)))
  show wpAny _ _ (Builtin.SmallTypes.ownedTupleIsFree (.ref z) >>= _) _ _ _
  unfold Builtin.SmallTypes.ownedTupleIsFree
  refine wpAny_bind (wpAny_bind (wpAny_field hz rfl (x := .none) rfl (wpAny_pure ?_)))
  simp only [if_true]
  refine wpAny_bind (wpAny_rule (wpAny_bind (wpAny_field hz rfl (x := .ref TO) rfl ?_)))
  refine wpAny_bind (wpAny_setField_rec hz (by simp) fun hA zA sA => ?_)
  simp only [List.zipIdx_cons, List.zipIdx_nil, List.forIn_cons, List.forIn_nil]
  have uA : ∀ c o, c ≠ z → s.heap.get? c = some o → hA.get? c = some o := fun c o n e => sA.extBut _ _ n e
  refine wpAny_bind (wpAny_bind (wpAny_bind (wpAny_onRaise ?_)))
  refine wpAny_bind (g1 _ _ _ _ (k1 _ _ p1 fun c o hc e => uA c o (by rcases hc with r | r <;> rw [r]; exact D.i1z; exact D.l1z) e) fun hB pB sB => wpAny_pure ?_)
  have uB : ∀ c o, c ≠ z → c ≠ i1 → s.heap.get? c = some o → hB.get? c = some o := fun c o n m e => sB.extBut _ _ m (uA c o n e)
  have tB : IsPair hB TO a b := uB _ _ D.TOz D.TOi1 hTO
  refine wpAny_bind (wpAny_seqItems tB rfl (wpAny_bind (wpAny_updateSeq_pair tB fun hC tC sC => wpAny_bind (wpAny_letGo (wpAny_pure ?_)))))
  have uC : ∀ c o, c ≠ z → c ≠ i1 → c ≠ TO → s.heap.get? c = some o → hC.get? c = some o := fun c o n m k e => sC.extBut _ _ k (uB c o n m e)
  replace tC : IsPair hC TO x b := tC
  refine wpAny_bind (wpAny_bind (wpAny_onRaise ?_))
  refine wpAny_bind (g2 _ _ _ _ (k2 _ _ p2 fun c o hc e => uC c o (by rcases hc with r | r <;> rw [r]; exact D.i2z; exact D.l2z) (by rcases hc with r | r <;> rw [r]; exact D.i12.symm; exact D.l2i1) (by rcases hc with r | r <;> rw [r]; exact D.TOi2.symm; exact D.l2TO) e) fun hD pD sD => wpAny_pure ?_)
  have tD : IsPair hD TO x b := sD.extBut _ _ D.TOi2 tC
  refine wpAny_bind (wpAny_seqItems tD rfl (wpAny_bind (wpAny_updateSeq_pair tD fun hF tF sF => wpAny_bind (wpAny_letGo (wpAny_pure (wpAny_pure ?_))))))
  replace tF : IsPair hF TO x y := tF
  have uF : ∀ c o, c ≠ z → c ≠ i1 → c ≠ TO → c ≠ i2 → s.heap.get? c = some o → hF.get? c = some o := fun c o n m k j e => sF.extBut _ _ k (sD.extBut _ _ j (uC c o n m k e))
  have same : hF.objs.size = s.heap.objs.size := by rw [sF.1, sD.1, sC.1, sB.1, sA.1]
  have zF := sF.extBut _ _ D.TOz.symm (sD.extBut _ _ D.i2z.symm (sC.extBut _ _ D.TOz.symm (sB.extBut _ _ D.i1z.symm zA)))
  have f1 : P1' hF := k1' hB hF pB fun c o hc e => sF.extBut _ _ (by rcases hc with r | r <;> rw [r]; exact D.TOi1.symm; exact D.l1TO) (sD.extBut _ _ (by rcases hc with r | r <;> rw [r]; exact D.i12; exact D.l1i2) (sC.extBut _ _ (by rcases hc with r | r <;> rw [r]; exact D.TOi1.symm; exact D.l1TO) e))
  have f2 : P2' hF := k2' hD hF pD fun c o hc e => sF.extBut _ _ (by rcases hc with r | r <;> rw [r]; exact D.TOi2.symm; exact D.l2TO) e
  refine wpAny_bind (wpAny_seqItems tF rfl (wpAny_bind (wpAny_newTuple ?_)))
  show wpAny _ _ (Builtin.SmallTypes.ownedTupleHandOut (.ref z) (.ref hF.objs.size) >>= _) _ _ _
  unfold Builtin.SmallTypes.ownedTupleHandOut
  refine wpAny_bind (wpAny_bind (wpAny_setField_rec (Heap.get?_push_of_some _ zF) (by simp) fun hG zG sG => wpAny_setField_rec zG (by simp) fun hI zI sI => wpAny_pure ?_))
  have zlt : z < hF.objs.size := Heap.lt_size zF
  have up : ∀ c o, c ≠ z → hF.get? c = some o → hI.get? c = some o := fun c o n e => sI.extBut _ _ n (sG.extBut _ _ n (Heap.get?_push_of_some _ e))
  have new : IsPair hI hF.objs.size x y := sI.extBut _ _ (Nat.ne_of_gt zlt) (sG.extBut _ _ (Nat.ne_of_gt zlt) (Heap.get?_push_size _ rfl))
  have zE : IsZip hI z TI TO (rawInt hF.objs.size) := zI
  rw [same] at new zE
  refine ⟨_, rfl, wpAny_pure ?_⟩
  show Q (some (.ref hF.objs.size)) _
  rw [same]
  exact q hI zE (up _ _ D.TOz tF) (k1' _ _ f1 fun c o hc e => up c o (by rcases hc with r | r <;> rw [r]; exact D.i1z; exact D.l1z) e) (k2' _ _ f2 fun c o hc e => up c o (by rcases hc with r | r <;> rw [r]; exact D.i2z; exact D.l2z) e) new
    fun c o n m j k e => up c o n (uF c o n j m k e)
/-- the first walk is at its end -/
theorem pair_end {z TI TO i1 i2 l1 l2 : Addr} {P1 : Heap → Prop} {a b : Value} {Q : Option Value → Shared → Prop} (hh : A.handled = none) (D : ZipApart z TI TO i1 i2 l1 l2)
    (k1 : Looks i1 l1 P1) (g1 : Halts prog w i1 P1) (hz : IsZip s.heap z TI TO .none) (hTI : IsPair s.heap TI (.ref i1) (.ref i2)) (hTO : IsPair s.heap TO a b) (p1 : P1 s.heap)
    (q : ∀ h', (∀ c o, c ≠ z → c ≠ TO → c ≠ i1 → c ≠ i2 → s.heap.get? c = some o → h'.get? c = some o) → Q none { s with heap := h' }) : wpAny (model prog w) A (pyNext (.ref z)) Q E s := by
  have hT : s.TypeIs (.ref z) "zip" := ⟨_, hz, rfl⟩
  unfold pyNext
  refine wpAny_bind (wpAny_attempt (wpAny_callSpecial?_slot (name := Str.ofString "__next__") hT F.slot_zip_next (wpAny_call_entry F.slot_zip_next hT F.entry_zip_next ?_ (F.args_zip_next_1 _))))
  show wpAny _ _ (field (.ref z) 2 >>= _) _ _ _
  refine wpAny_bind (wpAny_field hz rfl (x := .bool false) rfl ?_)
  show wpAny _ _ (field (.ref z) 3 >>= _) _ _ _
  refine wpAny_bind (wpAny_field hz rfl (x := .ref TI) rfl (wpAny_bind (wpAny_seqItems hTI rfl ?_)))
  show wpAny _ _ (Builtin.SmallTypes.ownedTupleIsFree (.ref z) >>= _) _ _ _
  unfold Builtin.SmallTypes.ownedTupleIsFree
  refine wpAny_bind (wpAny_bind (wpAny_field hz rfl (x := .none) rfl (wpAny_pure ?_)))
  simp only [if_true]
  refine wpAny_bind (wpAny_rule (wpAny_bind (wpAny_field hz rfl (x := .ref TO) rfl ?_)))
  refine wpAny_bind (wpAny_setField_rec hz (by simp) fun hA zA sA => ?_)
  simp only [List.zipIdx_cons, List.zipIdx_nil, List.forIn_cons, List.forIn_nil]
  have uA : ∀ c o, c ≠ z → s.heap.get? c = some o → hA.get? c = some o := fun c o n e => sA.extBut _ _ n e
  refine wpAny_bind (wpAny_bind (wpAny_bind (wpAny_onRaise ?_)))
  refine wpAny_bind (g1 _ _ _ _ hh (k1 _ _ p1 fun c o hc e => uA c o (by rcases hc with r | r <;> rw [r]; exact D.i1z; exact D.l1z) e) fun hB e sB he => ?_)
  obtain ⟨oe, hoe, hce⟩ := he
  have zB := sB _ _ D.i1z.symm zA
  have ne : e ≠ z := fun r => by
    subst r
    rw [zB] at hoe
    cases hoe
    simp at hce
  refine wpAny_setField_rec zB (by simp) fun hC zC sC => ?_
  refine wpAny_bind (wpAny_isInstance (T := "StopIteration") (b := true) ⟨oe, sC.extBut _ _ ne hoe, hce⟩ isSubtype_stop ?_)
  exact wpAny_pure (q _ fun c o n m j k r => sC.extBut _ _ n (sB _ _ j (uA c o n r)))
end
abbrev hp1 (h : Heap) (l1 : Addr) : Heap := h.push { cls := .type "tuple_iterator", data := .fields #[.ref l1, .int 0 0] }
abbrev hp2 (h : Heap) (l1 l2 : Addr) : Heap := (hp1 h l1).push { cls := .type "list_iterator", data := .fields #[.ref l2, .int 0 0] }
abbrev hp3 (h : Heap) (l1 l2 : Addr) : Heap := (hp2 h l1 l2).push { cls := .type "tuple", data := .seq #[.ref h.objs.size, .ref (hp1 h l1).objs.size] }
abbrev hp4 (h : Heap) (l1 l2 : Addr) : Heap := (hp3 h l1 l2).push { cls := .type "tuple", data := .seq #[.none, .none] }
abbrev hp5 (h : Heap) (l1 l2 : Addr) : Heap := (hp4 h l1 l2).push { cls := .type "zip", data := .fields #[.none, .bool false, .bool false, .ref (hp2 h l1 l2).objs.size, .ref (hp3 h l1 l2).objs.size] }
theorem made (l1 l2 : Addr) (xs ys : Array Value) : Meets (Builtin.«zip.__new__» ⟨[.type "zip", .ref l1, .ref l2], []⟩) (fun _ R s => s.heap.IsTuple l1 xs ∧ s.heap.IsList l2 ys ∧ R (.ok (.ret (.ref (hp4 s.heap l1 l2).objs.size))) { s with heap := hp5 s.heap l1 l2 }) :=
  .of_wp fun prog w A R s q => by
    obtain ⟨hp, g, d, tk, os⟩ := s
    obtain ⟨t1, t2, q⟩ := q
    have hsub := sub_zip
    have w1 : Heap.IsTuple (Shared.heap ⟨hp, g, d, tk, os⟩) l1 xs := t1
    have w2 : Heap.IsList (Shared.heap ⟨hp.push { cls := .type "tuple_iterator", data := .fields #[.ref l1, .int 0 0] }, g, d, tk, os⟩) l2 ys := Heap.IsList.push t2 _
    wp_walk using wpAny_pyIter_tuple w1, wpAny_pyIter_list w2
    exact ⟨_, rfl, q⟩
theorem call_mix {prog : Program} {w : World} {A : Around} {E : Value → Shared → Prop} {s : Shared} {l1 l2 : Addr} {xs ys : Array Value} {Q : Value → Shared → Prop} (t1 : s.heap.IsTuple l1 xs) (t2 : s.heap.IsList l2 ys)
    (q : ∀ h', IsZip h' (s.heap.objs.size + 4) (s.heap.objs.size + 2) (s.heap.objs.size + 3) .none → IsPair h' (s.heap.objs.size + 2) (.ref s.heap.objs.size) (.ref (s.heap.objs.size + 1)) →
      IsPair h' (s.heap.objs.size + 3) .none .none → h'.IsTupleIter s.heap.objs.size l1 0 → h'.IsListIter (s.heap.objs.size + 1) l2 0 → (∀ c o, s.heap.get? c = some o → h'.get? c = some o) → Q (.ref (s.heap.objs.size + 4)) { s with heap := h' }) :
    wpAny (model prog w) A (call (.type "zip") [.ref l1, .ref l2]) Q E s := by
  refine callType_new F.called_zip (by decide) (F.typeCall_zip_2 _ _) (F.newCall_zip_2 _ _) (fun obj => F.args_object_init_3 obj _ _) F.entry_zip_new (made l1 l2 xs ys) ⟨t1, t2, ?_⟩
  have e1 : (hp1 s.heap l1).objs.size = s.heap.objs.size + 1 := Heap.size_push ..
  have e2 : (hp2 s.heap l1 l2).objs.size = s.heap.objs.size + 2 := by rw [Heap.size_push, e1]
  have e3 : (hp3 s.heap l1 l2).objs.size = s.heap.objs.size + 3 := by rw [Heap.size_push, e2]
  have e4 : (hp4 s.heap l1 l2).objs.size = s.heap.objs.size + 4 := by rw [Heap.size_push, e3]
  have a5 : (hp5 s.heap l1 l2).get? (hp4 s.heap l1 l2).objs.size = some _ := Heap.get?_push_size _ rfl
  have a4 : (hp5 s.heap l1 l2).get? (hp3 s.heap l1 l2).objs.size = some _ := Heap.get?_push_of_some _ (Heap.get?_push_size _ rfl)
  have a3 : (hp5 s.heap l1 l2).get? (hp2 s.heap l1 l2).objs.size = some _ := Heap.get?_push_of_some _ (Heap.get?_push_of_some _ (Heap.get?_push_size _ rfl))
  have a2 : (hp5 s.heap l1 l2).get? (hp1 s.heap l1).objs.size = some _ := Heap.get?_push_of_some _ (Heap.get?_push_of_some _ (Heap.get?_push_of_some _ (Heap.get?_push_size _ rfl)))
  have a1 : (hp5 s.heap l1 l2).get? s.heap.objs.size = some _ := Heap.get?_push_of_some _ (Heap.get?_push_of_some _ (Heap.get?_push_of_some _ (Heap.get?_push_of_some _ (Heap.get?_push_size _ rfl))))
  show _ ∧ _
  rw [e2, e3, e4] at a5
  rw [e1, e2] at a3
  rw [e3] at a4
  rw [e1] at a2
  rw [e4]
  exact ⟨⟨_, a5, rfl⟩, q _ a5 a3 a4 ⟨_, a1, rfl, rfl⟩ ⟨_, a2, rfl, rfl⟩ fun c o z => Heap.get?_push_of_some _ (Heap.get?_push_of_some _ (Heap.get?_push_of_some _ (Heap.get?_push_of_some _ (Heap.get?_push_of_some _ z))))⟩
/-- the tuple at a and the list at b as they stand at each turn -/
def ItM (K : PySem.W.Frag) (a b : Addr) : It :=
  ⟨fun i H => ∃ (xs ys : List V) (x y : V), SqT K H a xs ∧ SqL K H b ys ∧ xs[i]? = some x ∧ ys[i]? = some y,
    fun i H v H' => ∃ T x y, v = .ref T ∧ H T = none ∧ H' = upd H T (.tup [x, y]) ∧ (∀ xs, SqT K H a xs → xs[i]? = some x) ∧ ∀ ys, SqL K H b ys → ys[i]? = some y,
    fun i H => ∃ xs : List V, SqT K H a xs ∧ xs.length ≤ i⟩
theorem five {a b c d e : Addr} {x : Addr} (h : x ∈ [a, b, c, d, e]) : x = a ∨ x = b ∨ x = c ∨ x = d ∨ x = e := by simpa using h
theorem turn_mix {P : Program} {w : World} {K : PySem.W.Frag} {elts : List Expr} {kk : Nat} {tpos : Pos} {a b z TI TO i1 i2 : Addr} (D : ZipApart z TI TO i1 i2 a b) :
    Turn P w K (.Tuple elts kk tpos) (ItM K a b) [z, TI, TO, i1, i2] z (fun i h => IsZip h z TI TO .none ∧ IsPair h TI (.ref i1) (.ref i2) ∧ (∃ x y, IsPair h TO x y) ∧ h.IsTupleIter i1 a i ∧ h.IsListIter i2 b i) where
  mem := List.mem_cons_self
  obj := fun i h st c hc => by
    obtain ⟨hz, hTI, ⟨x, y, hTO⟩, ⟨o1, e1, _, d1⟩, ⟨o2, e2, _, d2⟩⟩ := st
    rcases five hc with r | r | r | r | r <;> rw [r]
    · exact ⟨_, hz, fun v q => nomatch q⟩
    · exact ⟨_, hTI, fun v q => nomatch q⟩
    · exact ⟨_, hTO, fun v q => nomatch q⟩
    · exact ⟨o1, e1, fun v q => by rw [d1] at q; cases q⟩
    · exact ⟨o2, e2, fun v q => by rw [d2] at q; cases q⟩
  keep := fun i h h' st k => by
    obtain ⟨hz, hTI, ⟨x, y, hTO⟩, h1, h2⟩ := st
    exact ⟨k z (by simp) _ hz, k TI (by simp) _ hTI, ⟨x, y, k TO (by simp) _ hTO⟩, h1.at fun o q => k i1 (by simp) o q, h2.at fun o q => k i2 (by simp) o q⟩
  item := by
    intro X hP hw hK hc i pins s σ H E I hf st hg
    subst hP hw hK
    obtain ⟨hz, hTI, ⟨x0, y0, hTO⟩, h1, h2⟩ := st
    obtain ⟨xs, ys, x, y, hqx, hqy, hx, hy⟩ := hg
    obtain ⟨its, rv, p, _⟩ := I.tuple hqx
    obtain ⟨its2, rv2, p2, _⟩ := I.list hqy
    obtain ⟨u, hu, ru⟩ := rv.get hx
    obtain ⟨u2, hu2, ru2⟩ := rv2.get hy
    have hzl : z < s.heap.objs.size := Heap.lt_size hz
    refine pair_next D (looksT i1 a i its.toArray) (looksT i1 a (i + 1) its.toArray) (looksL i2 b i its2.toArray) (looksL i2 b (i + 1) its2.toArray) (givesT (x := u) D.l1i1 (by simpa using hu)) (givesL (x := u2) D.l2i2 (by simpa using hu2)) hz hTI hTO ⟨h1, p⟩ ⟨h2, p2.isList⟩ fun h' z' TO' h1' h2' hT hk => ?_
    refine ⟨_, rfl, wpAny_letOwnedTupleGo_zip (s := { s with heap := h' }) z' fun h'' z'' sb => ?_⟩
    have hT2 : h''.get? s.heap.objs.size = some { cls := .type "tuple", data := .seq #[u, u2] } := (sb.2 _ (Nat.ne_of_gt hzl)).trans hT
    have new : ObjOk X.prog X.w (upd H s.heap.objs.size (.tup [x, y])) h'' s.heap.objs.size (.tup [x, y]) := ⟨by show 2 ≤ sizeLine; decide, [u, u2], .cons ru (.cons ru2 .nil), ⟨_, hT2, rfl, _, rfl⟩⟩
    have I1 : Inv X pins σ (upd H s.heap.objs.size (.tup [x, y])) { s with heap := h'' } := I.turnedNew (t' := s.toks) (ch := [z, TI, TO, i1, i2])
      (fun c o hb q => (sb.2 c (fun r => hb (by simp [r]))).trans (hk c o (fun r => hb (by simp [r])) (fun r => hb (by simp [r])) (fun r => hb (by simp [r])) (fun r => hb (by simp [r])) q)) hf (Nat.le_refl _) new
    refine ⟨.ref s.heap.objs.size, _, I1, rfl, ⟨_, x, y, rfl, I.hok.fresh (Nat.le_refl _), rfl, fun l hl => by rw [I.tuple_inj hl hqx]; exact hx, fun l hl => by rw [I.list_inj hl hqy]; exact hy⟩, ⟨z'', (sb.2 _ D.TIz).trans (hk _ _ D.TIz D.TITO D.TIi1 D.TIi2 hTI), ⟨u, u2, (sb.2 _ D.TOz).trans TO'⟩, h1'.1.at fun o q => (sb.2 _ D.i1z).trans q, h2'.1.at fun o q => (sb.2 _ D.i2z).trans q⟩, fun c hcm => ?_⟩
    have hlt : c < s.heap.objs.size := by
      rcases five hcm with r | r | r | r | r <;> rw [r]
      · exact hzl
      · exact Heap.lt_size hTI
      · exact Heap.lt_size hTO
      · obtain ⟨_, e1, _⟩ := h1
        exact Heap.lt_size e1
      · obtain ⟨_, e2, _⟩ := h2
        exact Heap.lt_size e2
    rw [upd_ne (Nat.ne_of_lt hlt)]
    exact (hf c hcm).1
  done := by
    intro X hP hw hK hc i pins s σ H E I hf st hg
    subst hP hw hK
    obtain ⟨hz, hTI, ⟨x0, y0, hTO⟩, h1, h2⟩ := st
    obtain ⟨xs, hqx, hend⟩ := hg
    obtain ⟨its, rv, p, _⟩ := I.tuple hqx
    have e := rv.length
    exact pair_end (I.ok.hd hc) D (looksT i1 a i its.toArray) (haltsT (by simp; omega)) hz hTI hTO ⟨h1, p⟩ fun h' hk => ⟨rfl, I.turnedL (t' := s.toks) (ch := [z, TI, TO, i1, i2])
      (fun c o hb q => hk c o (fun r => hb (by simp [r])) (fun r => hb (by simp [r])) (fun r => hb (by simp [r])) (fun r => hb (by simp [r])) q) hf⟩
  self := fun A i s Q E st h => wpAny_pyIter_zip st.1 h
def iZipM (K : PySem.W.Frag) (ta : TA) : TI := fun σ H R => ta σ H fun vs H1 => ∃ a b xs ys, vs = [.ref a, .ref b] ∧ SqT K H1 a xs ∧ SqL K H1 b ys ∧ R (ItM K a b) H1
theorem pi_zipM {X : Cx} {e e2 : Expr} {ta : TA} {p pos tpos : Pos} {elts : List Expr} {kk : Nat} (hg : Gl X "zip") (hm : X.mg "zip" = none) (ha : PA X [e, e2] ta)
    (hs : starEach [e, e2] X.env = (false, eval e X.env) :: starEach [e2] X.env := by rfl) (hpl : (backTo pos (starEach [e2] X.env)).any (·.1) = false := by rfl) :
    PI X (.Tuple elts kk tpos) (.Call (.Name "zip" p) [e, e2] [] pos) (iZipM X.K ta) := by
  refine ⟨fun pins s σ H R I h => Call_ (ld_blt I hg hm PyProof.Rows.boot_zip (PyProof.Rows.callWith_type1 (thn (ha.run pos pins s σ H _ I h) fun us s1 ⟨vs, H1, I1, r1, q1⟩ => ?_) hs hpl))⟩
  obtain ⟨a, b, xs, ys, ex, hqx, hqy, q⟩ := q1
  subst ex
  cases r1 with
  | cons r rr =>
    cases rr with
    | cons r' rr =>
      cases rr
      cases r
      cases r'
      obtain ⟨its, rv, p1, _⟩ := I1.tuple hqx
      obtain ⟨its2, rv2, p2, _⟩ := I1.list hqy
      obtain ⟨o1, ho1, _⟩ := id p1
      refine call_mix (show s1.heap.IsTuple a its.toArray from p1) p2.isList fun h' hz hTI hTO h1 h2 hk => wpAny_pyIter_zip hz ?_
      have I2 : Inv X pins σ H1 { s1 with heap := h' } := I1.kept (t' := s1.toks) hk
      refine ⟨s1.heap.objs.size + 4, [s1.heap.objs.size + 4, s1.heap.objs.size + 2, s1.heap.objs.size + 3, s1.heap.objs.size, s1.heap.objs.size + 1], _, _, H1, rfl, I2, turn_mix (PySem.W.ktu_apart s1.heap.objs.size a b (Heap.lt_size ho1) p2.lt), ⟨hz, hTI, ⟨_, _, hTO⟩, h1, h2⟩, fun c hcm => ?_, q⟩
      have hle : s1.heap.objs.size ≤ c := by
        rcases five hcm with z | z | z | z | z <;> rw [z]
        · exact Nat.le_add_right _ _
        · exact Nat.le_add_right _ _
        · exact Nat.le_add_right _ _
        · exact Nat.le_refl _
        · exact Nat.le_add_right _ _
      exact I1.fpOk hle (I1.hok.fresh hle)
/-- a loop over the two, of one length -/
theorem for_mix {K : PySem.W.Frag} {a b : Addr} {xs ys : List V} {g : TG} {tb : TS} {D : Ends} {σ : L2.St} {H : Hp} (hl : xs.length = ys.length) (Pv : Nat → L2.St → Hp → Prop) (h0 : Pv 0 σ H) (hq : ∀ i σ H, Pv i σ H → SqT K H a xs ∧ SqL K H b ys)
    (hs : ∀ (i : Nat) (x y : V) (T : Addr) (σ : L2.St) (H : Hp), xs[i]? = some x → ys[i]? = some y → Pv i σ H → H T = none → g (.ref T) σ (upd H T (.tup [x, y])) fun σ2 H2 => tb { D with nx := Pv (i + 1), ct := Pv (i + 1), bk := D.nx } σ2 H2) (hd : ∀ σ H, Pv xs.length σ H → D.nx σ H) :
    ∃ W : Nat → Nat → L2.St → Hp → Prop, (∃ m, W 0 m σ H) ∧ ∀ i m σ H, W i m σ H →
      ((ItM K a b).stop i H ∧ D.nx σ H) ∨ ((ItM K a b).go i H ∧ ∃ N : L2.St → Hp → Prop, (∀ σ' H', N σ' H' → ∃ m', m' < m ∧ W (i + 1) m' σ' H') ∧ ∀ v H', (ItM K a b).yld i H v H' → g v σ H' fun σ2 H2 => tb { D with nx := N, ct := N, bk := D.nx } σ2 H2) := by
  refine ⟨fun i m σ H => m + i = xs.length ∧ Pv i σ H, ⟨xs.length, Nat.add_zero _, h0⟩, fun i m σ H => ?_⟩
  rintro ⟨hm, p⟩
  obtain ⟨qx, qy⟩ := hq i σ H p
  cases m with
  | zero =>
    have e : i = xs.length := by omega
    subst e
    exact .inl ⟨⟨xs, qx, Nat.le_refl _⟩, hd σ H p⟩
  | succ m =>
    have l1 : i < xs.length := by omega
    have l2 : i < ys.length := by omega
    refine .inr ⟨⟨xs, ys, _, _, qx, qy, List.getElem?_eq_getElem l1, List.getElem?_eq_getElem l2⟩, Pv (i + 1), fun σ' H' p' => ⟨m, Nat.lt_succ_self _, by omega, p'⟩, fun v H' y => ?_⟩
    obtain ⟨T, x', y', rfl, hT, rfl, f1, f2⟩ := y
    exact hs i x' y' T σ H (f1 xs qx) (f2 ys qy) p hT
end Zmix

namespace TX
open PySem PySem.Spec PyProof.Rows L2
variable {X : Cx}
theorem cut_whole {xs : List V} {lo hi : Option Int} (h : HT.sIx xs.length 0 lo = 0 ∧ HT.sIx xs.length xs.length hi = xs.length) : cutV xs lo hi = xs := by
  unfold cutV
  rw [h.1, h.2, List.drop_zero, Nat.sub_zero, List.take_length]
/-- t[lo:hi], whole or not -/
def rSlX (K : PySem.W.Frag) : V → Option Int → Option Int → Hp → VK → Prop := fun x lo hi H Q => ∃ a xs, x = .ref a ∧ SqT K H a xs ∧ ∀ (p : Addr) (H' : Hp), Same H H' → SqT K H' p (cutV xs lo hi) → Q (.ref p) H'
theorem sl_any : SlR X (rSlX X.K) := by
  intro pins s σ H x v vl vu lo hi sl Q I rx hs pl pu ⟨a, xs, ex, hx, q⟩
  refine sl_tupA pins s σ H x v vl vu lo hi sl Q I rx hs pl pu ⟨a, xs, ex, hx, fun hw => q a H (Same.refl H) (by rw [cut_whole hw]; exact hx), fun _ p np => q p _ (fun b o e => ?_) (.inl (.inl upd_same))⟩
  rw [upd_ne (ne_of_none e np)]
  exact e
/-- t + u, none of them empty -/
def rCatX (K : PySem.W.Frag) : R2 := fun x y H Q => ∃ a b xs ys, x = .ref a ∧ y = .ref b ∧ SqT K H a xs ∧ SqT K H b ys ∧ xs ≠ [] ∧ ys ≠ [] ∧ xs.length + ys.length ≤ sizeLine ∧ ∀ p, H p = none → Q (.ref p) (upd H p (.tup (xs ++ ys)))
theorem op_cat2 : OpR X (binaryOp .Add) (rCatX X.K) := by
  intro pins s σ H x y v u Q I rx ry ⟨a, b, xs, ys, ex, ey, ha, hb, nx, ny, hz, q⟩
  exact op_catA pins s σ H x y v u Q I rx ry ⟨a, b, xs, ys, ex, ey, ha, hb, hz, fun e => absurd e nx, fun _ e => absurd e ny, fun _ _ => q⟩
end TX

namespace TT
open PySem PySem.Spec PyProof.Rows L2
variable {X : Cx}
/-- t[lo:hi] of a tuple that is told: a told tuple -/
def rSlT2 (K : PySem.W.Frag) : V → Option Int → Option Int → Hp → VK → Prop := fun x lo hi H Q => ∃ a xs, x = .ref a ∧ H a = some (.tup xs) ∧ ∀ (p : Addr) (H' : Hp), Same H H' → H' p = some (.tup (cutV xs lo hi)) → Q (.ref p) H'
theorem sl_t : SlR X (rSlT2 X.K) := by
  intro pins s σ H x v vl vu lo hi sl Q I rx hs pl pu ⟨a, xs, ex, hx, q⟩
  refine sl_tupA pins s σ H x v vl vu lo hi sl Q I rx hs pl pu ⟨a, xs, ex, .inl (.inl hx), fun hw => q a H (Same.refl H) (by rw [TX.cut_whole hw]; exact hx), fun _ p np => q p _ (fun b o e => ?_) upd_same⟩
  rw [upd_ne (ne_of_none e np)]
  exact e
/-- t + u of told tuples -/
def rCatT2 (K : PySem.W.Frag) : R2 := fun x y H Q => ∃ a b xs ys, x = .ref a ∧ y = .ref b ∧ H a = some (.tup xs) ∧ H b = some (.tup ys) ∧ xs.length + ys.length ≤ sizeLine ∧ ∀ (p : Addr) (H' : Hp), Same H H' → H' p = some (.tup (xs ++ ys)) → Q (.ref p) H'
theorem op_cat_t : OpR X (binaryOp .Add) (rCatT2 X.K) := by
  intro pins s σ H x y v u Q I rx ry ⟨a, b, xs, ys, ex, ey, ha, hb, hz, q⟩
  refine op_catA pins s σ H x y v u Q I rx ry ⟨a, b, xs, ys, ex, ey, .inl (.inl ha), .inl (.inl hb), hz, fun e => q b H (Same.refl H) (by rw [e]; exact hb), fun _ e => q a H (Same.refl H) (by rw [e, List.append_nil]; exact ha), fun _ _ p np => q p _ (fun b o e => ?_) upd_same⟩
  rw [upd_ne (ne_of_none e np)]
  exact e
end TT

/-! a for over a list or a tuple -/
namespace Eith
open PySem PySem.Spec PyProof.Rows L2
variable {X : Cx} {tg l : Expr} {tl : TE}
theorem pi_either (hl : PE X l tl) : PI X tg l (fun σ H R => iList X.K tl σ H R ∨ iTup X.K tl σ H R) :=
  ⟨fun pins s σ H R I h => h.elim ((pi_list hl).run pins s σ H R I) ((pi_tup hl).run pins s σ H R I)⟩
end Eith

namespace Tw
open PySem PySem.Spec PyProof.Rows L2
/-! what the laws' helpers do to the heap: the draws at d shrink, all else stands -/
def DrA (H : Hp) (d : Addr) : Prop := ∃ ns : List Int, H d = some (.lst (ns.map V.int))
structure Dr (d : Addr) (H H' : Hp) : Prop where
  keep : ∀ b o, b ≠ d → H b = some o → H' b = some o
  at_ : DrA H' d
theorem Dr.refl {d : Addr} {H : Hp} (h : DrA H d) : Dr d H H := ⟨fun _ _ _ e => e, h⟩
theorem Dr.trans {d : Addr} {H H1 H2 : Hp} (a : Dr d H H1) (b : Dr d H1 H2) : Dr d H H2 := ⟨fun c o n e => b.keep c o n (a.keep c o n e), b.at_⟩
theorem Dr.then {d : Addr} {H H1 H2 : Hp} (a : Dr d H H1) (b : Same H1 H2) : Dr d H H2 := ⟨fun c o n e => b c o (a.keep c o n e), let ⟨ns, q⟩ := a.at_; ⟨ns, b d _ q⟩⟩
theorem Dr.of {d : Addr} {H H1 : Hp} (h : DrA H d) (b : Same H H1) : Dr d H H1 := (Dr.refl h).then b
theorem Dr.free {d : Addr} {H H' : Hp} (a : Dr d H H') (h : DrA H d) {l : Addr} (n : H' l = none) : H l = none := by
  cases q : H l with
  | none => rfl
  | some o =>
    by_cases e : l = d
    · obtain ⟨_, z⟩ := a.at_
      rw [e, z] at n
      cases n
    · rw [a.keep l o e q] at n
      cases n
theorem Dr.ne {d : Addr} {H H' : Hp} (a : Dr d H H') {l : Addr} (n : H' l = none) : l ≠ d := fun e => by
  obtain ⟨_, z⟩ := a.at_
  rw [e, z] at n
  cases n
theorem Dr.seq {K : PySem.W.Frag} {d a : Addr} {H H' : Hp} {xs : List V} (r : Dr d H H') (ne : a ≠ d) (h : SqL K H a xs) : SqL K H' a xs := by
  rcases h with (h | ⟨o, h⟩) | h
  · exact .inl (.inl (r.keep _ _ ne h))
  · exact .inl (.inr ⟨o, r.keep _ _ ne h⟩)
  · exact .inr h
theorem same_new {H : Hp} {p : Addr} {o : HO} (h : H p = none) : Same H (upd H p o) := fun b x e => by
  rw [upd_ne (ne_of_none e h)]
  exact e
theorem drA_upd {H : Hp} {d : Addr} (ns : List Int) : DrA (upd H d (.lst (ns.map V.int))) d := ⟨ns, upd_same⟩
theorem dr_upd {H : Hp} {d : Addr} (ns : List Int) : Dr d H (upd H d (.lst (ns.map V.int))) := ⟨fun b o n e => by rw [upd_ne n]; exact e, drA_upd ns⟩
theorem at_last {α : Type} {xs : List α} (h : xs ≠ []) : xs[xs.length - 1]? = some (xs.getLast h) := by
  rw [← List.getLast?_eq_getElem?, List.getLast?_eq_getLast h]
theorem map_at {ns : List Int} {i : Nat} (h : i < ns.length) : (ns.map V.int)[i]? = some (.int ns[i]) := by
  rw [List.getElem?_map, List.getElem?_eq_getElem h]
  rfl
theorem sline : (2000 : Nat) < sizeLine := by decide
theorem small {n : Nat} (h : n ≤ 2000) : n < sizeLine := Nat.lt_of_le_of_lt h sline
theorem small' {n : Nat} (h : n ≤ 2000) : n ≤ sizeLine := Nat.le_of_lt (small h)
theorem atI_z {α : Type} {xs : List α} {z : Int} {j : Nat} {v : α} (e : z = (j : Int)) (h : xs[j]? = some v) : atI xs z = some v := by
  rw [e]
  exact atI_nat h
theorem atI_pos {α : Type} {xs : List α} {z : Int} (h0 : 0 ≤ z) (h1 : z < xs.length) : atI xs z = some (xs[z.toNat]'(by omega)) :=
  atI_z (j := z.toNat) (by omega) (List.getElem?_eq_getElem (by omega))
theorem atM_pos {ns : List Int} {z : Int} (h0 : 0 ≤ z) (h1 : z < ns.length) : atI (ns.map V.int) z = some (.int (ns[z.toNat]'(by omega))) :=
  atI_z (j := z.toNat) (by omega) (map_at (by omega))
/-- an address that was not there at the beginning may be written -/
theorem Dr.keepNew {d p : Addr} {H H' : Hp} {o : HO} (r : Dr d H H') (ne : p ≠ d) (n : H p = none) : Dr d H (upd H' p o) :=
  ⟨fun b x nb e => by rw [upd_ne (ne_of_none e n)]; exact r.keep b x nb e, let ⟨ns, z⟩ := r.at_; ⟨ns, by rw [upd_ne ne.symm]; exact z⟩⟩
/-- the script is read behind every draw -/
theorem Dr.script {K : PySem.W.Frag} {d a : Addr} {H H1 H' : Hp} {xs : List V} (h : SqL K H a xs) (n : H d = none) (s : Same H H1) (r : Dr d H1 H') : SqL K H' a xs := by
  rcases h with (h | ⟨o, h⟩) | h
  · exact .inl (.inl (r.keep _ _ (ne_of_none h n) (s _ _ h)))
  · exact .inl (.inr ⟨o, r.keep _ _ (ne_of_none h n) (s _ _ h)⟩)
  · exact .inr h
theorem same_keep {H H' : Hp} {p : Addr} {o : HO} (s : Same H H') (n : H p = none) : Same H (upd H' p o) := fun b x e => by
  rw [upd_ne (ne_of_none e n)]
  exact s b x e

/-! a plan in the heap -/
structure Mt where
  name : Str
  low : Int
  high : Int
  err : Int
structure Pl where
  len : Int
  ms : List Mt
def MtAt (H : Hp) (t : Addr) (m : Mt) : Prop := H t = some (.tup [.str m.name, .int m.low, .int m.high, .int m.err])
structure PlanAt (H : Hp) (p tm : Addr) (ts : List Addr) (P : Pl) : Prop where
  top : H p = some (.tup [.int P.len, .ref tm])
  mid : H tm = some (.tup (ts.map V.ref))
  low : Paired (MtAt H) ts P.ms
/-- the names in the order of the alphabet, each once -/
def Risen (l : List Str) : Prop := sortedS l = true ∧ l.Nodup
structure MtOk (c : Int) (m : Mt) : Prop where
  order : m.low ≤ m.high
  err0 : 0 ≤ m.err
  err1 : m.err ≤ 60
  lowB : m.low.natAbs ≤ c.natAbs + 3
  highB : m.high.natAbs ≤ 2 * c.natAbs + 3 + 10 ^ 20
structure PlanOk (c : Int) (P : Pl) : Prop where
  len : 1 ≤ P.len
  lenB : P.len ≤ c.natAbs + 60
  some_ : P.ms ≠ []
  few : P.ms.length ≤ 6
  risen : Risen (P.ms.map Mt.name)
  each : ∀ m ∈ P.ms, MtOk c m
theorem Dr.tup {d t : Addr} {H H' : Hp} {xs : List V} (r : Dr d H H') (h : DrA H d) (e : H t = some (.tup xs)) : H' t = some (.tup xs) := by
  obtain ⟨ns, z⟩ := h
  exact r.keep _ _ (ne_of e z (fun q => nomatch q)) e
theorem Dr.mts {d : Addr} {H H' : Hp} (r : Dr d H H') (h : DrA H d) : ∀ {ts : List Addr} {ms : List Mt}, Paired (MtAt H) ts ms → Paired (MtAt H') ts ms
  | _, _, .nil => .nil
  | _, _, .cons a b => .cons (r.tup h a) (Dr.mts r h b)
theorem Dr.plan {d p tm : Addr} {H H' : Hp} {ts : List Addr} {P : Pl} (r : Dr d H H') (h : DrA H d) (x : PlanAt H p tm ts P) : PlanAt H' p tm ts P := ⟨r.tup h x.top, r.tup h x.mid, r.mts h x.low⟩
theorem same_mts {H H' : Hp} (r : Same H H') : ∀ {ts : List Addr} {ms : List Mt}, Paired (MtAt H) ts ms → Paired (MtAt H') ts ms
  | _, _, .nil => .nil
  | _, _, .cons a b => .cons (r _ _ a) (same_mts r b)
theorem PlanAt.same {p tm : Addr} {H H' : Hp} {ts : List Addr} {P : Pl} (r : Same H H') (x : PlanAt H p tm ts P) : PlanAt H' p tm ts P := ⟨r _ _ x.top, r _ _ x.mid, same_mts r x.low⟩
theorem pick {xs : List Int} {vs : List V} {k : Int} (e : vs = xs.map V.int) (h0 : 0 ≤ k) (h1 : k < xs.length) : ∃ v, v ∈ xs ∧ atI vs k = some (.int v) := by
  rw [e]
  exact ⟨_, List.getElem_mem _, atM_pos h0 h1⟩
theorem abs_eq (c : Int) : (if c < 0 then -c else c) = (c.natAbs : Int) := by
  by_cases h : c < 0
  · rw [if_pos h]
    omega
  · rw [if_neg h]
    omega
theorem paired_snoc {α β : Type} {R : α → β → Prop} {xs : List α} {ys : List β} {a : α} {b : β} (h : Paired R xs ys) (r : R a b) : Paired R (xs ++ [a]) (ys ++ [b]) := h.snoc r
theorem map_snoc {ts : List Addr} {t : Addr} : ts.map V.ref ++ [V.ref t] = (ts ++ [t]).map V.ref := by
  rw [List.map_append]
  rfl
/-- a name: letters a to z, one or more, not many -/
def IsW (w : Str) : Prop := w.cps.toList ≠ [] ∧ (∀ c ∈ w.cps.toList, 97 ≤ c ∧ c ≤ 122) ∧ w.length ≤ 200
theorem mts_at {H : Hp} : ∀ {ts : List Addr} {ms : List Mt} {i : Nat} {t : Addr}, Paired (MtAt H) ts ms → ts[i]? = some t → ∃ m, ms[i]? = some m ∧ MtAt H t m
  | _, _, _, _, .nil, h => by simp at h
  | _, _, 0, _, .cons a _, h => by
    cases (Option.some.inj h)
    exact ⟨_, rfl, a⟩
  | _, _, i + 1, _, .cons _ r, h => mts_at (i := i) r h
def mtOf (H : Hp) (t : Addr) : Mt := match H t with
  | some (.tup [.str n, .int a, .int b, .int c]) => ⟨n, a, b, c⟩
  | _ => ⟨⟨#[]⟩, 0, 0, 0⟩
theorem mtOf_at {H : Hp} {t : Addr} {m : Mt} (h : MtAt H t m) : mtOf H t = m := by
  unfold mtOf
  rw [show H t = some (.tup [.str m.name, .int m.low, .int m.high, .int m.err]) from h]
theorem mts_map {H : Hp} : ∀ {ts : List Addr} {ms : List Mt}, Paired (MtAt H) ts ms → ms = ts.map (mtOf H) ∧ ∀ t ∈ ts, MtAt H t (mtOf H t)
  | _, _, .nil => ⟨rfl, fun _ z => nomatch z⟩
  | t :: ts, _ :: ms, .cons a r => by
    obtain ⟨e, k⟩ := mts_map r
    refine ⟨by rw [List.map_cons, mtOf_at a, ← e], fun x hx => ?_⟩
    rcases List.mem_cons.mp hx with rfl | z
    · rw [mtOf_at a]
      exact a
    · exact k x z
theorem mts_of {H : Hp} : ∀ (ts : List Addr), (∀ t ∈ ts, MtAt H t (mtOf H t)) → Paired (MtAt H) ts (ts.map (mtOf H))
  | [], _ => .nil
  | t :: ts, h => .cons (h t List.mem_cons_self) (mts_of ts fun x hx => h x (List.mem_cons_of_mem _ hx))
theorem refs_perm {ys : List V} {ts : List Addr} (p : ys.Perm (ts.map V.ref)) : ∃ us : List Addr, ys = us.map V.ref ∧ us.Perm ts := by
  have g : ∀ ys : List V, (∀ y ∈ ys, ∃ t, y = V.ref t) → ∃ us : List Addr, ys = us.map V.ref := by
    intro ys
    induction ys with
    | nil => exact fun _ => ⟨[], rfl⟩
    | cons y ys ih =>
      intro h
      obtain ⟨t, rfl⟩ := h y List.mem_cons_self
      obtain ⟨us, e⟩ := ih fun u hu => h u (List.mem_cons_of_mem _ hu)
      exact ⟨t :: us, by rw [e]; rfl⟩
  obtain ⟨us, rfl⟩ := g ys fun y hy => by
    obtain ⟨t, _, e⟩ := List.mem_map.mp (p.mem_iff.mp hy)
    exact ⟨t, e.symm⟩
  refine ⟨us, rfl, ?_⟩
  have q := p.map (fun v => match v with | .ref a => a | _ => 0)
  rw [List.map_map, List.map_map] at q
  have e : ∀ l : List Addr, l.map ((fun v => match v with | .ref a => a | _ => 0) ∘ V.ref) = l := fun l => by
    have : ((fun v => match v with | V.ref a => a | _ => 0) ∘ V.ref) = (id : Addr → Addr) := rfl
    rw [this, List.map_id]
  rw [e, e] at q
  exact q
theorem in_names {x : Str} : ∀ ns : List Str, inV (.str x) (ns.map V.str) = decide (x ∈ ns)
  | [] => by simp [inV]
  | n :: ns => by
    have ih := in_names (x := x) ns
    unfold inV at ih ⊢
    rw [List.map_cons, List.any_cons, ih]
    by_cases e : n = x
    · subst e
      simp [eqV]
    · have e1 : eqV (.str n) (.str x) = false := beq_eq_false_iff_ne.mpr e
      have e2 : ¬ x = n := fun z => e z.symm
      rw [e1, Bool.false_or, decide_eq_decide]
      simp [List.mem_cons, e2]
theorem flat_names (ns : List Str) : (ns.map V.str).all flatV = true := by
  rw [List.all_map, List.all_eq_true]
  exact fun _ _ => rfl

/-! a list or a tuple, walked -/
theorem pi_either {X : Cx} {tg l : Expr} {tl : TE} (hl : PE X l tl) : PI X tg l (fun σ H R => iList X.K tl σ H R ∨ iTup X.K tl σ H R) :=
  ⟨fun pins s σ H R I h => h.elim ((pi_list hl).run pins s σ H R I) ((pi_tup hl).run pins s σ H R I)⟩
/-! texts -/
theorem str_ext {a b : Str} (h : a.cps.toList = b.cps.toList) : a = b := by
  cases a with
  | mk x =>
    cases b with
    | mk y =>
      congr 1
      exact Array.ext' h
theorem cps_app (a b : Str) : (a ++ b).cps.toList = a.cps.toList ++ b.cps.toList := by
  show (a.cps ++ b.cps).toList = _
  simp
theorem len_app (a b : Str) : (a ++ b).length = a.length + b.length := by
  show (a.cps ++ b.cps).size = a.cps.size + b.cps.size
  simp
theorem app_assoc (a b c : Str) : a ++ b ++ c = a ++ (b ++ c) := str_ext (by simp only [cps_app, List.append_assoc])
theorem app_empty (a : Str) : a ++ Str.empty = a := str_ext (by rw [cps_app]; exact List.append_nil _)
theorem empty_app (a : Str) : Str.empty ++ a = a := str_ext (by rw [cps_app]; rfl)
/-! letters of a bag -/
inductive Lt where
  | read (n : Str) (slot ver at_ : Int) (v : Option Int)
  | close (n : Str) (aft at_ wit : Int)
  | clock (n : Str) (lo hi : Int)
def optV : Option Int → V
  | none => .non
  | some i => .int i
def Lt.vals : Lt → List V
  | .read n s v a x => [.str "read", .str n, .int s, .int v, .int a, optV x]
  | .close n f a w => [.str "close", .str n, .int f, .int a, .int w]
  | .clock n l h => [.str "clock", .str n, .int l, .int h]
def Lt.name : Lt → Str
  | .read n _ _ _ _ => n
  | .close n _ _ _ => n
  | .clock n _ _ => n
abbrev intT (i : Int) : Str := ((toString i : String) : Str)
def optT : Option Int → Str
  | none => "void"
  | some i => intT i
def Lt.words : Lt → List Str
  | .read n s v a x => ["read", n, "slot", intT s, "version", intT v, "at", intT a, "is", optT x]
  | .close n f a w => ["close", n, "after", intT f, "at", intT a, "with", intT w]
  | .clock n l h => ["clock", n, "from", intT l, "to", intT h]
def Lt.line (l : Lt) : Str := Txt.join " " l.words
/-- a number of at most 60 digits -/
def Nr (i : Int) : Prop := i.natAbs < 10 ^ 60
def Lt.Ok : Lt → Prop
  | .read n s v a x => IsW n ∧ 1 ≤ s ∧ 0 ≤ v ∧ Nr s ∧ Nr v ∧ Nr a ∧ ∀ i, x = some i → Nr i
  | .close n f a w => IsW n ∧ 0 ≤ f ∧ 0 ≤ w ∧ Nr f ∧ Nr a ∧ Nr w
  | .clock n l h => IsW n ∧ Nr l ∧ Nr h
def LtAt (H : Hp) (t : Addr) (l : Lt) : Prop := H t = some (.tup l.vals)
theorem Nr.log {i : Int} (h : Nr i) : i.natAbs.log2 < 1920 := by
  by_cases e : i.natAbs = 0
  · rw [e]
    decide
  · refine (Nat.log2_lt e).mpr (Nat.lt_trans h ?_)
    decide
theorem Nr.len {i : Int} (h : Nr i) : (intT i).length ≤ 61 := by
  have e := int_text_length_le10 (k := 60) (by decide) h
  show (Str.ofString (toString i)).length ≤ 61
  rw [PySem.ofString_length]
  exact e
theorem optT_len {x : Option Int} (h : ∀ i, x = some i → Nr i) : (optT x).length ≤ 61 := by
  cases x with
  | none => decide +kernel
  | some i => exact (h i rfl).len
/-- the line of a letter and its newline -/
def Lt.row (l : Lt) : Str := l.line ++ ("\n" : Str)
def rows (ls : List Lt) : Str := Txt.join "" (ls.map Lt.row)
theorem join_one (s a : Str) : Txt.join s [a] = a := rfl
theorem line_read (n : Str) (s v a : Int) (x : Option Int) : (Lt.read n s v a x).line = ("read " : Str) ++ n ++ (" slot " : Str) ++ intT s ++ (" version " : Str) ++ intT v ++ (" at " : Str) ++ intT a ++ (" is " : Str) ++ optT x := by
  have c1 : ("read " : Str) = ("read" : Str) ++ (" " : Str) := by decide +kernel
  have c2 : (" slot " : Str) = (" " : Str) ++ ("slot" : Str) ++ (" " : Str) := by decide +kernel
  have c3 : (" version " : Str) = (" " : Str) ++ ("version" : Str) ++ (" " : Str) := by decide +kernel
  have c4 : (" at " : Str) = (" " : Str) ++ ("at" : Str) ++ (" " : Str) := by decide +kernel
  have c5 : (" is " : Str) = (" " : Str) ++ ("is" : Str) ++ (" " : Str) := by decide +kernel
  rw [c1, c2, c3, c4, c5]
  show ("read" : Str) ++ (" " : Str) ++ n ++ (" " : Str) ++ ("slot" : Str) ++ (" " : Str) ++ intT s ++ (" " : Str) ++ ("version" : Str) ++ (" " : Str) ++ intT v ++ (" " : Str) ++ ("at" : Str) ++ (" " : Str) ++ intT a ++ (" " : Str) ++ ("is" : Str) ++ (" " : Str) ++ optT x = _
  simp only [app_assoc]
theorem line_close (n : Str) (f a w : Int) : (Lt.close n f a w).line = ("close " : Str) ++ n ++ (" after " : Str) ++ intT f ++ (" at " : Str) ++ intT a ++ (" with " : Str) ++ intT w := by
  have c1 : ("close " : Str) = ("close" : Str) ++ (" " : Str) := by decide +kernel
  have c2 : (" after " : Str) = (" " : Str) ++ ("after" : Str) ++ (" " : Str) := by decide +kernel
  have c4 : (" at " : Str) = (" " : Str) ++ ("at" : Str) ++ (" " : Str) := by decide +kernel
  have c5 : (" with " : Str) = (" " : Str) ++ ("with" : Str) ++ (" " : Str) := by decide +kernel
  rw [c1, c2, c4, c5]
  show ("close" : Str) ++ (" " : Str) ++ n ++ (" " : Str) ++ ("after" : Str) ++ (" " : Str) ++ intT f ++ (" " : Str) ++ ("at" : Str) ++ (" " : Str) ++ intT a ++ (" " : Str) ++ ("with" : Str) ++ (" " : Str) ++ intT w = _
  simp only [app_assoc]
theorem line_clock (n : Str) (l h : Int) : (Lt.clock n l h).line = ("clock " : Str) ++ n ++ (" from " : Str) ++ intT l ++ (" to " : Str) ++ intT h := by
  have c1 : ("clock " : Str) = ("clock" : Str) ++ (" " : Str) := by decide +kernel
  have c2 : (" from " : Str) = (" " : Str) ++ ("from" : Str) ++ (" " : Str) := by decide +kernel
  have c4 : (" to " : Str) = (" " : Str) ++ ("to" : Str) ++ (" " : Str) := by decide +kernel
  rw [c1, c2, c4]
  show ("clock" : Str) ++ (" " : Str) ++ n ++ (" " : Str) ++ ("from" : Str) ++ (" " : Str) ++ intT l ++ (" " : Str) ++ ("to" : Str) ++ (" " : Str) ++ intT h = _
  simp only [app_assoc]
theorem Lt.Ok.word {l : Lt} (h : l.Ok) : IsW l.name := by
  cases l <;> exact h.1
theorem Lt.Ok.row_len {l : Lt} (h : l.Ok) : l.row.length ≤ 1000 := by
  show (l.line ++ ("\n" : Str)).length ≤ 1000
  have w := h.word.2.2
  have k1 : (("\n" : Str)).length ≤ 10 := by decide +kernel
  cases l with
  | read n s v a x =>
    obtain ⟨_, _, _, a1, a2, a3, a4⟩ := h
    have b1 := a1.len
    have b2 := a2.len
    have b3 := a3.len
    have b4 := optT_len a4
    have d1 : (("read " : Str)).length ≤ 10 := by decide +kernel
    have d2 : ((" slot " : Str)).length ≤ 10 := by decide +kernel
    have d3 : ((" version " : Str)).length ≤ 10 := by decide +kernel
    have d4 : ((" at " : Str)).length ≤ 10 := by decide +kernel
    have d5 : ((" is " : Str)).length ≤ 10 := by decide +kernel
    have w' : n.length ≤ 200 := w
    rw [line_read]
    simp only [len_app]
    omega
  | close n f a v =>
    obtain ⟨_, _, _, a1, a2, a3⟩ := h
    have b1 := a1.len
    have b2 := a2.len
    have b3 := a3.len
    have d1 : (("close " : Str)).length ≤ 10 := by decide +kernel
    have d2 : ((" after " : Str)).length ≤ 10 := by decide +kernel
    have d3 : ((" with " : Str)).length ≤ 10 := by decide +kernel
    have d4 : ((" at " : Str)).length ≤ 10 := by decide +kernel
    have w' : n.length ≤ 200 := w
    rw [line_close]
    simp only [len_app]
    omega
  | clock n lo hi =>
    obtain ⟨_, a1, a2⟩ := h
    have b1 := a1.len
    have b2 := a2.len
    have d1 : (("clock " : Str)).length ≤ 10 := by decide +kernel
    have d2 : ((" from " : Str)).length ≤ 10 := by decide +kernel
    have d3 : ((" to " : Str)).length ≤ 10 := by decide +kernel
    have w' : n.length ≤ 200 := w
    rw [line_clock]
    simp only [len_app]
    omega
theorem isW_no10 {n : Str} (h : IsW n) : 10 ∉ n.cps.toList := fun z => by
  have := h.2.1 10 z
  omega
theorem int_no10 (i : Int) : 10 ∉ (intT i).cps.toList := PyProof.Rows.int_text_free' 10 ⟨by decide, .inl (by decide)⟩ i
theorem opt_no10 (x : Option Int) : 10 ∉ (optT x).cps.toList := by
  cases x with
  | none => decide +kernel
  | some i => exact int_no10 i
theorem Lt.Ok.no10 {l : Lt} (h : l.Ok) : 10 ∉ l.line.cps.toList := by
  have w := isW_no10 h.word
  cases l with
  | read n s v a x =>
    have w' : 10 ∉ n.cps.toList := w
    rw [line_read]
    simp only [cps_app, List.mem_append, not_or]
    exact ⟨⟨⟨⟨⟨⟨⟨⟨⟨by decide +kernel, w'⟩, by decide +kernel⟩, int_no10 _⟩, by decide +kernel⟩, int_no10 _⟩, by decide +kernel⟩, int_no10 _⟩, by decide +kernel⟩, opt_no10 _⟩
  | close n f a v =>
    have w' : 10 ∉ n.cps.toList := w
    rw [line_close]
    simp only [cps_app, List.mem_append, not_or]
    exact ⟨⟨⟨⟨⟨⟨⟨by decide +kernel, w'⟩, by decide +kernel⟩, int_no10 _⟩, by decide +kernel⟩, int_no10 _⟩, by decide +kernel⟩, int_no10 _⟩
  | clock n lo hi =>
    have w' : 10 ∉ n.cps.toList := w
    rw [line_clock]
    simp only [cps_app, List.mem_append, not_or]
    exact ⟨⟨⟨⟨⟨by decide +kernel, w'⟩, by decide +kernel⟩, int_no10 _⟩, by decide +kernel⟩, int_no10 _⟩
theorem rows_eq (ls : List Lt) : rows ls = Str.join "" (ls.map Lt.row) := PySem.StrLaws.glued_eq_join _ _
theorem rows_cons (l : Lt) (ls : List Lt) : rows (l :: ls) = l.row ++ rows ls := by
  rw [rows_eq, rows_eq]
  cases ls with
  | nil =>
    show l.row = l.row ++ Str.empty
    rw [app_empty]
  | cons m ms =>
    show l.row ++ ("" : Str) ++ Str.join "" (m.row :: ms.map Lt.row) = l.row ++ Str.join "" (m.row :: ms.map Lt.row)
    have e : ("" : Str) = Str.empty := by decide +kernel
    rw [e, app_empty]
theorem sum_rows : ∀ {ls : List Lt}, (∀ l ∈ ls, l.Ok) → ((ls.map Lt.row).map (·.length)).sum ≤ ls.length * 1000
  | [], _ => Nat.le_refl 0
  | l :: ls, h => by
    have a := (h l List.mem_cons_self).row_len
    have b := sum_rows (ls := ls) fun m hm => h m (List.mem_cons_of_mem _ hm)
    simp only [List.map_cons, List.sum_cons, List.length_cons]
    omega
theorem rows_fit {ls : List Lt} {n : Nat} (h : ∀ l ∈ ls, l.Ok) (hn : ls.length ≤ n) (h2 : n ≤ 16000) : ((ls.map Lt.row).map (·.length)).sum + (ls.map Lt.row).length * (("" : Str)).length ≤ 16777216 := by
  have a := sum_rows h
  have e : (("" : Str)).length = 0 := by decide +kernel
  rw [e, Nat.mul_zero, Nat.add_zero]
  omega
theorem same_lts {H H' : Hp} (r : Same H H') : ∀ {ts : List Addr} {ls : List Lt}, Paired (LtAt H) ts ls → Paired (LtAt H') ts ls
  | _, _, .nil => .nil
  | _, _, .cons a b => .cons (r _ _ a) (same_lts r b)
theorem Dr.lts {d : Addr} {H H' : Hp} (r : Dr d H H') (h : DrA H d) : ∀ {ts : List Addr} {ls : List Lt}, Paired (LtAt H) ts ls → Paired (LtAt H') ts ls
  | _, _, .nil => .nil
  | _, _, .cons a b => .cons (r.tup h a) (Dr.lts r h b)
theorem lts_at {H : Hp} : ∀ {ts : List Addr} {ls : List Lt} {i : Nat} {t : Addr}, Paired (LtAt H) ts ls → ts[i]? = some t → ∃ l, ls[i]? = some l ∧ LtAt H t l
  | _, _, _, _, .nil, h => by simp at h
  | _, _, 0, _, .cons a _, h => by
    cases (Option.some.inj h)
    exact ⟨_, rfl, a⟩
  | _, _, i + 1, _, .cons _ r, h => lts_at (i := i) r h
theorem nl_eq : ("\n" : Str) = ⟨#[10]⟩ := by decide +kernel
theorem find_nl {z : Str} {a b : List Nat} (h : z.cps.toList = a ++ 10 :: b) (h0 : 10 ∉ a) : Txt.find z "\n" = (a.length : Int) := by
  rw [nl_eq]
  have at_ : z.cps.toList[a.length]? = some 10 := by rw [h]; simp
  rcases PyProof.Rows.find_whole z ⟨#[10]⟩ with ⟨_, n⟩ | ⟨i, e, hi, n⟩
  · exact absurd ((StrLaws.subAt_one z 10 a.length).mpr at_) (n a.length)
  · have q := (StrLaws.subAt_one z 10 i).mp hi
    rw [e]
    rcases Nat.lt_trichotomy i a.length with z' | z' | z'
    · exfalso
      rw [h, List.getElem?_append_left z', List.getElem?_eq_getElem z'] at q
      exact h0 (by rw [← Option.some.inj q]; exact List.getElem_mem z')
    · rw [z']
    · exact absurd ((StrLaws.subAt_one z 10 a.length).mpr at_) (n a.length z')
theorem find_nil : Txt.find Str.empty "\n" = -1 := by
  rw [nl_eq]
  rcases PyProof.Rows.find_whole Str.empty ⟨#[10]⟩ with ⟨e, _⟩ | ⟨i, e, hi, n⟩
  · exact e
  · have q := (StrLaws.subAt_one Str.empty 10 i).mp hi
    exact absurd q (by simp [Str.empty])
theorem cut_to (z : Str) (k : Nat) : cutS z none (some (k : Int)) = ⟨(z.cps.toList.take k).toArray⟩ := by
  have e : z.cps.size = z.cps.toList.length := by simp
  show Str.mk ((z.cps.toList.drop (HT.sIx z.length 0 none)).take (HT.sIx z.length z.length (some (k : Int)) - HT.sIx z.length 0 none)).toArray = _
  rw [HT.sIx_none, HT.sIx_nat, List.drop_zero, Nat.sub_zero]
  have e2 : z.cps.toList.take (min k z.length) = z.cps.toList.take k := by
    show z.cps.toList.take (min k z.cps.size) = _
    rw [e, ← List.take_eq_take_min]
  rw [e2]
/-- a text up to its first newline -/
theorem cut_find {ls : List Lt} (ok : ∀ l ∈ ls, l.Ok) : cutS (rows ls) none (some (Txt.find (rows ls) "\n" + 1)) = rows (ls.take 1) := by
  cases ls with
  | nil =>
    show cutS (rows []) none (some (Txt.find Str.empty "\n" + 1)) = rows []
    rw [find_nil]
    show cutS (rows []) none (some ((0 : Nat) : Int)) = rows []
    rw [cut_to]
    rfl
  | cons l r =>
    have e : (rows (l :: r)).cps.toList = l.line.cps.toList ++ 10 :: (rows r).cps.toList := by
      rw [rows_cons, cps_app]
      show (l.line ++ ("\n" : Str)).cps.toList ++ _ = _
      rw [cps_app, nl_eq, List.append_assoc]
      rfl
    rw [find_nl e (ok l List.mem_cons_self).no10]
    have c : ((l.line.cps.toList.length : Int) + 1) = ((l.line.cps.toList.length + 1 : Nat) : Int) := by omega
    rw [c, cut_to, e]
    show _ = rows [l]
    rw [rows_cons]
    show _ = l.row ++ Str.empty
    rw [app_empty]
    refine str_ext ?_
    show (((l.line.cps.toList ++ 10 :: (rows r).cps.toList).take (l.line.cps.toList.length + 1)).toArray).toList = (l.line ++ ("\n" : Str)).cps.toList
    rw [cps_app, nl_eq, List.take_append]
    simp
    exact List.take_of_length_le (by simp)
/-- lists cut and put one behind the other -/
theorem paired_take {α β : Type} {R : α → β → Prop} : ∀ {us : List α} {ls : List β} (k : Nat), Paired R us ls → Paired R (us.take k) (ls.take k)
  | _, _, 0, _ => by simp only [List.take_zero]; exact .nil
  | _, _, k + 1, .nil => .nil
  | _, _, k + 1, .cons a b => .cons a (paired_take k b)
theorem paired_app {α β : Type} {R : α → β → Prop} : ∀ {us : List α} {ls : List β} {us' : List α} {ls' : List β}, Paired R us ls → Paired R us' ls' → Paired R (us ++ us') (ls ++ ls')
  | _, _, _, _, .nil, h => h
  | _, _, _, _, .cons a b, h => .cons a (paired_app b h)
theorem paired_rep {α β : Type} {R : α → β → Prop} {us : List α} {ls : List β} (h : Paired R us ls) : ∀ k : Nat, Paired R (List.replicate k us).flatten (List.replicate k ls).flatten
  | 0 => .nil
  | k + 1 => paired_app h (paired_rep h k)
theorem map_rep {α β : Type} (f : α → β) (xs : List α) : ∀ k : Nat, (List.replicate k (xs.map f)).flatten = ((List.replicate k xs).flatten).map f
  | 0 => rfl
  | k + 1 => by
    show xs.map f ++ (List.replicate k (xs.map f)).flatten = (xs ++ (List.replicate k xs).flatten).map f
    rw [map_rep f xs k, List.map_append]
theorem mem_rep {α : Type} {xs : List α} {x : α} : ∀ {k : Nat}, x ∈ (List.replicate k xs).flatten → x ∈ xs
  | 0, h => by simp at h
  | k + 1, h => by
    have h' : x ∈ xs ++ (List.replicate k xs).flatten := h
    rcases List.mem_append.mp h' with z | z
    · exact z
    · exact mem_rep z
theorem len_rep {α : Type} (xs : List α) : ∀ k : Nat, ((List.replicate k xs).flatten).length = k * xs.length
  | 0 => by simp
  | k + 1 => by
    show (xs ++ (List.replicate k xs).flatten).length = _
    rw [List.length_append, len_rep xs k, Nat.succ_mul, Nat.add_comm]
theorem cutV_to (xs : List V) (k : Nat) : cutV xs none (some (k : Int)) = xs.take k := by
  show (xs.drop (HT.sIx xs.length 0 none)).take (HT.sIx xs.length xs.length (some (k : Int)) - HT.sIx xs.length 0 none) = _
  rw [HT.sIx_none, HT.sIx_nat, List.drop_zero, Nat.sub_zero, ← List.take_eq_take_min]
/-! letters as data -/
def optD : Option Int → PyData
  | none => .none
  | some i => .int i
def ltD : Lt → PyData
  | .read n s v a x => .tuple [.str "read", .str n, .int s, .int v, .int a, optD x]
  | .close n f a w => .tuple [.str "close", .str n, .int f, .int a, .int w]
  | .clock n l h => .tuple [.str "clock", .str n, .int l, .int h]
theorem opt_dp {K : PySem.W.Frag} {H : Hp} (x : Option Int) : Dp K H (optV x) (optD x) := by
  cases x with
  | none => exact .non
  | some i => exact .int i
theorem lt_dp {K : PySem.W.Frag} {H : Hp} {t : Addr} {l : Lt} (h : LtAt H t l) : Dp K H (.ref t) (ltD l) := by
  cases l with
  | read n s v a x => exact .tup (.inl (.inl h)) (.cons (.str _) (.cons (.str _) (.cons (.int _) (.cons (.int _) (.cons (.int _) (.cons (opt_dp x) .nil))))))
  | close n f a w => exact .tup (.inl (.inl h)) (.cons (.str _) (.cons (.str _) (.cons (.int _) (.cons (.int _) (.cons (.int _) .nil)))))
  | clock n l h' => exact .tup (.inl (.inl h)) (.cons (.str _) (.cons (.str _) (.cons (.int _) (.cons (.int _) .nil))))
theorem lts_dp {K : PySem.W.Frag} {H : Hp} : ∀ {ts : List Addr} {ls : List Lt}, Paired (LtAt H) ts ls → DpAll K H (ts.map V.ref) (ls.map ltD)
  | _, _, .nil => .nil
  | _, _, .cons a b => .cons (lt_dp a) (lts_dp b)
theorem isW_ok {n : Str} (h : IsW n) : PyData.strOk n = true := by
  unfold PyData.strOk
  rw [Array.all_eq_true]
  intro i hi
  have := h.2.1 n.cps[i] (by simp)
  exact decide_eq_true (by omega)
theorem lt_lay {l : Lt} (h : l.Ok) : (ltD l).canLay0 = true := by
  have w := isW_ok h.word
  cases l with
  | read n s v a x =>
    have w' : PyData.strOk n = true := w
    have k : PyData.strOk "read" = true := by decide +kernel
    cases x <;> simp [ltD, optD, PyData.canLay0, PyData.canLayAll0, w', k]
  | close n f a v =>
    have w' : PyData.strOk n = true := w
    have k : PyData.strOk "close" = true := by decide +kernel
    simp [ltD, PyData.canLay0, PyData.canLayAll0, w', k]
  | clock n lo hi =>
    have w' : PyData.strOk n = true := w
    have k : PyData.strOk "clock" = true := by decide +kernel
    simp [ltD, PyData.canLay0, PyData.canLayAll0, w', k]
theorem lt_deep (l : Lt) : (ltD l).depth = 1 := by
  cases l with
  | read n s v a x => cases x <;> rfl
  | close => rfl
  | clock => rfl
theorem lts_lay : ∀ {ls : List Lt}, (∀ l ∈ ls, l.Ok) → PyData.canLayAll0 (ls.map ltD) = true
  | [], _ => rfl
  | l :: ls, h => by
    show ((ltD l).canLay0 && PyData.canLayAll0 (ls.map ltD)) = true
    rw [lt_lay (h l List.mem_cons_self), lts_lay fun m hm => h m (List.mem_cons_of_mem _ hm)]
    rfl
theorem lts_deep : ∀ ls : List Lt, PyData.depthAll (ls.map ltD) ≤ 1
  | [] => Nat.zero_le _
  | l :: ls => by
    show max (ltD l).depth (PyData.depthAll (ls.map ltD)) ≤ 1
    rw [lt_deep]
    exact Nat.max_le.mpr ⟨Nat.le_refl _, lts_deep ls⟩
theorem bag_shaped {ls : List Lt} (h : ∀ l ∈ ls, l.Ok) : SeqAt.shaped (.list (ls.map ltD)) = true := by
  unfold SeqAt.shaped
  rw [Bool.and_eq_true]
  refine ⟨lts_lay h, decide_eq_true ?_⟩
  have := lts_deep ls
  show PyData.depthAll (ls.map ltD) + 1 ≤ 64
  omega
theorem bag_same {ls : List Lt} (h : ∀ l ∈ ls, l.Ok) : PyData.eqv (.list (ls.map ltD)) (.list (ls.map ltD)) = true := SeqAt.eqv_refl _ (lts_lay h)
/-- the words of the written form, as the module's dict has them -/
def WordsAt (K : PySem.W.Frag) (w : World) (a : Addr) : Prop := ∃ tr tc tk : Addr, KDct K w a "read" (.ref tr) ∧ KDct K w a "close" (.ref tc) ∧ KDct K w a "clock" (.ref tk) ∧
  (∀ H, SqT K H tr [.str "slot", .str "version", .str "at", .str "is"]) ∧ (∀ H, SqT K H tc [.str "after", .str "at", .str "with"]) ∧ ∀ H, SqT K H tk [.str "from", .str "to"]
def Lt.kind : Lt → Str
  | .read .. => "read"
  | .close .. => "close"
  | .clock .. => "clock"
def Lt.mid : Lt → List Str
  | .read .. => ["slot", "version", "at", "is"]
  | .close .. => ["after", "at", "with"]
  | .clock .. => ["from", "to"]
def Lt.nums : Lt → List (Option Int)
  | .read _ s v a x => [some s, some v, some a, x]
  | .close _ f a w => [some f, some a, some w]
  | .clock _ l h => [some l, some h]
theorem Lt.vals_eq (l : Lt) : l.vals = .str l.kind :: .str l.name :: l.nums.map optV := by
  cases l <;> rfl
/-- the parts of a line, up to the i-th number -/
def Lt.upto (l : Lt) (i : Nat) : List Str := l.kind :: l.name :: ((l.mid.zip (l.nums.map optT)).take i).flatMap fun p => [p.1, p.2]
theorem Lt.upto_all (l : Lt) : l.upto l.mid.length = l.words := by
  cases l <;> rfl
theorem Lt.mid_nums (l : Lt) : l.mid.length = l.nums.length := by
  cases l <;> rfl
theorem Lt.mid_le (l : Lt) : l.mid.length ≤ 4 := by
  cases l
  · exact (by decide : 4 ≤ 4)
  · exact (by decide : 3 ≤ 4)
  · exact (by decide : 2 ≤ 4)
theorem Lt.upto_succ {l : Lt} {i : Nat} {a : Str} {x : Option Int} (h1 : l.mid[i]? = some a) (h2 : l.nums[i]? = some x) : l.upto (i + 1) = l.upto i ++ [a] ++ [optT x] := by
  have e : (l.mid.zip (l.nums.map optT))[i]? = some (a, optT x) := by
    rw [List.getElem?_zip_eq_some]
    exact ⟨h1, by rw [List.getElem?_map, h2]; rfl⟩
  unfold Lt.upto
  rw [List.take_add_one, e, List.flatMap_append, ← List.cons_append, ← List.cons_append, List.append_assoc]
  rfl
theorem Lt.upto_len (l : Lt) (i : Nat) (h : i ≤ 4) : (l.upto i).length ≤ 10 := by
  have e : ∀ (m : List (Str × Str)), (m.flatMap fun p => [p.1, p.2]).length = 2 * m.length := fun m => by
    induction m with
    | nil => rfl
    | cons p r ih =>
      rw [List.flatMap_cons, List.length_append, ih]
      show 2 + 2 * r.length = 2 * (r.length + 1)
      omega
  show (((l.mid.zip (l.nums.map optT)).take i).flatMap fun p => [p.1, p.2]).length + 2 ≤ 10
  rw [e, List.length_take]
  omega
theorem Lt.Ok.nr {l : Lt} (h : l.Ok) : ∀ i, some i ∈ l.nums → Nr i := by
  cases l with
  | read n s v a x =>
    obtain ⟨_, _, _, a1, a2, a3, a4⟩ := h
    intro i hi
    simp only [Lt.nums, List.mem_cons, List.not_mem_nil, or_false, Option.some.injEq] at hi
    rcases hi with rfl | rfl | rfl | z
    · exact a1
    · exact a2
    · exact a3
    · exact a4 i z.symm
  | close n f a v =>
    obtain ⟨_, _, _, a1, a2, a3⟩ := h
    intro i hi
    simp only [Lt.nums, List.mem_cons, List.not_mem_nil, or_false, Option.some.injEq] at hi
    rcases hi with rfl | rfl | rfl
    · exact a1
    · exact a2
    · exact a3
  | clock n lo hi' =>
    obtain ⟨_, a1, a2⟩ := h
    intro i hi
    simp only [Lt.nums, List.mem_cons, List.not_mem_nil, or_false, Option.some.injEq] at hi
    rcases hi with rfl | rfl
    · exact a1
    · exact a2
theorem Lt.Ok.words_fit {l : Lt} (h : l.Ok) : (l.words.map (·.length)).sum + l.words.length * ((" " : Str)).length ≤ 16777216 := by
  have w := h.word.2.2
  have e0 : ((" " : Str)).length ≤ 10 := by decide +kernel
  have m0 : ∀ k : Nat, k ≤ 10 → k * ((" " : Str)).length ≤ 100 := fun k hk => Nat.le_trans (Nat.mul_le_mul hk e0) (by decide)
  cases l with
  | read n s v a x =>
    obtain ⟨_, _, _, a1, a2, a3, a4⟩ := h
    have b1 := a1.len
    have b2 := a2.len
    have b3 := a3.len
    have b4 := optT_len a4
    have d1 : (("read" : Str)).length ≤ 10 := by decide +kernel
    have d2 : (("slot" : Str)).length ≤ 10 := by decide +kernel
    have d3 : (("version" : Str)).length ≤ 10 := by decide +kernel
    have d4 : (("at" : Str)).length ≤ 10 := by decide +kernel
    have d5 : (("is" : Str)).length ≤ 10 := by decide +kernel
    have w' : n.length ≤ 200 := w
    have m := m0 10 (by decide)
    simp only [Lt.words, List.map_cons, List.map_nil, List.sum_cons, List.sum_nil, List.length_cons, List.length_nil]
    omega
  | close n f a v =>
    obtain ⟨_, _, _, a1, a2, a3⟩ := h
    have b1 := a1.len
    have b2 := a2.len
    have b3 := a3.len
    have d1 : (("close" : Str)).length ≤ 10 := by decide +kernel
    have d2 : (("after" : Str)).length ≤ 10 := by decide +kernel
    have d3 : (("with" : Str)).length ≤ 10 := by decide +kernel
    have d4 : (("at" : Str)).length ≤ 10 := by decide +kernel
    have w' : n.length ≤ 200 := w
    have m := m0 8 (by decide)
    simp only [Lt.words, List.map_cons, List.map_nil, List.sum_cons, List.sum_nil, List.length_cons, List.length_nil]
    omega
  | clock n lo hi =>
    obtain ⟨_, a1, a2⟩ := h
    have b1 := a1.len
    have b2 := a2.len
    have d1 : (("clock" : Str)).length ≤ 10 := by decide +kernel
    have d2 : (("from" : Str)).length ≤ 10 := by decide +kernel
    have d3 : (("to" : Str)).length ≤ 10 := by decide +kernel
    have w' : n.length ≤ 200 := w
    have m := m0 6 (by decide)
    simp only [Lt.words, List.map_cons, List.map_nil, List.sum_cons, List.sum_nil, List.length_cons, List.length_nil]
    omega
theorem lts_kept {H H' : Hp} (k : ∀ b xs, H b = some (.tup xs) → H' b = some (.tup xs)) {us : List Addr} {ls : List Lt} (h : Paired (LtAt H) us ls) : Paired (LtAt H') us ls := L2.Paired.mapP h fun _ _ y => k _ _ y
theorem sqL_same {K : PySem.W.Frag} {H H' : Hp} {a : Addr} {xs : List V} (s : Same H H') (h : SqL K H a xs) : SqL K H' a xs := by
  rcases h with (h | ⟨o, h⟩) | h
  · exact .inl (.inl (s _ _ h))
  · exact .inl (.inr ⟨o, s _ _ h⟩)
  · exact .inr h
theorem sqT_same {K : PySem.W.Frag} {H H' : Hp} {a : Addr} {xs : List V} (s : Same H H') (h : SqT K H a xs) : SqT K H' a xs := by
  rcases h with (h | ⟨o, h⟩) | h
  · exact .inl (.inl (s _ _ h))
  · exact .inl (.inr ⟨o, s _ _ h⟩)
  · exact .inr h

/-! histories in the heap -/
structure Sl where
  stamp : Int
  vers : List (Option Int)
def SlAt (H : Hp) (s : Addr) (x : Sl) : Prop := ∃ tv, H s = some (.tup [.int x.stamp, .ref tv]) ∧ H tv = some (.tup (x.vers.map optV))
structure Lg where
  name : Str
  off : Int
  slots : List Sl
def LgAt (H : Hp) (g : Addr) (x : Lg) : Prop := ∃ ts us, H g = some (.tup [.str x.name, .int x.off, .ref ts]) ∧ H ts = some (.tup (us.map V.ref)) ∧ Paired (SlAt H) us x.slots
def HistAt (H : Hp) (h : Addr) (ls : List Lg) : Prop := ∃ gs, H h = some (.tup (gs.map V.ref)) ∧ Paired (LgAt H) gs ls
/-- the versions of a slot of this meter -/
structure VersOk (m : Mt) (vs : List (Option Int)) : Prop where
  head : ∃ v r, vs = some v :: r
  few : vs.length ≤ 12
  each : ∀ v, some v ∈ vs → m.low ≤ v ∧ v ≤ m.high
/-- slots whose stamps never fall, none above st, none far from the cell -/
structure SlsOk (m : Mt) (c st : Int) (xs : List Sl) : Prop where
  up : (xs.map Sl.stamp).Pairwise (· ≤ ·)
  top : ∀ x ∈ xs, x.stamp ≤ st
  near : ∀ x ∈ xs, x.stamp.natAbs ≤ c.natAbs + 1000
  vers : ∀ x ∈ xs, VersOk m x.vers
theorem SlsOk.nil (m : Mt) (c st : Int) : SlsOk m c st [] := ⟨.nil, (fun _ z => nomatch z), (fun _ z => nomatch z), fun _ z => nomatch z⟩
theorem SlsOk.snoc {m : Mt} {c st : Int} {xs : List Sl} {x : Sl} (h : SlsOk m c st xs) (a : st ≤ x.stamp) (n : x.stamp.natAbs ≤ c.natAbs + 1000) (v : VersOk m x.vers) : SlsOk m c x.stamp (xs ++ [x]) := by
  refine ⟨?_, fun y hy => ?_, fun y hy => ?_, fun y hy => ?_⟩
  · rw [List.map_append]
    refine List.pairwise_append.mpr ⟨h.up, List.pairwise_singleton _ _, fun y hy z hz => ?_⟩
    obtain ⟨w, hw, rfl⟩ := List.mem_map.mp hy
    rw [List.mem_singleton.mp hz]
    exact Int.le_trans (h.top w hw) a
  · rcases List.mem_append.mp hy with z | z
    · exact Int.le_trans (h.top y z) a
    · rw [List.mem_singleton.mp z]
      exact Int.le_refl _
  · rcases List.mem_append.mp hy with z | z
    · exact h.near y z
    · rw [List.mem_singleton.mp z]
      exact n
  · rcases List.mem_append.mp hy with z | z
    · exact h.vers y z
    · rw [List.mem_singleton.mp z]
      exact v
theorem SlsOk.take {m : Mt} {c st : Int} {xs : List Sl} (h : SlsOk m c st xs) (k : Nat) : SlsOk m c st (xs.take k) :=
  ⟨by rw [List.map_take]; exact h.up.sublist (List.take_sublist _ _), fun x hx => h.top x (List.mem_of_mem_take hx), fun x hx => h.near x (List.mem_of_mem_take hx), fun x hx => h.vers x (List.mem_of_mem_take hx)⟩
/-- a log of this meter -/
structure LgOk (m : Mt) (c : Int) (x : Lg) : Prop where
  name : x.name = m.name
  lo : -m.err ≤ x.off
  hi : x.off ≤ m.err
  slots : ∃ st, SlsOk m c st x.slots
  few : x.slots.length ≤ 50
/-- what keeps tuples keeps slots, logs and histories -/
def KT (H H' : Hp) : Prop := ∀ b xs, H b = some (.tup xs) → H' b = some (.tup xs)
theorem SlAt.kept {H H' : Hp} (k : KT H H') {s : Addr} {x : Sl} (h : SlAt H s x) : SlAt H' s x := let ⟨tv, a, b⟩ := h; ⟨tv, k _ _ a, k _ _ b⟩
theorem sls_kept {H H' : Hp} (k : KT H H') {us : List Addr} {xs : List Sl} (h : Paired (SlAt H) us xs) : Paired (SlAt H') us xs := L2.Paired.mapP h fun _ _ y => y.kept k
theorem LgAt.kept {H H' : Hp} (k : KT H H') {s : Addr} {x : Lg} (h : LgAt H s x) : LgAt H' s x := let ⟨ts, us, a, b, c⟩ := h; ⟨ts, us, k _ _ a, k _ _ b, sls_kept k c⟩
theorem lgs_kept {H H' : Hp} (k : KT H H') {us : List Addr} {xs : List Lg} (h : Paired (LgAt H) us xs) : Paired (LgAt H') us xs := L2.Paired.mapP h fun _ _ y => y.kept k
theorem HistAt.kept {H H' : Hp} (k : KT H H') {h : Addr} {ls : List Lg} (x : HistAt H h ls) : HistAt H' h ls := let ⟨gs, a, b⟩ := x; ⟨gs, k _ _ a, lgs_kept k b⟩
theorem Dr.kt {d : Addr} {H H' : Hp} (r : Dr d H H') (h : DrA H d) : KT H H' := fun _ _ e => r.tup h e
theorem Same.kt {H H' : Hp} (s : Same H H') : KT H H' := fun _ _ e => s _ _ e
theorem kt_lst {H : Hp} {G : Addr} {xs ys : List V} (hG : H G = some (.lst xs)) : KT H (upd H G (.lst ys)) := fun b zs e => by
  rw [upd_ne (ne_of e hG (fun z => nomatch z))]
  exact e
theorem KT.trans {H H1 H2 : Hp} (a : KT H H1) (b : KT H1 H2) : KT H H2 := fun c x e => b c x (a c x e)
def versFrom (n : Str) (j st : Int) : Nat → List (Option Int) → List Lt
  | _, [] => []
  | i, v :: r => .read n j (i : Int) st v :: versFrom n j st (i + 1) r
def slotsFrom (n : Str) : Nat → List Sl → List (List Lt)
  | _, [] => []
  | j, s :: r => versFrom n ((j : Int) + 1) s.stamp 0 s.vers :: slotsFrom n (j + 1) r
/-- the "read" letters of a history, in their order -/
def dueL (ls : List Lg) : List Lt := (ls.map fun g => (slotsFrom g.name 0 g.slots).flatten).flatten
theorem versFrom_at (n : Str) (j st : Int) : ∀ (k : Nat) (vs : List (Option Int)) (i : Nat), (versFrom n j st k vs)[i]? = vs[i]?.map fun v => .read n j (((k + i : Nat)) : Int) st v
  | _, [], i => by simp [versFrom]
  | k, v :: r, 0 => by simp [versFrom]
  | k, v :: r, i + 1 => by
    have h := versFrom_at n j st (k + 1) r i
    rw [show k + 1 + i = k + (i + 1) by omega] at h
    simpa [versFrom] using h
theorem versFrom_len (n : Str) (j st : Int) : ∀ (k : Nat) (vs : List (Option Int)), (versFrom n j st k vs).length = vs.length
  | _, [] => rfl
  | k, v :: r => congrArg (· + 1) (versFrom_len n j st (k + 1) r)
theorem slotsFrom_at (n : Str) : ∀ (k : Nat) (xs : List Sl) (i : Nat), (slotsFrom n k xs)[i]? = xs[i]?.map fun s => versFrom n (((k + i : Nat) : Int) + 1) s.stamp 0 s.vers
  | _, [], i => by simp [slotsFrom]
  | k, v :: r, 0 => by simp [slotsFrom]
  | k, v :: r, i + 1 => by
    have h := slotsFrom_at n (k + 1) r i
    rw [show k + 1 + i = k + (i + 1) by omega] at h
    simpa [slotsFrom] using h
theorem slotsFrom_len (n : Str) : ∀ (k : Nat) (xs : List Sl), (slotsFrom n k xs).length = xs.length
  | _, [] => rfl
  | k, v :: r => congrArg (· + 1) (slotsFrom_len n (k + 1) r)
theorem flat_take {α : Type} {ls : List (List α)} {i : Nat} {x : List α} (h : ls[i]? = some x) : (ls.take (i + 1)).flatten = (ls.take i).flatten ++ x := by
  rw [List.take_add_one, h, List.flatten_append]
  simp
theorem sls_at {H : Hp} : ∀ {us : List Addr} {xs : List Sl} {i : Nat} {u : Addr}, Paired (SlAt H) us xs → us[i]? = some u → ∃ x, xs[i]? = some x ∧ SlAt H u x
  | _, _, _, _, .nil, h => by simp at h
  | _, _, 0, _, .cons a _, h => by
    cases (Option.some.inj h)
    exact ⟨_, rfl, a⟩
  | _, _, i + 1, _, .cons _ r, h => sls_at (i := i) r h
theorem lgs_at {H : Hp} : ∀ {us : List Addr} {xs : List Lg} {i : Nat} {u : Addr}, Paired (LgAt H) us xs → us[i]? = some u → ∃ x, xs[i]? = some x ∧ LgAt H u x
  | _, _, _, _, .nil, h => by simp at h
  | _, _, 0, _, .cons a _, h => by
    cases (Option.some.inj h)
    exact ⟨_, rfl, a⟩
  | _, _, i + 1, _, .cons _ r, h => lgs_at (i := i) r h
/-- a history of few logs, slots, versions -/
structure HistFew (ls : List Lg) : Prop where
  logs : ls.length ≤ 20
  slots : ∀ g ∈ ls, g.slots.length ≤ 60
  vers : ∀ g ∈ ls, ∀ s ∈ g.slots, s.vers.length ≤ 24
/-- the logs of a history, meter by meter -/
def HistOk (P : Pl) (c : Int) (ls : List Lg) : Prop := Paired (fun m x => LgOk m c x) P.ms ls
theorem paired_mem {α β : Type} {R : α → β → Prop} : ∀ {xs : List α} {ys : List β}, Paired R xs ys → ∀ y ∈ ys, ∃ x ∈ xs, R x y
  | _, _, .nil, _, h => nomatch h
  | _, _, .cons a r, y, h => by
    rcases List.mem_cons.mp h with rfl | z
    · exact ⟨_, List.mem_cons_self, a⟩
    · obtain ⟨x, hx, k⟩ := paired_mem r y z
      exact ⟨x, List.mem_cons_of_mem _ hx, k⟩
theorem HistOk.few {P : Pl} {c : Int} {ls : List Lg} (h : HistOk P c ls) (n : P.ms.length ≤ 20) : HistFew ls := by
  refine ⟨by have := (show Paired (fun m x => LgOk m c x) P.ms ls from h).length; omega, fun g hg => ?_, fun g hg s hs => ?_⟩
  · obtain ⟨m, _, k⟩ := paired_mem h g hg
    have := k.few
    omega
  · obtain ⟨m, _, k⟩ := paired_mem h g hg
    obtain ⟨st, z⟩ := k.slots
    exact Nat.le_trans (z.vers s hs).few (by decide)
theorem HistOk.names {P : Pl} {c : Int} {ls : List Lg} (h : HistOk P c ls) (iw : ∀ m ∈ P.ms, IsW m.name) : ∀ g ∈ ls, IsW g.name := fun g hg => by
  obtain ⟨m, hm, k⟩ := paired_mem h g hg
  rw [k.name]
  exact iw m hm
theorem HistFew.take {ls : List Lg} (h : HistFew ls) (k : Nat) : HistFew (ls.take k) :=
  ⟨by rw [List.length_take]; have := h.logs; omega, fun g hg => h.slots g (List.mem_of_mem_take hg), fun g hg => h.vers g (List.mem_of_mem_take hg)⟩
theorem versFrom_mem {n : Str} {j st : Int} : ∀ {k : Nat} {vs : List (Option Int)} {l : Lt}, l ∈ versFrom n j st k vs → ∃ s v a x, l = .read n s v a x
  | _, [], _, h => nomatch h
  | k, v :: r, l, h => by
    rcases List.mem_cons.mp h with rfl | z
    · exact ⟨_, _, _, _, rfl⟩
    · exact versFrom_mem z
theorem slotsFrom_mem {n : Str} : ∀ {k : Nat} {xs : List Sl} {r : List Lt} {l : Lt}, r ∈ slotsFrom n k xs → l ∈ r → ∃ s v a x, l = .read n s v a x
  | _, [], _, _, h, _ => nomatch h
  | k, x :: xs, r, l, h, hl => by
    rcases List.mem_cons.mp h with rfl | z
    · exact versFrom_mem hl
    · exact slotsFrom_mem z hl
theorem due_mem {ls : List Lg} {l : Lt} (h : l ∈ dueL ls) : ∃ g ∈ ls, ∃ s v a x, l = .read g.name s v a x := by
  unfold dueL at h
  obtain ⟨r, hr, hl⟩ := List.mem_flatten.mp h
  obtain ⟨g, hg, rfl⟩ := List.mem_map.mp hr
  obtain ⟨r2, hr2, hl2⟩ := List.mem_flatten.mp hl
  exact ⟨g, hg, slotsFrom_mem hr2 hl2⟩
theorem due_empty (ls : List Lg) : dueL (ls.map fun g => ⟨g.name, g.off, []⟩) = [] := by
  unfold dueL
  rw [List.map_map]
  induction ls with
  | nil => rfl
  | cons g r ih =>
    rw [List.map_cons, List.flatten_cons, ih]
    rfl
theorem read_lay {n : Str} {s v a : Int} {x : Option Int} (w : IsW n) : (ltD (.read n s v a x)).canLay0 = true := by
  have w' : PyData.strOk n = true := isW_ok w
  have k : PyData.strOk "read" = true := by decide +kernel
  cases x <;> simp [ltD, optD, PyData.canLay0, PyData.canLayAll0, w', k]
theorem lt_shaped {l : Lt} (h : (ltD l).canLay0 = true) : SeqAt.shaped (ltD l) = true := by
  unfold SeqAt.shaped
  rw [Bool.and_eq_true]
  exact ⟨h, decide_eq_true (by rw [lt_deep]; decide)⟩
theorem dues_lay : ∀ {ds : List Lt}, (∀ l ∈ ds, (ltD l).canLay0 = true) → PyData.canLayAll0 (ds.map ltD) = true
  | [], _ => rfl
  | l :: ds, h => by
    show ((ltD l).canLay0 && PyData.canLayAll0 (ds.map ltD)) = true
    rw [h l List.mem_cons_self, dues_lay fun m hm => h m (List.mem_cons_of_mem _ hm)]
    rfl
theorem dues_shaped {ds : List Lt} (h : ∀ l ∈ ds, (ltD l).canLay0 = true) : SeqAt.shaped (.tuple (ds.map ltD)) = true := by
  unfold SeqAt.shaped
  rw [Bool.and_eq_true]
  refine ⟨dues_lay h, decide_eq_true ?_⟩
  have := lts_deep ds
  show PyData.depthAll (ds.map ltD) + 1 ≤ 64
  omega
theorem dues_same {ds : List Lt} (h : ∀ l ∈ ds, (ltD l).canLay0 = true) : PyData.eqv (.tuple (ds.map ltD)) (.tuple (ds.map ltD)) = true := SeqAt.eqv_refl _ (dues_lay h)
theorem slots_len {n : Str} : ∀ {k : Nat} {xs : List Sl}, (∀ s ∈ xs, s.vers.length ≤ 24) → (slotsFrom n k xs).flatten.length ≤ 24 * xs.length
  | _, [], _ => Nat.zero_le _
  | k, x :: xs, h => by
    have a := h x List.mem_cons_self
    have b := slots_len (n := n) (k := k + 1) fun s hs => h s (List.mem_cons_of_mem _ hs)
    show (versFrom n ((k : Int) + 1) x.stamp 0 x.vers ++ (slotsFrom n (k + 1) xs).flatten).length ≤ _
    rw [List.length_append, versFrom_len, List.length_cons]
    omega
theorem due_len : ∀ {ls : List Lg}, (∀ g ∈ ls, g.slots.length ≤ 60) → (∀ g ∈ ls, ∀ s ∈ g.slots, s.vers.length ≤ 24) → (dueL ls).length ≤ 1440 * ls.length
  | [], _, _ => Nat.zero_le _
  | g :: ls, h1, h2 => by
    have a := h1 g List.mem_cons_self
    have b := slots_len (n := g.name) (k := 0) (h2 g List.mem_cons_self)
    have c := due_len (ls := ls) (fun g' hg => h1 g' (List.mem_cons_of_mem _ hg)) fun g' hg => h2 g' (List.mem_cons_of_mem _ hg)
    show ((slotsFrom g.name 0 g.slots).flatten ++ dueL ls).length ≤ _
    rw [List.length_append, List.length_cons]
    omega
/-- len(..) of a list or a tuple -/
def rLenK (K : PySem.W.Frag) : List V → Hp → VK → Prop := fun xs H Q => ∃ p ys, xs = [V.ref p] ∧ (SqL K H p ys ∨ SqT K H p ys) ∧ Q (.int (ys.length : Nat)) H

/-! which letters are true of a log -/
def vsum (xs : List Sl) : Int := (xs.map fun s => (s.vers.length : Int)).sum
def belowB (a : Int) (s : Sl) : Bool := decide (s.stamp < a)
def fromB (a : Int) (s : Sl) : Bool := decide (s.stamp ≥ a)
def readOf (xs : List Sl) (s v a : Int) (x : Option Int) : Bool := match xs[(s - 1).toNat]? with
  | none => false
  | some z => if z.stamp = a then (if v < z.vers.length then (match z.vers[v.toNat]? with | some y => decide (optV y = optV x) | none => false) else false) else false
def closeOf (xs : List Sl) (f a w : Int) : Bool := (xs.take f.toNat).all (belowB a) && ((xs.drop f.toNat).all (fromB a) && decide (V.int (vsum (xs.take f.toNat)) = V.int w))
def trueIn (g : Lg) : Lt → Bool
  | .clock _ lo hi => if lo ≤ g.off then decide (g.off ≤ hi) else false
  | .read _ s v a x => if s > (g.slots.length : Int) then false else readOf g.slots s v a x
  | .close _ f a w => if f > (g.slots.length : Int) then false else closeOf g.slots f a w
def Lt.Nn : Lt → Prop
  | .read _ s v _ _ => 1 ≤ s ∧ 0 ≤ v
  | .close _ f _ _ => 0 ≤ f
  | .clock .. => True
theorem close_false {xs : List Sl} {f a w : Int} {j : Nat} {s : Sl} (f0 : 0 ≤ f) (hj : xs[j]? = some s) (n : ¬ decide (s.stamp < a) = decide ((j : Int) < f)) : closeOf xs f a w = false := by
  unfold closeOf
  by_cases jf : (j : Int) < f
  · have m : s ∈ xs.take f.toNat := List.mem_of_getElem? (i := j) (by rw [List.getElem?_take, if_pos (by omega)]; exact hj)
    have e : (xs.take f.toNat).all (belowB a) = false := by
      rw [List.all_eq_false]
      exact ⟨s, m, fun z => n (by rw [show decide (s.stamp < a) = true from z, decide_eq_true jf])⟩
    rw [e, Bool.false_and]
  · have m : s ∈ xs.drop f.toNat := List.mem_of_getElem? (i := j - f.toNat) (by rw [List.getElem?_drop, show f.toNat + (j - f.toNat) = j by omega]; exact hj)
    have e : (xs.drop f.toNat).all (fromB a) = false := by
      rw [List.all_eq_false]
      refine ⟨s, m, fun z => n ?_⟩
      have c : s.stamp ≥ a := of_decide_eq_true z
      rw [decide_eq_false jf, decide_eq_false (by omega)]
    rw [e, Bool.false_and, Bool.and_false]
theorem close_sum {xs : List Sl} {f a w : Int} (f0 : 0 ≤ f) (h : ∀ (j : Nat) (s : Sl), xs[j]? = some s → decide (s.stamp < a) = decide ((j : Int) < f)) : closeOf xs f a w = decide (V.int (vsum (xs.take f.toNat)) = V.int w) := by
  unfold closeOf
  have e1 : (xs.take f.toNat).all (belowB a) = true := by
    rw [List.all_eq_true]
    intro s hs
    obtain ⟨j, hj⟩ := List.getElem?_of_mem hs
    rw [List.getElem?_take] at hj
    split at hj
    · have := h j s hj
      show decide (s.stamp < a) = true
      rw [this]
      exact decide_eq_true (by omega)
    · cases hj
  have e2 : (xs.drop f.toNat).all (fromB a) = true := by
    rw [List.all_eq_true]
    intro s hs
    obtain ⟨j, hj⟩ := List.getElem?_of_mem hs
    rw [List.getElem?_drop] at hj
    have c := h _ s hj
    rw [decide_eq_false (show ¬ ((f.toNat + j : Nat) : Int) < f by omega)] at c
    have c' := of_decide_eq_false c
    exact decide_eq_true (by omega)
  rw [e1, e2, Bool.true_and, Bool.true_and]
theorem vsum_snoc {xs : List Sl} {i : Nat} {s : Sl} (h : xs[i]? = some s) : (xs.take (i + 1)).map (fun s => (s.vers.length : Int)) = (xs.take i).map (fun s => (s.vers.length : Int)) ++ [(s.vers.length : Int)] := by
  rw [List.take_add_one, h, List.map_append]
  rfl
theorem map_take_snoc {α β : Type} {xs : List α} {i : Nat} {x : α} (f : α → β) (h : xs[i]? = some x) : (xs.take (i + 1)).map f = (xs.take i).map f ++ [f x] := by
  rw [List.take_add_one, h, List.map_append]
  rfl
theorem all_map_id {α : Type} (f : α → Bool) (xs : List α) : (xs.map f).all id = xs.all f := by
  rw [List.all_map]
  rfl
theorem filter_first {α : Type} {f : α → Bool} {xs : List α} {i : Nat} {x g : α} {r : List α} (h : xs.filter f = g :: r) (h0 : (xs.take i).filter f = []) (hx : xs[i]? = some x) (fx : f x = true) : x = g := by
  have il := (List.getElem?_eq_some_iff.mp hx).1
  have e : xs = xs.take i ++ (x :: xs.drop (i + 1)) := by
    obtain ⟨_, rfl⟩ := List.getElem?_eq_some_iff.mp hx
    rw [← List.drop_eq_getElem_cons il, List.take_append_drop]
  rw [e, List.filter_append, h0, List.nil_append, List.filter_cons, if_pos fx] at h
  exact (List.cons.inj h).1
theorem filter_none_snoc {α : Type} {f : α → Bool} {xs : List α} {i : Nat} {x : α} (h0 : (xs.take i).filter f = []) (hx : xs[i]? = some x) (fx : ¬ f x = true) : (xs.take (i + 1)).filter f = [] := by
  rw [List.take_add_one, hx, List.filter_append, h0, List.nil_append]
  show List.filter f [x] = []
  rw [List.filter_cons, if_neg fx, List.filter_nil]
theorem cutV_from (xs : List V) (k : Nat) : cutV xs (some (k : Int)) none = xs.drop k := by
  show (xs.drop (HT.sIx xs.length 0 (some (k : Int)))).take (HT.sIx xs.length xs.length none - HT.sIx xs.length 0 (some (k : Int))) = _
  rw [HT.sIx_none, HT.sIx_nat]
  rcases Nat.le_total k xs.length with h | h
  · rw [Nat.min_eq_left h, List.take_of_length_le (by rw [List.length_drop]; exact Nat.le_refl _)]
  · rw [Nat.min_eq_right h, List.drop_length, List.drop_eq_nil_of_le h, List.take_nil]
/-- cut of mapped rows -/
theorem cut_toM {α : Type} (f : α → V) (xs : List α) (n : Int) (h : 0 ≤ n) : cutV (xs.map f) none (some n) = (xs.take n.toNat).map f := by
  have e := cutV_to (xs.map f) n.toNat
  rw [Int.toNat_of_nonneg h] at e
  rw [e, List.map_take]
theorem cut_fromM {α : Type} (f : α → V) (xs : List α) (n : Int) (h : 0 ≤ n) : cutV (xs.map f) (some n) none = (xs.drop n.toNat).map f := by
  have e := cutV_from (xs.map f) n.toNat
  rw [Int.toNat_of_nonneg h] at e
  rw [e, List.map_drop]
/-- a list of letters at F that grows; the list at L stays -/
structure NearI (d : Addr) (H HF : Hp) (F L : Addr) (P : Lt → Prop) (Hc : Hp) (us : List Addr) (ls : List Lt) (k : Nat) : Prop where
  dr : Dr d H Hc
  kt : KT HF Hc
  ll : ∀ xs, HF L = some (.lst xs) → Hc L = some (.lst xs)
  lst : Hc F = some (.lst (us.map V.ref))
  all : Paired (LtAt Hc) us ls
  good : ∀ l ∈ ls, P l
  few : us.length ≤ k
theorem NearI.add {d F L p : Addr} {H HF Hc Hn : Hp} {P : Lt → Prop} {us : List Addr} {ls : List Lt} {k : Nat} {l : Lt} (I : NearI d H HF F L P Hc us ls k) (s : Same Hc Hn) (hp : Hn p = some (.tup l.vals)) (hl : P l) (nd : F ≠ d) (nH : H F = none) (nL : L ≠ F) :
    NearI d H HF F L P (upd Hn F (.lst (us.map V.ref ++ [.ref p]))) (us ++ [p]) (ls ++ [l]) (k + 1) := by
  have hF := s _ _ I.lst
  have kk := KT.trans (Same.kt s) (kt_lst (ys := us.map V.ref ++ [.ref p]) hF)
  refine ⟨(I.dr.then s).keepNew nd nH, KT.trans I.kt kk, fun xs e => ?_, by rw [upd_same, List.map_append]; rfl, (lts_kept kk I.all).snoc ?_, fun x hx => ?_, by rw [List.length_append]; have := I.few; show _ + 1 ≤ _; omega⟩
  · rw [upd_ne nL]
    exact s _ _ (I.ll xs e)
  · exact kt_lst (ys := us.map V.ref ++ [.ref p]) hF _ _ hp
  · rcases List.mem_append.mp hx with z | z
    · exact I.good x z
    · rw [List.mem_singleton.mp z]
      exact hl
theorem NearI.draw {d F L : Addr} {H HF Hc Hn : Hp} {P : Lt → Prop} {us : List Addr} {ls : List Lt} {k : Nat} (I : NearI d H HF F L P Hc us ls k) (r : Dr d Hc Hn) (nd : F ≠ d) (nL : L ≠ d) : NearI d H HF F L P Hn us ls k :=
  ⟨I.dr.trans r, KT.trans I.kt (r.kt I.dr.at_), fun xs e => r.keep _ _ nL (I.ll xs e), r.keep _ _ nd I.lst, lts_kept (r.kt I.dr.at_) I.all, I.good, I.few⟩
theorem NearI.more {d F L : Addr} {H HF Hc : Hp} {P : Lt → Prop} {us : List Addr} {ls : List Lt} {k m : Nat} (I : NearI d H HF F L P Hc us ls k) (h : k ≤ m) : NearI d H HF F L P Hc us ls m :=
  ⟨I.dr, I.kt, I.ll, I.lst, I.all, I.good, Nat.le_trans I.few h⟩
theorem NearI.same {d F L : Addr} {H HF Hc Hn : Hp} {P : Lt → Prop} {us : List Addr} {ls : List Lt} {k : Nat} (I : NearI d H HF F L P Hc us ls k) (s : Same Hc Hn) : NearI d H HF F L P Hn us ls k :=
  ⟨I.dr.then s, KT.trans I.kt (Same.kt s), fun xs e => s _ _ (I.ll xs e), s _ _ I.lst, lts_kept (Same.kt s) I.all, I.good, I.few⟩
def ReadOfN (n : Str) (l : Lt) : Prop := ∃ s v a x, l = .read n s v a x ∧ 1 ≤ s ∧ 0 ≤ v
def CloseOfN (n : Str) (l : Lt) : Prop := ∃ f a w, l = .close n f a w ∧ 0 ≤ f
def ClockOfN (n : Str) (l : Lt) : Prop := ∃ lo hi, l = .clock n lo hi
theorem cut_mem {xs : List V} {lo hi : Option Int} {x : V} (h : x ∈ cutV xs lo hi) : x ∈ xs := by
  unfold cutV at h
  exact List.mem_of_mem_drop (List.mem_of_mem_take h)
theorem cut_at {H : Hp} {us : List Addr} {xs : List Sl} {lo hi : Option Int} {i : Nat} {x : V} (hp : Paired (SlAt H) us xs) (h : (cutV (us.map V.ref) lo hi)[i]? = some x) : ∃ (u : Addr) (z : Sl), x = .ref u ∧ SlAt H u z ∧ z ∈ xs := by
  have m := cut_mem (List.mem_of_getElem? h)
  obtain ⟨u, hu, rfl⟩ := List.mem_map.mp m
  obtain ⟨j, hj⟩ := List.getElem?_of_mem hu
  obtain ⟨z, hz, hz2⟩ := sls_at hp hj
  exact ⟨u, z, rfl, hz2, List.mem_of_getElem? hz⟩
theorem int_atL {xs : List Int} {i : Nat} {x : V} (h : (xs.map V.int)[i]? = some x) : ∃ k, xs[i]? = some k ∧ x = .int k := by
  rw [List.getElem?_map] at h
  obtain ⟨a, e1, e2⟩ := Option.map_eq_some_iff.mp h
  exact ⟨a, e1, e2.symm⟩
theorem sqT_dr0 {K : PySem.W.Frag} {d a : Addr} {H H' : Hp} {xs : List V} (r : Dr d H H') (hd : DrA H d) (h : SqT K H a xs) : SqT K H' a xs := by
  rcases h with (h | ⟨o, h⟩) | h
  · exact .inl (.inl (r.tup hd h))
  · refine .inl (.inr ⟨o, r.keep _ _ (fun z => ?_) h⟩)
    obtain ⟨ns, e⟩ := hd
    rw [z, e] at h
    cases h
  · exact .inr h
theorem hist_firstL {ls : List Lg} {n : Str} {x : Lg} (h : x ∈ ls) (e : x.name = n) : ∃ g r, ls.filter (fun g => decide (V.str g.name = V.str n)) = g :: r := by
  have m : x ∈ ls.filter (fun g => decide (V.str g.name = V.str n)) := List.mem_filter.mpr ⟨h, decide_eq_true (by rw [e])⟩
  cases hf : ls.filter (fun g => decide (V.str g.name = V.str n)) with
  | nil => rw [hf] at m; cases m
  | cons g r => exact ⟨g, r, rfl⟩
theorem pickL {xs : List Int} {vs : List V} {k : Int} (e : vs = xs.map V.int) (h0 : 0 ≤ k) (h1 : k < xs.length) : ∃ v, v ∈ xs ∧ atI vs k = some (.int v) := by
  rw [e]
  exact ⟨_, List.getElem_mem _, atM_pos h0 h1⟩

/-! readings, aggregates and their values -/
theorem pickT {xs : List V} {k : Int} (h0 : 0 ≤ k) (h1 : k < xs.length) : ∃ v, v ∈ xs ∧ atI xs k = some v :=
  ⟨_, List.getElem_mem _, atI_pos h0 h1⟩
theorem pickI {xs : List Int} {vs : List V} {k : Int} (e : vs = xs.map V.int) (h0 : 0 ≤ k) (h1 : k < xs.length) : ∃ v, v ∈ xs ∧ atI vs k = some (.int v) := by
  rw [e]
  exact ⟨_, List.getElem_mem _, atM_pos h0 h1⟩
theorem int_at {xs : List Int} {i : Nat} {x : V} (h : (xs.map V.int)[i]? = some x) : ∃ k, xs[i]? = some k ∧ x = .int k := by
  rw [List.getElem?_map] at h
  obtain ⟨a, e1, e2⟩ := Option.map_eq_some_iff.mp h
  exact ⟨a, e1, e2.symm⟩
theorem filt_snoc {xs : List Int} {i : Nat} {k : Int} (f : Int → Bool) (h : xs[i]? = some k) : (xs.take (i + 1)).filter f = (xs.take i).filter f ++ (if f k = true then [k] else []) := by
  rw [List.take_add_one, h, List.filter_append]
  congr 1
  show List.filter _ [k] = _
  rw [List.filter_cons, List.filter_nil]
theorem Dr.tupA {d t : Addr} {H H' : Hp} {xs : List V} (r : Dr d H H') (hd : DrA H d) (h : H t = some (.tup xs)) : H' t = some (.tup xs) := by
  refine r.keep _ _ (fun z => ?_) h
  obtain ⟨ns, hn⟩ := hd
  rw [z, hn] at h
  cases h
inductive Ag where
  | count | sum | among (a b : Int) | rank (p q : Int)
def Ag.vals : Ag → List V
  | .count => [.str "count"]
  | .sum => [.str "sum"]
  | .among a b => [.str "among", .int a, .int b]
  | .rank p q => [.str "rank", .int p, .int q]
def AgAt (H : Hp) (a : Addr) (g : Ag) : Prop := H a = some (.tup g.vals)
def Ag.Ok : Ag → Prop
  | .rank p q => 0 ≤ p ∧ p ≤ q ∧ 1 ≤ q ∧ q ≤ 1000
  | _ => True
def within (a b : Int) (x : Int) : Bool := decide (a ≤ x) && decide (x ≤ b)
def idxOf (n : Nat) (p q : Int) : Int := ((n : Int) - 1) * p / q
def rankOf (p q : Int) (xs : List Int) : V := if xs = [] then .non else match atI (xs.map V.int) (idxOf xs.length p q) with
  | some v => v
  | none => .non
def valOf : Ag → List Int → V
  | .count, xs => .int (xs.length : Nat)
  | .sum, xs => .int xs.sum
  | .among a b, xs => .int ((xs.filter (within a b)).length : Nat)
  | .rank p q, xs => rankOf p q xs
theorem idx_ok {n : Nat} {p q : Int} (hn : 0 < n) (h0 : 0 ≤ p) (h1 : p ≤ q) (h2 : 1 ≤ q) : 0 ≤ idxOf n p q ∧ idxOf n p q < n := by
  unfold idxOf
  have a : 0 ≤ ((n : Int) - 1) * p := Int.mul_nonneg (by omega) h0
  have b : ((n : Int) - 1) * p ≤ ((n : Int) - 1) * q := Int.mul_le_mul_of_nonneg_left h1 (by omega)
  have c : ((n : Int) - 1) * p / q ≤ (n : Int) - 1 := by
    have e := Int.ediv_le_ediv (c := q) (by omega) b
    rw [Int.mul_ediv_cancel _ (by omega)] at e
    exact e
  have e := Int.ediv_nonneg a (b := q) (by omega)
  omega
theorem rank_at {xs : List Int} {p q : Int} (hn : xs ≠ []) (h0 : 0 ≤ p) (h1 : p ≤ q) (h2 : 1 ≤ q) : ∃ k, k ∈ xs ∧ atI (xs.map V.int) (idxOf xs.length p q) = some (.int k) ∧ valOf (.rank p q) xs = .int k := by
  have hl : 0 < xs.length := List.length_pos_iff.mpr hn
  obtain ⟨a, b⟩ := idx_ok (n := xs.length) hl h0 h1 h2
  obtain ⟨k, hk, e⟩ := pickI (xs := xs) rfl a b
  refine ⟨k, hk, e, ?_⟩
  show rankOf p q xs = _
  unfold rankOf
  rw [if_neg hn, e]
theorem rank_nil (p q : Int) : valOf (.rank p q) [] = .non := by
  show rankOf p q [] = _
  unfold rankOf
  rw [if_pos rfl]
theorem valOf_is {g : Ag} {xs : List Int} (ok : g.Ok) : valOf g xs = .non ∨ ∃ k, valOf g xs = .int k := by
  cases g with
  | count => exact .inr ⟨_, rfl⟩
  | sum => exact .inr ⟨_, rfl⟩
  | among a b => exact .inr ⟨_, rfl⟩
  | rank p q =>
    by_cases hn : xs = []
    · rw [hn]
      exact .inl (rank_nil p q)
    · obtain ⟨h0, h1, h2, _⟩ := ok
      obtain ⟨k, _, _, e⟩ := rank_at hn h0 h1 h2
      exact .inr ⟨k, e⟩
theorem sum_snoc {xs : List Int} {i : Nat} {k : Int} (h : xs[i]? = some k) : (xs.take (i + 1)).sum = (xs.take i).sum + k := by
  rw [List.take_add_one, h, List.sum_append]
  show _ + ([k] : List Int).sum = _
  rw [List.sum_cons, List.sum_nil, Int.add_zero]

/-! pairs turned around, cut -/
theorem paired_rev {α β : Type} {R : α → β → Prop} : ∀ {xs : List α} {ys : List β}, Paired R xs ys → Paired R xs.reverse ys.reverse
  | _, _, .nil => .nil
  | x :: xs, y :: ys, .cons a r => by
    rw [List.reverse_cons, List.reverse_cons]
    exact (paired_rev r).snoc a
theorem paired_drp {α β : Type} {R : α → β → Prop} : ∀ {xs : List α} {ys : List β} (n : Nat), Paired R xs ys → Paired R (xs.drop n) (ys.drop n)
  | _, _, 0, h => h
  | _, _, _ + 1, .nil => .nil
  | _, _, n + 1, .cons _ r => paired_drp n r

/-! a list of letters that grows while draws are taken -/
structure Grow (d : Addr) (H : Hp) (F : Addr) (P : Lt → Prop) (Hc : Hp) (us : List Addr) (ls : List Lt) : Prop where
  dr : Dr d H Hc
  lst : Hc F = some (.lst (us.map V.ref))
  all : Paired (LtAt Hc) us ls
  good : ∀ l ∈ ls, P l
theorem Grow.draw {d F : Addr} {H Hc Hn : Hp} {P : Lt → Prop} {us : List Addr} {ls : List Lt} (I : Grow d H F P Hc us ls) (r : Dr d Hc Hn) (nd : F ≠ d) : Grow d H F P Hn us ls :=
  ⟨I.dr.trans r, r.keep _ _ nd I.lst, lts_kept (r.kt I.dr.at_) I.all, I.good⟩
theorem Grow.same {d F : Addr} {H Hc Hn : Hp} {P : Lt → Prop} {us : List Addr} {ls : List Lt} (I : Grow d H F P Hc us ls) (s : Same Hc Hn) : Grow d H F P Hn us ls :=
  ⟨I.dr.then s, s _ _ I.lst, same_lts s I.all, I.good⟩
theorem Grow.add {d F p : Addr} {H Hc Hn : Hp} {P : Lt → Prop} {us : List Addr} {ls : List Lt} {l : Lt} (I : Grow d H F P Hc us ls) (s : Same Hc Hn) (hp : LtAt Hn p l) (hl : P l) (nd : F ≠ d) (nH : H F = none) : Grow d H F P (upd Hn F (.lst (us.map V.ref ++ [.ref p]))) (us ++ [p]) (ls ++ [l]) := by
  have hF := s _ _ I.lst
  have kk := KT.trans (Same.kt s) (kt_lst (ys := us.map V.ref ++ [.ref p]) hF)
  refine ⟨(I.dr.then s).keepNew nd nH, by rw [upd_same, map_snoc], (lts_kept kk I.all).snoc (kt_lst (ys := us.map V.ref ++ [V.ref p]) hF p l.vals hp), fun x hx => ?_⟩
  rcases List.mem_append.mp hx with z | z
  · exact I.good x z
  · rw [List.mem_singleton.mp z]
    exact hl
/-- the letters of another list behind it, in a new list -/
theorem Grow.cat {d F G E : Addr} {H Hc Hn : Hp} {P : Lt → Prop} {us vs : List Addr} {ls ms : List Lt} (I : Grow d H F P Hc us ls) (r : Dr d Hc Hn) (nd : F ≠ d) (hv : Paired (LtAt Hn) vs ms) (gv : ∀ l ∈ ms, P l) (nE : Hn E = none) (nG : G = E) :
    Grow d H E P (upd Hn E (.lst (us.map V.ref ++ vs.map V.ref))) (us ++ vs) (ls ++ ms) := by
  have k := same_new (o := .lst (us.map V.ref ++ vs.map V.ref)) nE
  refine ⟨(I.dr.trans r).then k, by rw [upd_same, List.map_append], paired_app (same_lts k (lts_kept (r.kt I.dr.at_) I.all)) (same_lts k hv), fun x hx => ?_⟩
  rcases List.mem_append.mp hx with z | z
  · exact I.good x z
  · exact gv x z
/-- of a log of this name, with numbers that are not too small -/
def NameG (n : Str) (l : Lt) : Prop := l.Nn ∧ l.name = n
theorem cut_rd (us : List Addr) (n : Nat) : us.take n = us.take n := rfl
theorem pickO {xs : List (Option Int)} {k : Int} (h0 : 0 ≤ k) (h1 : k < xs.length) : ∃ v, v ∈ xs ∧ atI (xs.map optV) k = some (optV v) :=
  ⟨xs[k.toNat]'(by omega), List.getElem_mem _, atI_z (j := k.toNat) (by omega) (by rw [List.getElem?_map, List.getElem?_eq_getElem (by omega)]; rfl)⟩
theorem cut_lo {α : Type} (f : α → V) (xs : List α) (n : Nat) : cutV (xs.map f) none (some (n : Int)) = (xs.take n).map f := by
  rw [cutV_to, List.map_take]
theorem paired_mapN {P : Pl} {c : Int} {ls : List Lg} (h : HistOk P c ls) : ls.map Lg.name = P.ms.map Mt.name := by
  have key : ∀ {ms : List Mt} {ls : List Lg}, Paired (fun m x => LgOk m c x) ms ls → ls.map Lg.name = ms.map Mt.name := by
    intro ms ls h
    induction h with
    | nil => rfl
    | cons a _ ih => rw [List.map_cons, List.map_cons, ih, a.name]
  exact key h

def topS (i : Nat) : Stmt := PySem.Challenge.pw_toldwhensure_k13_bags_and_histories.main.body.getD i (.Pass ⟨0, 0, 0, 0⟩)
abbrev s_is_true : Stmt := topS 1
theorem sc_is_true : FnScope ["letter", "history", "kind", "name", "told", "offset", "slots", "low", "high"] ["letter", "history"] (defScope s_is_true) := ⟨rfl, rfl, rfl, by decide +kernel, rfl, by decide +kernel, by decide +kernel⟩
abbrev s_log_of : Stmt := topS 2
theorem sc_log_of : FnScope ["history", "name", "owner", "offset", "slots"] ["history", "name"] (defScope s_log_of) := ⟨rfl, rfl, rfl, by decide +kernel, rfl, by decide +kernel, by decide +kernel⟩
abbrev s_is_read_true : Stmt := topS 3
theorem sc_is_read_true : FnScope ["slots", "slot", "version", "stamp", "value", "true_stamp", "versions"] ["slots", "slot", "version", "stamp", "value"] (defScope s_is_read_true) := ⟨rfl, rfl, rfl, by decide +kernel, rfl, by decide +kernel, by decide +kernel⟩
abbrev s_is_close_true : Stmt := topS 4
theorem sc_is_close_true : FnScope ["slots", "many", "stamp", "versions", "before", "slot"] ["slots", "many", "stamp", "versions"] (defScope s_is_close_true) := ⟨rfl, rfl, rfl, by decide +kernel, rfl, by decide +kernel, by decide +kernel⟩
abbrev s_agrees : Stmt := topS 5
theorem sc_agrees : FnScope ["history", "letters", "letter"] ["history", "letters"] (defScope s_agrees) := ⟨rfl, rfl, rfl, by decide +kernel, rfl, by decide +kernel, by decide +kernel⟩
abbrev s_l_is_truth : Stmt := topS 7
theorem sc_l_is_truth : FnScope ["actual", "due"] ["actual", "due"] (defScope s_l_is_truth) := ⟨rfl, rfl, rfl, by decide +kernel, rfl, by decide +kernel, by decide +kernel⟩
abbrev s_l_draws : Stmt := topS 8
theorem sc_l_draws : FnScope ["script", "many", "cells", "rest", "draws", "k", "at", "once", "cell"] ["script", "many"] (defScope s_l_draws) := ⟨rfl, rfl, rfl, by decide +kernel, rfl, by decide +kernel, by decide +kernel⟩
abbrev s_l_take : Stmt := topS 9
theorem sc_l_take : FnScope ["draws", "many"] ["draws", "many"] (defScope s_l_take) := ⟨rfl, rfl, rfl, by decide +kernel, rfl, by decide +kernel, by decide +kernel⟩
abbrev s_l_cell : Stmt := topS 10
theorem sc_l_cell : FnScope ["script", "draws"] ["script", "draws"] (defScope s_l_cell) := ⟨rfl, rfl, rfl, by decide +kernel, rfl, by decide +kernel, by decide +kernel⟩
abbrev s_l_word : Stmt := topS 11
theorem sc_l_word : FnScope ["number", "word", "k"] ["number"] (defScope s_l_word) := ⟨rfl, rfl, rfl, by decide +kernel, rfl, by decide +kernel, by decide +kernel⟩
abbrev s_l_some_word : Stmt := topS 12
theorem sc_l_some_word : FnScope ["draws", "number", "great"] ["draws"] (defScope s_l_some_word) := ⟨rfl, rfl, rfl, by decide +kernel, rfl, by decide +kernel, by decide +kernel⟩
abbrev s_l_reading : Stmt := topS 13
theorem sc_l_reading : FnScope ["draws", "meter", "number"] ["draws", "meter"] (defScope s_l_reading) := ⟨rfl, rfl, rfl, by decide +kernel, rfl, by decide +kernel, by decide +kernel⟩
abbrev s_l_plan : Stmt := topS 14
theorem sc_l_plan : FnScope ["draws", "cell", "many", "meters", "name", "low", "wide", "length", "k"] ["draws", "cell"] (defScope s_l_plan) := ⟨rfl, rfl, rfl, by decide +kernel, rfl, by decide +kernel, by decide +kernel⟩
abbrev s_l_versions : Stmt := topS 15
theorem sc_l_versions : FnScope ["draws", "meter", "versions", "many", "k", "value"] ["draws", "meter"] (defScope s_l_versions) := ⟨rfl, rfl, rfl, by decide +kernel, rfl, by decide +kernel, by decide +kernel⟩
abbrev s_l_slots : Stmt := topS 16
theorem sc_l_slots : FnScope ["draws", "meter", "most", "cell", "stamp", "slots", "k", "step"] ["draws", "meter", "most", "cell"] (defScope s_l_slots) := ⟨rfl, rfl, rfl, by decide +kernel, rfl, by decide +kernel, by decide +kernel⟩
abbrev s_l_history : Stmt := topS 17
theorem sc_l_history : FnScope ["draws", "plan", "most", "cell", "logs", "meter", "offset", "slots"] ["draws", "plan", "most", "cell"] (defScope s_l_history) := ⟨rfl, rfl, rfl, by decide +kernel, rfl, by decide +kernel, by decide +kernel⟩
abbrev s_l_log : Stmt := topS 18
theorem sc_l_log : FnScope ["history", "name", "log"] ["history", "name"] (defScope s_l_log) := ⟨rfl, rfl, rfl, by decide +kernel, rfl, by decide +kernel, by decide +kernel⟩
abbrev s_l_is_true : Stmt := topS 19
theorem sc_l_is_true : FnScope ["letter", "history", "log", "slots", "slot", "k"] ["letter", "history"] (defScope s_l_is_true) := ⟨rfl, rfl, rfl, by decide +kernel, rfl, by decide +kernel, by decide +kernel⟩
abbrev s_l_close : Stmt := topS 20
theorem sc_l_close : FnScope ["draws", "log", "slots", "many", "far", "total", "low", "high", "slot"] ["draws", "log"] (defScope s_l_close) := ⟨rfl, rfl, rfl, by decide +kernel, rfl, by decide +kernel, by decide +kernel⟩
abbrev s_l_reads : Stmt := topS 21
theorem sc_l_reads : FnScope ["draws", "log", "share", "found", "j", "number", "i"] ["draws", "log", "share"] (defScope s_l_reads) := ⟨rfl, rfl, rfl, by decide +kernel, rfl, by decide +kernel, by decide +kernel⟩
abbrev s_l_every_close : Stmt := topS 22
theorem sc_l_every_close : FnScope ["log", "found", "total", "j", "stamp"] ["log"] (defScope s_l_every_close) := ⟨rfl, rfl, rfl, by decide +kernel, rfl, by decide +kernel, by decide +kernel⟩
abbrev s_l_bag : Stmt := topS 23
theorem sc_l_bag : FnScope ["draws", "history", "letters", "share", "log", "k", "close", "at"] ["draws", "history"] (defScope s_l_bag) := ⟨rfl, rfl, rfl, by decide +kernel, rfl, by decide +kernel, by decide +kernel⟩
abbrev s_l_spoilt_read : Stmt := topS 24
theorem sc_l_spoilt_read : FnScope ["draws", "meter", "letter", "kind", "step"] ["draws", "meter", "letter"] (defScope s_l_spoilt_read) := ⟨rfl, rfl, rfl, by decide +kernel, rfl, by decide +kernel, by decide +kernel⟩
abbrev s_l_spoilt : Stmt := topS 25
theorem sc_l_spoilt : FnScope ["draws", "meter", "letter", "step", "kind"] ["draws", "meter", "letter"] (defScope s_l_spoilt) := ⟨rfl, rfl, rfl, by decide +kernel, rfl, by decide +kernel, by decide +kernel⟩
abbrev s_l_changed : Stmt := topS 26
theorem sc_l_changed : FnScope ["draws", "plan", "letters", "most", "k", "at", "meter", "spoilt"] ["draws", "plan", "letters", "most"] (defScope s_l_changed) := ⟨rfl, rfl, rfl, by decide +kernel, rfl, by decide +kernel, by decide +kernel⟩
abbrev s_law : Stmt := topS 27
theorem sc_law : FnScope ["script", "draws", "cell", "plan", "history", "letters", "truths", "k", "due", "passed", "right", "letter"] ["script"] (defScope s_law) := ⟨rfl, rfl, rfl, by decide +kernel, rfl, by decide +kernel, by decide +kernel⟩
/-- what the top has left: where each def stands; the built-ins' names are not taken -/
structure Ctx (K : PySem.W.Frag) (mg : Str → Option Value) where
  f_is_true : Addr
  fd_is_true : FuncData
  F_is_true : Fun K "is_true" "is_true" s_is_true f_is_true fd_is_true
  b_is_true : Binds K fd_is_true ["letter", "history"] []
  g_is_true : mg "is_true" = some (.ref f_is_true)
  f_log_of : Addr
  fd_log_of : FuncData
  F_log_of : Fun K "_log_of" "_log_of" s_log_of f_log_of fd_log_of
  b_log_of : Binds K fd_log_of ["history", "name"] []
  g_log_of : mg "_log_of" = some (.ref f_log_of)
  f_is_read_true : Addr
  fd_is_read_true : FuncData
  F_is_read_true : Fun K "_is_read_true" "_is_read_true" s_is_read_true f_is_read_true fd_is_read_true
  b_is_read_true : Binds K fd_is_read_true ["slots", "slot", "version", "stamp", "value"] []
  g_is_read_true : mg "_is_read_true" = some (.ref f_is_read_true)
  f_is_close_true : Addr
  fd_is_close_true : FuncData
  F_is_close_true : Fun K "_is_close_true" "_is_close_true" s_is_close_true f_is_close_true fd_is_close_true
  b_is_close_true : Binds K fd_is_close_true ["slots", "many", "stamp", "versions"] []
  g_is_close_true : mg "_is_close_true" = some (.ref f_is_close_true)
  f_agrees : Addr
  fd_agrees : FuncData
  F_agrees : Fun K "agrees" "agrees" s_agrees f_agrees fd_agrees
  b_agrees : Binds K fd_agrees ["history", "letters"] []
  g_agrees : mg "agrees" = some (.ref f_agrees)
  f_l_is_truth : Addr
  fd_l_is_truth : FuncData
  F_l_is_truth : Fun K "_law_is_truth" "_law_is_truth" s_l_is_truth f_l_is_truth fd_l_is_truth
  b_l_is_truth : Binds K fd_l_is_truth ["actual", "due"] []
  g_l_is_truth : mg "_law_is_truth" = some (.ref f_l_is_truth)
  f_l_draws : Addr
  fd_l_draws : FuncData
  F_l_draws : Fun K "_law_draws" "_law_draws" s_l_draws f_l_draws fd_l_draws
  b_l_draws : Binds K fd_l_draws ["script", "many"] []
  g_l_draws : mg "_law_draws" = some (.ref f_l_draws)
  f_l_take : Addr
  fd_l_take : FuncData
  F_l_take : Fun K "_law_take" "_law_take" s_l_take f_l_take fd_l_take
  b_l_take : Binds K fd_l_take ["draws", "many"] []
  g_l_take : mg "_law_take" = some (.ref f_l_take)
  f_l_cell : Addr
  fd_l_cell : FuncData
  F_l_cell : Fun K "_law_cell" "_law_cell" s_l_cell f_l_cell fd_l_cell
  b_l_cell : Binds K fd_l_cell ["script", "draws"] []
  g_l_cell : mg "_law_cell" = some (.ref f_l_cell)
  f_l_word : Addr
  fd_l_word : FuncData
  F_l_word : Fun K "_law_word" "_law_word" s_l_word f_l_word fd_l_word
  b_l_word : Binds K fd_l_word ["number"] []
  g_l_word : mg "_law_word" = some (.ref f_l_word)
  f_l_some_word : Addr
  fd_l_some_word : FuncData
  F_l_some_word : Fun K "_law_some_word" "_law_some_word" s_l_some_word f_l_some_word fd_l_some_word
  b_l_some_word : Binds K fd_l_some_word ["draws"] []
  g_l_some_word : mg "_law_some_word" = some (.ref f_l_some_word)
  f_l_reading : Addr
  fd_l_reading : FuncData
  F_l_reading : Fun K "_law_reading" "_law_reading" s_l_reading f_l_reading fd_l_reading
  b_l_reading : Binds K fd_l_reading ["draws", "meter"] []
  g_l_reading : mg "_law_reading" = some (.ref f_l_reading)
  f_l_plan : Addr
  fd_l_plan : FuncData
  F_l_plan : Fun K "_law_plan" "_law_plan" s_l_plan f_l_plan fd_l_plan
  b_l_plan : Binds K fd_l_plan ["draws", "cell"] []
  g_l_plan : mg "_law_plan" = some (.ref f_l_plan)
  f_l_versions : Addr
  fd_l_versions : FuncData
  F_l_versions : Fun K "_law_versions" "_law_versions" s_l_versions f_l_versions fd_l_versions
  b_l_versions : Binds K fd_l_versions ["draws", "meter"] []
  g_l_versions : mg "_law_versions" = some (.ref f_l_versions)
  f_l_slots : Addr
  fd_l_slots : FuncData
  F_l_slots : Fun K "_law_slots" "_law_slots" s_l_slots f_l_slots fd_l_slots
  b_l_slots : Binds K fd_l_slots ["draws", "meter", "most", "cell"] []
  g_l_slots : mg "_law_slots" = some (.ref f_l_slots)
  f_l_history : Addr
  fd_l_history : FuncData
  F_l_history : Fun K "_law_history" "_law_history" s_l_history f_l_history fd_l_history
  b_l_history : Binds K fd_l_history ["draws", "plan", "most", "cell"] []
  g_l_history : mg "_law_history" = some (.ref f_l_history)
  f_l_log : Addr
  fd_l_log : FuncData
  F_l_log : Fun K "_law_log" "_law_log" s_l_log f_l_log fd_l_log
  b_l_log : Binds K fd_l_log ["history", "name"] []
  g_l_log : mg "_law_log" = some (.ref f_l_log)
  f_l_is_true : Addr
  fd_l_is_true : FuncData
  F_l_is_true : Fun K "_law_is_true" "_law_is_true" s_l_is_true f_l_is_true fd_l_is_true
  b_l_is_true : Binds K fd_l_is_true ["letter", "history"] []
  g_l_is_true : mg "_law_is_true" = some (.ref f_l_is_true)
  f_l_close : Addr
  fd_l_close : FuncData
  F_l_close : Fun K "_law_close" "_law_close" s_l_close f_l_close fd_l_close
  b_l_close : Binds K fd_l_close ["draws", "log"] []
  g_l_close : mg "_law_close" = some (.ref f_l_close)
  f_l_reads : Addr
  fd_l_reads : FuncData
  F_l_reads : Fun K "_law_reads" "_law_reads" s_l_reads f_l_reads fd_l_reads
  b_l_reads : Binds K fd_l_reads ["draws", "log", "share"] []
  g_l_reads : mg "_law_reads" = some (.ref f_l_reads)
  f_l_every_close : Addr
  fd_l_every_close : FuncData
  F_l_every_close : Fun K "_law_every_close" "_law_every_close" s_l_every_close f_l_every_close fd_l_every_close
  b_l_every_close : Binds K fd_l_every_close ["log"] []
  g_l_every_close : mg "_law_every_close" = some (.ref f_l_every_close)
  f_l_bag : Addr
  fd_l_bag : FuncData
  F_l_bag : Fun K "_law_bag" "_law_bag" s_l_bag f_l_bag fd_l_bag
  b_l_bag : Binds K fd_l_bag ["draws", "history"] []
  g_l_bag : mg "_law_bag" = some (.ref f_l_bag)
  f_l_spoilt_read : Addr
  fd_l_spoilt_read : FuncData
  F_l_spoilt_read : Fun K "_law_spoilt_read" "_law_spoilt_read" s_l_spoilt_read f_l_spoilt_read fd_l_spoilt_read
  b_l_spoilt_read : Binds K fd_l_spoilt_read ["draws", "meter", "letter"] []
  g_l_spoilt_read : mg "_law_spoilt_read" = some (.ref f_l_spoilt_read)
  f_l_spoilt : Addr
  fd_l_spoilt : FuncData
  F_l_spoilt : Fun K "_law_spoilt" "_law_spoilt" s_l_spoilt f_l_spoilt fd_l_spoilt
  b_l_spoilt : Binds K fd_l_spoilt ["draws", "meter", "letter"] []
  g_l_spoilt : mg "_law_spoilt" = some (.ref f_l_spoilt)
  f_l_changed : Addr
  fd_l_changed : FuncData
  F_l_changed : Fun K "_law_changed" "_law_changed" s_l_changed f_l_changed fd_l_changed
  b_l_changed : Binds K fd_l_changed ["draws", "plan", "letters", "most"] []
  g_l_changed : mg "_law_changed" = some (.ref f_l_changed)
  f_law : Addr
  fd_law : FuncData
  F_law : Fun K "law" "law" s_law f_law fd_law
  b_law : Binds K fd_law ["script"] []
  g_law : mg "law" = some (.ref f_law)
  m_abs : mg "abs" = none
  m_all : mg "all" = none
  m_bool : mg "bool" = none
  m_int : mg "int" = none
  m_isinstance : mg "isinstance" = none
  m_len : mg "len" = none
  m_list : mg "list" = none
  m_max : mg "max" = none
  m_min : mg "min" = none
  m_range : mg "range" = none
  m_set : mg "set" = none
  m_sorted : mg "sorted" = none
  m_sum : mg "sum" = none
  m_tuple : mg "tuple" = none
def sp_log_of (K : PySem.W.Frag) : Sp := fun vs H Q _ => ∃ (h : Addr) (ls : List Lg) (n : Str) (g : Lg) (r : List Lg), vs = [.ref h, .str n] ∧ HistAt H h ls ∧ ls.filter (fun g => decide (V.str g.name = V.str n)) = g :: r ∧ ∀ H' t ss us, Same H H' → H' t = some (.tup [.int g.off, .ref ss]) → H' ss = some (.tup (us.map V.ref)) → Paired (SlAt H') us g.slots → Q (.ref t) H'
section
variable {P : Program} {w : World} {K : PySem.W.Frag} {mg : Str → Option Value} {base : Heap}
theorem ok_log_of (T : Ctx K mg) : FnOk P w K mg base CX0 1 T.f_log_of T.fd_log_of ["history", "name"] (sp_log_of K) := by
  refine T.F_log_of.ok sc_log_of (fun vs H Q E h => ?_) (fun cdv A outer s H vs Q E hr h => ?_)
  · obtain ⟨h', ls, n, g, r, rfl, _⟩ := h
    rfl
  · obtain ⟨h0, ls, n, g, r, rfl, ⟨gs, hh, hgs⟩, ef, q⟩ := h
    refine ⟨_, (pss_cons (ps_for PassesOwn.never rfl (pi_tup (pv 0)) (pg_tup rfl (pgs_cons (pg_name (i := 2) sc_log_of.nd rfl (Or.inl rfl)) (pgs_cons (pg_name (i := 3) sc_log_of.nd rfl (Or.inl rfl)) (pgs_cons (pg_name (i := 4) sc_log_of.nd rfl (Or.inl rfl)) pgs_nil))))
        (pss_one (ps_if (pt_cmpR op_eq (pv 2) (pv 1) (nomark _))
        (pss_one (ps_ret (pe_tup (pa_cons (pv 3) (pa_cons (pv 4) pa_nil)))))
        pss_nil)))
      (pss_one (ps_ret pe_non))), ?_⟩
    have gl : gs.length = ls.length := hgs.length
    have hH : SqT K H h0 (gs.map V.ref) := .inl (.inl hh)
    refine ⟨.ref h0, rfl, h0, rfl, ⟨_, hH⟩, for_tup (K := K) (a := h0) (xs := gs.map V.ref) (fun i σ H' => ∃ y2 y3 y4 : Option V, σ = [some (.ref h0), some (.str n), y2, y3, y4] ∧ H' = H ∧ (ls.take i).filter (fun g => decide (V.str g.name = V.str n)) = []) ⟨none, none, none, rfl, rfl, rfl⟩ (fun i σ H' _ hp => ?_) (fun i x σ H' hx hp => ?_) (fun σ H' hp => ?_)⟩
    · obtain ⟨_, _, _, _, rfl, _⟩ := hp
      exact hH
    · obtain ⟨y2, y3, y4, rfl, rfl, h0'⟩ := hp
      rw [List.getElem?_map] at hx
      obtain ⟨ga, hga, rfl⟩ := Option.map_eq_some_iff.mp hx
      obtain ⟨x, hxi, ss, us, ha, hb, hc⟩ := lgs_at hgs hga
      refine ⟨ga, _, rfl, .inl (.inl ha), rfl, _, _, rfl, _, _, rfl, _, _, rfl, rfl, .str x.name, rfl, .str n, rfl, rfl, _, rfl, ite2 (fun e => ?_) (fun e => ?_)⟩
      · have ex := filter_first ef h0' hxi e
        subst ex
        exact ⟨.int x.off, rfl, .ref ss, rfl, small' (n := 2) (by decide), fun t nt => q _ t ss us (same_new nt) upd_same (same_new nt _ _ hb) (sls_kept (Same.kt (same_new nt)) hc)⟩
      · exact ⟨_, _, _, rfl, rfl, filter_none_snoc h0' hxi e⟩
    · obtain ⟨_, _, _, _, rfl, z⟩ := hp
      rw [List.length_map, gl, List.take_length, ef] at z
      cases z
end
def sp_is_read_true (K : PySem.W.Frag) : Sp := fun vs H Q _ => ∃ (ss : Addr) (us : List Addr) (xs : List Sl) (s v a : Int) (x : Option Int), vs = [.ref ss, .int s, .int v, .int a, optV x] ∧ H ss = some (.tup (us.map V.ref)) ∧ Paired (SlAt H) us xs ∧ 1 ≤ s ∧ 0 ≤ v ∧ Q (.bl (if s > (xs.length : Int) then false else readOf xs s v a x)) H
section
variable {P : Program} {w : World} {K : PySem.W.Frag} {mg : Str → Option Value} {base : Heap}
theorem ok_is_read_true (T : Ctx K mg) : FnOk P w K mg base CX0 1 T.f_is_read_true T.fd_is_read_true ["slots", "slot", "version", "stamp", "value"] (sp_is_read_true K) := by
  refine T.F_is_read_true.ok sc_is_read_true (fun vs H Q E h => ?_) (fun cdv A outer s H vs Q E hr h => ?_)
  · obtain ⟨ss, us, xs, s, v, a, x, rfl, _⟩ := h
    rfl
  · obtain ⟨ss, us, xs, s, v, a, x, rfl, hs, hp, n1, n2, q⟩ := h
    refine ⟨_, (pss_cons (ps_if (pt_cmpR op_gt (pv 1) (pe_callB call_len_seq (by rfl) T.m_len (by decide +kernel) (pa_cons (pv 0) pa_nil)) (nomark _))
        (pss_one (ps_ret pe_bl))
        pss_nil)
      (pss_cons (ps_asg (pe_ix ix_tup (pv 0) (pe_op op_sub (pv 1) pe_int) (fun _ _ => rfl)) (pg_tup (by rfl) (pgs_cons (pg_name (i := 5) sc_is_read_true.nd rfl (Or.inl rfl)) (pgs_cons (pg_name (i := 6) sc_is_read_true.nd rfl (Or.inl rfl)) pgs_nil))))
      (pss_one (ps_ret (pe_and (pe_cmpR op_eq (pv 3) (pv 5) (nomark _)) (pe_and (pe_cmpR op_lt (pv 2) (pe_callB call_len_seq (by rfl) T.m_len (by decide +kernel) (pa_cons (pv 6) pa_nil)) (nomark _)) (pe_one (pe_cmpR op_eq (pe_ix ix_tup (pv 6) (pv 2) (fun _ _ => rfl)) (pv 4) (nomark _))))))))), ?_⟩
    have ul : us.length = xs.length := hp.length
    have hS : SqT K H ss (us.map V.ref) := .inl (.inl hs)
    refine ⟨.int s, rfl, .ref ss, rfl, ss, _, rfl, .inr hS, _, _, rfl, rfl, _, rfl, ite2 (fun e => ?_) (fun e => ?_)⟩
    · have c : s > (xs.length : Int) := by
        have z := of_decide_eq_true e
        rw [List.length_map, ul] at z
        exact z
      rw [if_pos c] at q
      exact q
    have c : ¬ s > (xs.length : Int) := fun z => e (decide_eq_true (by rw [List.length_map, ul]; exact z))
    rw [if_neg c] at q
    have hi : (s - 1).toNat < us.length := by omega
    obtain ⟨z, hz, tv, hza, hzv⟩ := sls_at hp (List.getElem?_eq_getElem hi)
    have ats : atI (us.map V.ref) (s - 1) = some (.ref us[(s - 1).toNat]) := atI_z (j := (s - 1).toNat) (by omega) (by rw [List.getElem?_map, List.getElem?_eq_getElem hi]; rfl)
    generalize us[(s - 1).toNat] = sa at hza ats
    have hV : SqT K H tv (z.vers.map optV) := .inl (.inl hzv)
    have e3 : readOf xs s v a x = if z.stamp = a then (if v < z.vers.length then (match z.vers[v.toNat]? with | some y => decide (optV y = optV x) | none => false) else false) else false := by
      unfold readOf
      simp only [hz] <;> rfl
    rw [e3] at q
    refine ⟨.ref ss, rfl, .int s, rfl, _, _, rfl, rfl, ss, _, _, _, rfl, rfl, hS, ats, ?_⟩
    refine ⟨sa, _, rfl, .inl (.inl hza), rfl, _, _, rfl, _, _, rfl, rfl, ?_⟩
    refine ⟨.int a, rfl, .int z.stamp, rfl, rfl, _, rfl, ite2 (fun e => ?_) (fun e => ?_)⟩
    · have c1 : z.stamp = a := (V.int.inj (of_decide_eq_true e)).symm
      rw [if_pos c1] at q
      refine ⟨.int v, rfl, .ref tv, rfl, tv, _, rfl, .inr hV, _, _, rfl, rfl, _, rfl, ite2 (fun e => ?_) (fun e => ?_)⟩
      · have c2 : v < z.vers.length := by
          have y := of_decide_eq_true e
          rw [List.length_map] at y
          exact y
        rw [if_pos c2] at q
        have hv : z.vers[v.toNat]? = some (z.vers[v.toNat]'(by omega)) := List.getElem?_eq_getElem (by omega)
        generalize z.vers[v.toNat]'(by omega) = y at hv
        rw [hv] at q
        have atv : atI (z.vers.map optV) v = some (optV y) := atI_z (j := v.toNat) (by omega) (by rw [List.getElem?_map, hv]; rfl)
        exact ⟨.ref tv, rfl, .int v, rfl, tv, _, _, _, rfl, rfl, hV, atv, optV x, rfl, by cases y <;> cases x <;> rfl, q⟩
      · have c2 : ¬ v < z.vers.length := fun y => e (decide_eq_true (by rw [List.length_map]; exact y))
        rw [if_neg c2] at q
        exact q
    · have c1 : ¬ z.stamp = a := fun y => e (decide_eq_true (congrArg V.int y.symm))
      rw [if_neg c1] at q
      exact q
end
def sp_is_close_true (K : PySem.W.Frag) : Sp := fun vs H Q _ => ∃ (ss : Addr) (us : List Addr) (xs : List Sl) (f a w : Int), vs = [.ref ss, .int f, .int a, .int w] ∧ H ss = some (.tup (us.map V.ref)) ∧ Paired (SlAt H) us xs ∧ xs.length ≤ 1000 ∧ 0 ≤ f ∧ ∀ H', Same H H' → Q (.bl (if f > (xs.length : Int) then false else closeOf xs f a w)) H'
section
variable {P : Program} {w : World} {K : PySem.W.Frag} {mg : Str → Option Value} {base : Heap}
theorem ok_is_close_true (T : Ctx K mg) : FnOk P w K mg base CX0 1 T.f_is_close_true T.fd_is_close_true ["slots", "many", "stamp", "versions"] (sp_is_close_true K) := by
  refine T.F_is_close_true.ok sc_is_close_true (fun vs H Q E h => ?_) (fun cdv A outer s H vs Q E hr h => ?_)
  · obtain ⟨ss, us, xs, f, a, w, rfl, _⟩ := h
    rfl
  · obtain ⟨ss, us, xs, f, a, w, rfl, hs, hp, few, f0, q⟩ := h
    refine ⟨_, (pss_cons (ps_if (pt_cmpR op_gt (pv 1) (pe_callB call_len_seq (by rfl) T.m_len (by decide +kernel) (pa_cons (pv 0) pa_nil)) (nomark _))
        (pss_one (ps_ret pe_bl))
        pss_nil)
      (pss_cons (ps_set (i := 4) sc_is_close_true.nd rfl (.inl rfl) (pe_slice TX.sl_any (pv 0) po_none (po_some (pv 1))))
      (pss_one (ps_ret (pe_and (pe_callB (cr_all rfl) (by rfl) T.m_all (by decide +kernel) (pa_cons (pe_lc (own := [("slot", 5)]) (g := gName 5) (by rfl) sc_is_close_true.nd (pi_tup (pv 4)) (blkOk_by (own := [("slot", 5)]) (N := ["slots", "many", "stamp", "versions", "before", "slot"]) (sc := defScope s_is_close_true) (by decide +kernel)) (fun _ _ _ _ _ => pg_name (i := 5) sc_is_close_true.nd rfl (Or.inl rfl)) (fun _ _ _ _ _ => pts_nil) (fun _ _ _ _ _ => (pe_cmpR op_lt (pe_ix (show IxR _ (rIxT K) from ix_tup) (pv 5) pe_int (fun _ _ => rfl)) (pv 2) (nomark _)))) pa_nil)) (pe_and (pe_callB (cr_all rfl) (by rfl) T.m_all (by decide +kernel) (pa_cons (pe_lc (own := [("slot", 5)]) (g := gName 5) (by rfl) sc_is_close_true.nd (pi_tup (pe_slice TX.sl_any (pv 0) (po_some (pv 1)) po_none)) (blkOk_by (own := [("slot", 5)]) (N := ["slots", "many", "stamp", "versions", "before", "slot"]) (sc := defScope s_is_close_true) (by decide +kernel)) (fun _ _ _ _ _ => pg_name (i := 5) sc_is_close_true.nd rfl (Or.inl rfl)) (fun _ _ _ _ _ => pts_nil) (fun _ _ _ _ _ => (pe_cmpR op_ge (pe_ix (show IxR _ (rIxT K) from ix_tup) (pv 5) pe_int (fun _ _ => rfl)) (pv 2) (nomark _)))) pa_nil)) (pe_one (pe_cmpR op_eq (pe_callB (cr_sum rfl) (by rfl) T.m_sum (by decide +kernel) (pa_cons (pe_lc (own := [("slot", 5)]) (g := gName 5) (by rfl) sc_is_close_true.nd (pi_tup (pv 4)) (blkOk_by (own := [("slot", 5)]) (N := ["slots", "many", "stamp", "versions", "before", "slot"]) (sc := defScope s_is_close_true) (by decide +kernel)) (fun _ _ _ _ _ => pg_name (i := 5) sc_is_close_true.nd rfl (Or.inl rfl)) (fun _ _ _ _ _ => pts_nil) (fun _ _ _ _ _ => (pe_callB (show CallR _ _ (rLenK K) from call_len_seq) (by rfl) T.m_len (by decide +kernel) (pa_cons (pe_ix (show IxR _ (rIxT K) from ix_tup) (pv 5) pe_int (fun _ _ => rfl)) pa_nil)))) pa_nil)) (pv 3) (nomark _))))))))), ?_⟩
    have ul : us.length = xs.length := hp.length
    have hS : SqT K H ss (us.map V.ref) := .inl (.inl hs)
    refine ⟨.int f, rfl, .ref ss, rfl, ss, _, rfl, .inr hS, _, _, rfl, rfl, _, rfl, ite2 (fun e => ?_) (fun e => ?_)⟩
    · have c : f > (xs.length : Int) := by
        have z := of_decide_eq_true e
        rw [List.length_map, ul] at z
        exact z
      have q1 := q H (Same.refl H)
      rw [if_pos c] at q1
      exact q1
    have c : ¬ f > (xs.length : Int) := fun z => e (decide_eq_true (by rw [List.length_map, ul]; exact z))
    have q1 : ∀ H', Same H H' → Q (.bl (closeOf xs f a w)) H' := fun H' s => by
      have z := q H' s
      rw [if_neg c] at z
      exact z
    clear q
    refine ⟨.ref ss, rfl, .int f, rfl, f, rfl, ss, _, rfl, hS, fun b H1 s1 hb => ?_⟩
    rw [cut_toM V.ref us f f0] at hb
    -- all below
    have hp1 : Paired (SlAt H1) us xs := sls_kept (Same.kt s1) hp
    have tl : (us.take f.toNat).length = f.toNat := by rw [List.length_take]; omega
    have at1 : ∀ (H' : Hp) (i : Nat) (x : V), Same H1 H' → ((us.take f.toNat).map V.ref)[i]? = some x → ∃ (u : Addr) (z : Sl), x = .ref u ∧ SlAt H' u z ∧ (xs.take f.toNat)[i]? = some z := fun H' i x s hx => by
      rw [List.getElem?_map] at hx
      obtain ⟨u, hu, rfl⟩ := Option.map_eq_some_iff.mp hx
      have il := (List.getElem?_eq_some_iff.mp hu).1
      rw [List.getElem?_take, if_pos (by omega)] at hu
      obtain ⟨z, hz, hz2⟩ := sls_at hp1 hu
      exact ⟨u, z, rfl, hz2.kept (Same.kt s), by rw [List.getElem?_take, if_pos (by omega)]; exact hz⟩
    refine ⟨.ref b, rfl, b, rfl, ⟨_, hb⟩, fun C nC => lc_tup (K := K) (a := b) (xs := (us.take f.toNat).map V.ref) (fun i H' => Same H1 H' ∧ H' C = some (.lst (((xs.take f.toNat).take i).map fun s => V.bl (belowB a s))) ∧ i ≤ 1000) ⟨same_new nC, upd_same, Nat.zero_le _⟩ (fun i H' _ z => sqT_same z.1 hb) (fun i x H' hx z => ?_) (fun H' z => ?_)⟩
    · obtain ⟨s2, hC, _⟩ := z
      obtain ⟨u, z, rfl, hz, hzi⟩ := at1 H' i x s2 hx
      have il := (List.getElem?_eq_some_iff.mp hx).1
      rw [List.length_map, tl] at il
      obtain ⟨tv, hz1, hz2⟩ := hz
      refine ⟨rfl, .ref u, rfl, u, _, 0, _, rfl, rfl, .inl (.inl hz1), atI_nat (j := 0) rfl, .int a, rfl, _, _, rfl, rfl, _, hC, ?_, same_keep s2 nC, ?_, by omega⟩
      · rw [List.length_map, List.length_take, List.length_take]
        exact small (by omega)
      · rw [upd_same, map_take_snoc _ hzi]
        rfl
    obtain ⟨s2, hC, _⟩ := z
    rw [List.length_map, tl, List.take_of_length_le (by rw [List.length_take]; omega)] at hC
    have eC : ((xs.take f.toNat).map fun s => V.bl (belowB a s)) = ((xs.take f.toNat).map (belowB a)).map V.bl := by
      rw [List.map_map]
      rfl
    rw [eC] at hC
    refine ⟨C, _, rfl, .inl (.inl hC), ?_⟩
    rw [all_map_id]
    have s12 := s1.trans s2
    refine ⟨_, rfl, ite2 (fun e1 => ?_) (fun e1 => ?_)⟩
    case refine_2 =>
      have z := q1 H' s12
      unfold closeOf at z
      rw [Bool.eq_false_iff.mpr e1, Bool.false_and] at z
      exact z
    have q2 : ∀ H', Same H H' → Q (.bl ((xs.drop f.toNat).all (fromB a) && decide (V.int (vsum (xs.take f.toNat)) = V.int w))) H' := fun H' s => by
      have z := q1 H' s
      unfold closeOf at z
      rw [e1, Bool.true_and] at z
      exact z
    clear q1
    -- all from there on
    have hS2 : SqT K H' ss (us.map V.ref) := sqT_same s12 hS
    refine ⟨.ref ss, rfl, .int f, rfl, f, rfl, ss, _, rfl, hS2, fun e2 H3 s3 he => ?_⟩
    rw [cut_fromM V.ref us f f0] at he
    have s13 := s12.trans s3
    have hp3 : Paired (SlAt H3) us xs := sls_kept (Same.kt s13) hp
    have dl : (us.drop f.toNat).length = us.length - f.toNat := List.length_drop
    refine ⟨e2, rfl, ⟨_, he⟩, fun D nD => lc_tup (K := K) (a := e2) (xs := (us.drop f.toNat).map V.ref) (fun i H' => Same H3 H' ∧ H' D = some (.lst (((xs.drop f.toNat).take i).map fun s => V.bl (fromB a s))) ∧ i ≤ 1000) ⟨same_new nD, upd_same, Nat.zero_le _⟩ (fun i H' _ z => sqT_same z.1 he) (fun i x H' hx z => ?_) (fun H4 z => ?_)⟩
    · obtain ⟨s4, hD, _⟩ := z
      have il := (List.getElem?_eq_some_iff.mp hx).1
      rw [List.length_map, dl] at il
      rw [List.getElem?_map] at hx
      obtain ⟨u, hu, rfl⟩ := Option.map_eq_some_iff.mp hx
      rw [List.getElem?_drop] at hu
      obtain ⟨z, hzi, hz⟩ := sls_at hp3 hu
      have hzi' : (xs.drop f.toNat)[i]? = some z := by rw [List.getElem?_drop]; exact hzi
      obtain ⟨tv, hz1, hz2⟩ := hz.kept (Same.kt s4)
      refine ⟨rfl, .ref u, rfl, u, _, 0, _, rfl, rfl, .inl (.inl hz1), atI_nat (j := 0) rfl, .int a, rfl, _, _, rfl, rfl, _, hD, ?_, same_keep s4 nD, ?_, by omega⟩
      · rw [List.length_map, List.length_take, List.length_drop]
        exact small (by omega)
      · rw [upd_same, map_take_snoc _ hzi']
        rfl
    obtain ⟨s4, hD, _⟩ := z
    rw [List.length_map, dl, List.take_of_length_le (by rw [List.length_drop]; omega)] at hD
    have eD : ((xs.drop f.toNat).map fun s => V.bl (fromB a s)) = ((xs.drop f.toNat).map (fromB a)).map V.bl := by
      rw [List.map_map]
      rfl
    rw [eD] at hD
    refine ⟨D, _, rfl, .inl (.inl hD), ?_⟩
    rw [all_map_id]
    have s14 := s13.trans s4
    refine ⟨_, rfl, ite2 (fun e3 => ?_) (fun e3 => ?_)⟩
    case refine_2 =>
      have z := q2 H4 s14
      rw [Bool.eq_false_iff.mpr e3, Bool.false_and] at z
      exact z
    have q3 : ∀ H', Same H H' → Q (.bl (decide (V.int (vsum (xs.take f.toNat)) = V.int w))) H' := fun H' s => by
      have z := q2 H' s
      rw [e3, Bool.true_and] at z
      exact z
    clear q2
    -- versions
    have s24 : Same H1 H4 := (s2.trans s3).trans s4
    have hb4 : SqT K H4 b ((us.take f.toNat).map V.ref) := sqT_same s24 hb
    refine ⟨.ref b, rfl, b, rfl, ⟨_, hb4⟩, fun G nG => lc_tup (K := K) (a := b) (xs := (us.take f.toNat).map V.ref) (fun i H' => Same H4 H' ∧ H' G = some (.lst ((((xs.take f.toNat).take i).map fun s => (s.vers.length : Int)).map V.int)) ∧ i ≤ 1000) ⟨same_new nG, upd_same, Nat.zero_le _⟩ (fun i H' _ z => sqT_same z.1 hb4) (fun i x H' hx z => ?_) (fun H5 z => ?_)⟩
    · obtain ⟨s5, hG, _⟩ := z
      obtain ⟨u, z, rfl, hz, hzi⟩ := at1 H' i x (s24.trans s5) hx
      have il := (List.getElem?_eq_some_iff.mp hx).1
      rw [List.length_map, tl] at il
      obtain ⟨tv, hz1, hz2⟩ := hz
      refine ⟨rfl, .ref u, rfl, u, _, 1, _, rfl, rfl, .inl (.inl hz1), atI_nat (j := 1) rfl, tv, _, rfl, .inr (.inl (.inl hz2)), _, hG, ?_, same_keep s5 nG, ?_, by omega⟩
      · rw [List.length_map, List.length_map, List.length_take, List.length_take]
        exact small (by omega)
      · rw [upd_same, map_take_snoc (fun s => (s.vers.length : Int)) hzi, List.map_append, List.length_map]
        rfl
    obtain ⟨s5, hG, _⟩ := z
    rw [List.length_map, tl, List.take_of_length_le (by rw [List.length_take]; omega)] at hG
    exact ⟨G, _, rfl, .inl (.inl hG), .int w, rfl, rfl, q3 _ (s14.trans s5)⟩
end
def sp_is_true (K : PySem.W.Frag) : Sp := fun vs H Q _ => ∃ (t h : Addr) (l : Lt) (ls : List Lg) (g : Lg) (r : List Lg), vs = [.ref t, .ref h] ∧ LtAt H t l ∧ HistAt H h ls ∧ (∀ g ∈ ls, g.slots.length ≤ 1000) ∧ ls.filter (fun g => decide (V.str g.name = V.str l.name)) = g :: r ∧ l.Nn ∧ ∀ H', Same H H' → Q (.bl (trueIn g l)) H'
section
variable {P : Program} {w : World} {K : PySem.W.Frag} {mg : Str → Option Value} {base : Heap}
theorem ok_is_true (T : Ctx K mg) : FnOk P w K mg base CX0 2 T.f_is_true T.fd_is_true ["letter", "history"] (sp_is_true K) := by
  refine T.F_is_true.ok sc_is_true (fun vs H Q E h => ?_) (fun cdv A outer s H vs Q E hr h => ?_)
  · obtain ⟨t, h', l, ls, g, r, rfl, _⟩ := h
    rfl
  · obtain ⟨t, h0, l, ls, g, r, rfl, ht, hh, few, ef, nn, q⟩ := h
    refine ⟨_, (pss_cons (ps_asg (pv 0) (Star2.pg_star (i := 2) rfl (pgs_cons (pg_name (i := 2) sc_is_true.nd rfl (Or.inl rfl)) (pgs_cons (pg_name (i := 3) sc_is_true.nd rfl (Or.inl rfl)) (Star2.pgs_star (pg_name (i := 4) sc_is_true.nd rfl (Or.inl rfl)))))))
      (pss_cons (ps_asg (pe_call (ok_log_of T) (hr.mono (by decide)) (by rfl) T.g_log_of T.F_log_of.kp T.b_log_of .nil pass0 (pa_cons (pv 1) (pa_cons (pv 3) pa_nil))) (pg_tup (by rfl) (pgs_cons (pg_name (i := 5) sc_is_true.nd rfl (Or.inl rfl)) (pgs_cons (pg_name (i := 6) sc_is_true.nd rfl (Or.inl rfl)) pgs_nil))))
      (pss_cons (ps_if (pt_cmpR op_eq (pv 2) pe_str (nomark _))
        (pss_one (ps_ret (StX.pe_callS2 (FnOk.raw (ok_is_read_true T) T.b_is_read_true .nil) (hr.mono (by decide)) T.F_is_read_true.kp (by rfl) T.g_is_read_true pass0 (pa_cons (pv 6) (StX.pa_star (pv 4) pa_nil)))))
        pss_nil)
      (pss_cons (ps_if (pt_cmpR op_eq (pv 2) pe_str (nomark _))
        (pss_one (ps_ret (StX.pe_callS2 (FnOk.raw (ok_is_close_true T) T.b_is_close_true .nil) (hr.mono (by decide)) T.F_is_close_true.kp (by rfl) T.g_is_close_true pass0 (pa_cons (pv 6) (StX.pa_star (pv 4) pa_nil)))))
        pss_nil)
      (pss_cons (ps_asg (pv 4) (pg_lst (by rfl) (pgs_cons (pg_name (i := 7) sc_is_true.nd rfl (Or.inl rfl)) (pgs_cons (pg_name (i := 8) sc_is_true.nd rfl (Or.inl rfl)) pgs_nil))))
      (pss_one (ps_ret (pe_chain op_le op_le (pv 7) (pv 5) (pv 8))))))))), ?_⟩
    have ht' : H t = some (.tup (.str l.kind :: .str l.name :: l.nums.map optV)) := by rw [← Lt.vals_eq]; exact ht
    have gm : g ∈ ls := (List.mem_filter.mp (by rw [ef]; exact List.mem_cons_self)).1
    have fewg := few g gm
    refine ⟨.ref t, rfl, t, _, rfl, .inl (.inl ht'), by simp only [List.length_cons]; omega, fun N nN => ?_⟩
    have s1 := same_new (o := .lst (List.drop 2 (.str l.kind :: .str l.name :: l.nums.map optV))) nN
    have hN : upd H N (.lst (List.drop 2 (.str l.kind :: .str l.name :: l.nums.map optV))) N = some (.lst (l.nums.map optV)) := upd_same
    refine ⟨_, _, rfl, _, _, rfl, _, _, rfl, rfl, ?_⟩
    generalize upd H N (.lst (List.drop 2 (.str l.kind :: .str l.name :: l.nums.map optV))) = H1 at s1 hN ⊢
    refine ⟨.ref h0, rfl, .str l.name, rfl, h0, ls, l.name, g, r, rfl, hh.kept (Same.kt s1), ef, fun H2 tt ss us s2 h1 h2 h3 => ?_⟩
    refine ⟨tt, _, rfl, .inl (.inl h1), rfl, _, _, rfl, _, _, rfl, rfl, ?_⟩
    have s12 := s1.trans s2
    have hN2 := s2 _ _ hN
    cases l with
    | read n s v a x =>
      obtain ⟨n1, n2⟩ := nn
      refine ⟨.str "read", rfl, rfl, _, rfl, ite2 (fun _ => ?_) (fun e => absurd (decide_eq_true rfl) e)⟩
      exact ⟨.ref ss, rfl, .ref N, rfl, N, _, rfl, .inr (.inl (.inl hN2)), ss, us, g.slots, s, v, a, x, rfl, h2, h3, n1, n2, q _ s12⟩
    | close n f a w =>
      refine ⟨.str "close", rfl, rfl, _, rfl, ite2 (fun e => absurd e (by decide +kernel)) (fun _ => ?_)⟩
      refine ⟨.str "close", rfl, rfl, _, rfl, ite2 (fun _ => ?_) (fun e => absurd (decide_eq_true rfl) e)⟩
      exact ⟨.ref ss, rfl, .ref N, rfl, N, _, rfl, .inr (.inl (.inl hN2)), ss, us, g.slots, f, a, w, rfl, h2, h3, fewg, nn, fun H3 s3 => q _ (s12.trans s3)⟩
    | clock n lo hi =>
      have q1 := q _ s12
      refine ⟨.str "clock", rfl, rfl, _, rfl, ite2 (fun e => absurd e (by decide +kernel)) (fun _ => ?_)⟩
      refine ⟨.str "clock", rfl, rfl, _, rfl, ite2 (fun e => absurd e (by decide +kernel)) (fun _ => ?_)⟩
      refine ⟨.ref N, rfl, N, _, rfl, .inl (.inl hN2), rfl, _, _, rfl, _, _, rfl, rfl, ?_⟩
      refine ⟨.int lo, rfl, .int g.off, rfl, _, _, rfl, rfl, _, rfl, ite2 (fun e => ?_) (fun e => ?_)⟩
      · have c : lo ≤ g.off := of_decide_eq_true e
        have e2 : trueIn g (.clock n lo hi) = decide (g.off ≤ hi) := if_pos c
        rw [e2] at q1
        exact ⟨.int hi, rfl, _, _, rfl, rfl, q1⟩
      · have c : ¬ lo ≤ g.off := fun z => e (decide_eq_true z)
        have e2 : trueIn g (.clock n lo hi) = false := if_neg c
        rw [e2] at q1
        exact q1
end
def trueOf (ls : List Lg) (l : Lt) : Bool := match ls.filter (fun g => decide (V.str g.name = V.str l.name)) with
  | g :: _ => trueIn g l
  | [] => false
def Known (ls : List Lg) (l : Lt) : Prop := l.Nn ∧ ∃ g r, ls.filter (fun g => decide (V.str g.name = V.str l.name)) = g :: r
def sp_agrees (K : PySem.W.Frag) : Sp := fun vs H Q _ => ∃ (h t : Addr) (ls : List Lg) (us : List Addr) (bs : List Lt), vs = [.ref h, .ref t] ∧ HistAt H h ls ∧ (∀ g ∈ ls, g.slots.length ≤ 1000) ∧ (SqL K H t (us.map V.ref) ∨ SqT K H t (us.map V.ref)) ∧ Paired (LtAt H) us bs ∧ (∀ l ∈ bs, Known ls l) ∧ ∀ H', Same H H' → Q (.bl (bs.all (trueOf ls))) H'
section
variable {P : Program} {w : World} {K : PySem.W.Frag} {mg : Str → Option Value} {base : Heap}
set_option pp.maxSteps 150 in
theorem ok_agrees (T : Ctx K mg) : FnOk P w K mg base CX0 3 T.f_agrees T.fd_agrees ["history", "letters"] (sp_agrees K) := by
  refine T.F_agrees.ok sc_agrees (fun vs H Q E h => ?_) (fun cdv A outer s H vs Q E hr h => ?_)
  · obtain ⟨h', t, ls, us, bs, rfl, _⟩ := h
    rfl
  · obtain ⟨h0, t, ls, us, bs, rfl, hh, few, ht, hp, kn, q⟩ := h
    refine ⟨_, (pss_cons (ps_for PassesOwn.never rfl (Eith.pi_either (pv 1)) (pg_name (i := 2) sc_agrees.nd rfl (.inl rfl))
        (pss_one (ps_if (pt_not (pt_val (pe_call (ok_is_true T) (hr.mono (by decide)) (by rfl) T.g_is_true T.F_is_true.kp T.b_is_true .nil pass0 (pa_cons (pv 2) (pa_cons (pv 0) pa_nil)))))
        (pss_one (ps_ret pe_bl))
        pss_nil)))
      (pss_one (ps_ret pe_bl))), ?_⟩
    have ul : us.length = bs.length := hp.length
    rcases ht with ht | ht
    · refine .inl ⟨.ref t, rfl, t, rfl, ⟨_, ht⟩, for_list (K := K) (a := t) (xs := us.map V.ref) (fun i σ H' => ∃ y : Option V, σ = [some (.ref h0), some (.ref t), y] ∧ Same H H' ∧ (bs.take i).all (trueOf ls) = true) ⟨none, rfl, Same.refl _, by rw [List.take_zero]; rfl⟩ (fun i σ H' _ z => ?_) (fun i x σ H' hx z => ?_) (fun σ H' z => ?_)⟩
      · obtain ⟨_, _, s, _⟩ := z
        exact sqL_same s ht
      · obtain ⟨y, rfl, s, al⟩ := z
        rw [List.getElem?_map] at hx
        obtain ⟨u, hu, rfl⟩ := Option.map_eq_some_iff.mp hx
        obtain ⟨l, hl, hla⟩ := lts_at hp hu
        obtain ⟨nn, g, r, ef⟩ := kn l (List.mem_of_getElem? hl)
        have et : trueOf ls l = trueIn g l := by
          unfold trueOf
          rw [ef]
        refine ⟨.ref u, rfl, .ref h0, rfl, u, h0, l, ls, g, r, rfl, s _ _ hla, hh.kept (Same.kt s), few, ef, nn, fun H2 s2 => ?_⟩
        have e1 : (bs.take (i + 1)).all (trueOf ls) = trueIn g l := by
          rw [List.take_add_one, hl, List.all_append, al, Bool.true_and]
          show (trueOf ls l && true) = _
          rw [Bool.and_true, et]
        cases c : trueIn g l with
        | true =>
          refine ⟨true, rfl, iteF ⟨_, rfl, s.trans s2, ?_⟩⟩
          rw [e1, c]
        | false =>
          refine ⟨false, rfl, iteT ?_⟩
          have e2 : bs.all (trueOf ls) = false := by
            rw [List.all_eq_false]
            exact ⟨l, List.mem_of_getElem? hl, by rw [et, c]; exact Bool.false_ne_true⟩
          have q2 := q _ (s.trans s2)
          rw [e2] at q2
          exact q2
      · obtain ⟨y, rfl, s, al⟩ := z
        rw [List.length_map, ul, List.take_length] at al
        have q2 := q _ s
        rw [al] at q2
        exact q2
    · refine .inr ⟨.ref t, rfl, t, rfl, ⟨_, ht⟩, for_tup (K := K) (a := t) (xs := us.map V.ref) (fun i σ H' => ∃ y : Option V, σ = [some (.ref h0), some (.ref t), y] ∧ Same H H' ∧ (bs.take i).all (trueOf ls) = true) ⟨none, rfl, Same.refl _, by rw [List.take_zero]; rfl⟩ (fun i σ H' _ z => ?_) (fun i x σ H' hx z => ?_) (fun σ H' z => ?_)⟩
      · obtain ⟨_, _, s, _⟩ := z
        exact sqT_same s ht
      · obtain ⟨y, rfl, s, al⟩ := z
        rw [List.getElem?_map] at hx
        obtain ⟨u, hu, rfl⟩ := Option.map_eq_some_iff.mp hx
        obtain ⟨l, hl, hla⟩ := lts_at hp hu
        obtain ⟨nn, g, r, ef⟩ := kn l (List.mem_of_getElem? hl)
        have et : trueOf ls l = trueIn g l := by
          unfold trueOf
          rw [ef]
        refine ⟨.ref u, rfl, .ref h0, rfl, u, h0, l, ls, g, r, rfl, s _ _ hla, hh.kept (Same.kt s), few, ef, nn, fun H2 s2 => ?_⟩
        have e1 : (bs.take (i + 1)).all (trueOf ls) = trueIn g l := by
          rw [List.take_add_one, hl, List.all_append, al, Bool.true_and]
          show (trueOf ls l && true) = _
          rw [Bool.and_true, et]
        cases c : trueIn g l with
        | true =>
          refine ⟨true, rfl, iteF ⟨_, rfl, s.trans s2, ?_⟩⟩
          rw [e1, c]
        | false =>
          refine ⟨false, rfl, iteT ?_⟩
          have e2 : bs.all (trueOf ls) = false := by
            rw [List.all_eq_false]
            exact ⟨l, List.mem_of_getElem? hl, by rw [et, c]; exact Bool.false_ne_true⟩
          have q2 := q _ (s.trans s2)
          rw [e2] at q2
          exact q2
      · obtain ⟨y, rfl, s, al⟩ := z
        rw [List.length_map, ul, List.take_length] at al
        have q2 := q _ s
        rw [al] at q2
        exact q2
end
def sp_l_is_truth (K : PySem.W.Frag) : Sp := fun vs H Q _ => ∃ b : Bool, vs = [.bl b, .bl b] ∧ Q (.bl true) H
section
variable {P : Program} {w : World} {K : PySem.W.Frag} {mg : Str → Option Value} {base : Heap}
theorem ok_l_is_truth (T : Ctx K mg) : FnOk P w K mg base CX0 1 T.f_l_is_truth T.fd_l_is_truth ["actual", "due"] (sp_l_is_truth K) := by
  refine T.F_l_is_truth.ok sc_l_is_truth (fun vs H Q E h => ?_) (fun cdv A outer s H vs Q E hr h => ?_)
  · obtain ⟨b, rfl, _⟩ := h
    rfl
  · obtain ⟨b, rfl, q⟩ := h
    refine ⟨_, (pss_one (ps_ret (pe_and (pe_callB call_isi (by rfl) T.m_isinstance (by decide +kernel) (pa_cons (pv 0) (pa_cons (pe_bltn (v := .ty "bool") (by rfl) T.m_bool (by decide +kernel) rfl) pa_nil))) (pe_one (pe_cmpR op_eq (pv 0) (pv 1) (nomark _)))))), ?_⟩
    refine ⟨.bl b, rfl, .bl b, .ty "bool", .type "bool", .type "bool", true, rfl, .ty _, .base (.bl _), kit_ty (by decide +kernel), true, rfl, iteT ⟨.bl b, rfl, .bl b, rfl, rfl, ?_⟩⟩
    show Q (.bl (decide (V.bl b = V.bl b))) H
    rw [decide_eq_true rfl]
    exact q
end
def sp_l_draws (K : PySem.W.Frag) : Sp := fun vs H Q _ => ∃ (a : Addr) (ns : List Int) (m : Nat), vs = [.ref a, .int (m : Int)] ∧ SqL K H a (ns.map V.int) ∧ ns.length ≤ 1000 ∧ m ≤ 1000 ∧
  ∀ H' d, Same H H' → H d = none → DrA H' d → Q (.ref d) H'
section
variable {P : Program} {w : World} {K : PySem.W.Frag} {mg : Str → Option Value} {base : Heap}
theorem ok_l_draws (T : Ctx K mg) : FnOk P w K mg base CX0 1 T.f_l_draws T.fd_l_draws ["script", "many"] (sp_l_draws K) := by
  refine T.F_l_draws.ok sc_l_draws (fun vs H Q E h => ?_) (fun cdv A outer s H vs Q E hr h => ?_)
  · obtain ⟨a, ns, m, rfl, _⟩ := h
    rfl
  · obtain ⟨a, ns, m, rfl, hS, hlen, hm, q⟩ := h
    refine ⟨_, (pss_cons (ps_setLc (i := 2) (own := [("cell", 8)]) (g := gName 8) (by rfl) sc_l_draws.nd rfl rfl (sw_true rfl rfl rfl (by decide +kernel)) (pi_list (pv 0)) (blkOk_by (own := [("cell", 8)]) (N := ["script", "many", "cells", "rest", "draws", "k", "at", "once", "cell"]) (sc := defScope s_l_draws) (by decide +kernel)) (fun _ _ _ _ _ => pg_name (i := 8) sc_l_draws.nd rfl (Or.inl rfl)) (fun _ _ _ _ _ => pts_nil) (fun _ _ _ _ _ => (pe_callTy call_int1 (by rfl) T.m_int (by decide +kernel) (pa_cons (pv 8) pa_nil))))
      (pss_cons (ps_if (pt_cmpR op_eq (pe_callB call_len_seq (by rfl) T.m_len (by decide +kernel) (pa_cons (pv 2) pa_nil)) pe_int (nomark _))
        (pss_one (ps_expr (pe_bm PySem.F.plainAttrs_list PySem.F.slot_list_append PySem.F.type_list_append mt_append (pv 2) (pa_cons pe_int pa_nil))))
        pss_nil)
      (pss_cons (ps_set (i := 3) sc_l_draws.nd rfl (.inl rfl) (pe_callTy call_list_of (by rfl) T.m_list (by decide +kernel) (pa_cons (pv 2) pa_nil)))
      (pss_cons (ps_set (i := 4) sc_l_draws.nd rfl (.inl rfl) (pe_lst pa_nil))
      (pss_cons (ps_for PassesOwn.never rfl (pi_range1 (by rfl) T.m_range (pa_cons (pv 1) pa_nil)) (pg_name (i := 5) sc_l_draws.nd rfl (.inl rfl))
        (pss_cons (ps_set (i := 6) sc_l_draws.nd rfl (.inl rfl) (pe_op op_mod (pv 5) (pe_callB call_len_seq (by rfl) T.m_len (by decide +kernel) (pa_cons (pv 2) pa_nil))))
      (pss_one (ps_if (pt_cmpR op_ge (pe_ix ix_list (pv 2) (pv 6) (fun _ _ => rfl)) (pe_op op_pow pe_int pe_int) (nomark _))
        (pss_cons (ps_expr (pe_bm PySem.F.plainAttrs_list PySem.F.slot_list_append PySem.F.type_list_append mt_append (pv 4) (pa_cons (pe_op op_mod (pe_callTy call_int1 (by rfl) T.m_int (by decide +kernel) (pa_cons (pe_ix ix_list (pv 3) (pv 6) (fun _ _ => rfl)) pa_nil)) pe_int) pa_nil)))
      (pss_one (ps_asg (pe_op op_fdiv (pe_ix ix_list (pv 3) (pv 6) (fun _ _ => rfl)) pe_int) (pg_sub (pv 3) (pv 6) set_list))))
        (pss_cons (ps_set (i := 7) sc_l_draws.nd rfl (.inl rfl) (pe_op op_mod (pe_callTy call_int1 (by rfl) T.m_int (by decide +kernel) (pa_cons (pe_op op_add (pe_op op_add (pe_op op_mul (pe_ix ix_list (pv 2) (pv 6) (fun _ _ => rfl)) pe_int) (pe_op op_mul (pv 5) pe_int)) pe_int) pa_nil)) pe_int))
      (pss_one (ps_expr (pe_bm PySem.F.plainAttrs_list PySem.F.slot_list_append PySem.F.type_list_append mt_append (pv 4) (pa_cons (pe_op op_mod (pe_callTy call_int1 (by rfl) T.m_int (by decide +kernel) (pa_cons (pe_op op_add (pe_op op_add (pe_op op_mul (pv 7) (pv 7)) (pe_op op_mul pe_int (pv 7))) (pv 5)) pa_nil)) pe_int) pa_nil)))))))))
      (pss_cons (ps_expr (pe_bm0 PySem.F.plainAttrs_list PySem.F.slot_list_reverse PySem.F.type_list_reverse mt_reverse (pv 4)))
      (pss_one (ps_ret (pv 4))))))))), ?_⟩
    -- cells = [int(cell) for cell in script]
    refine ⟨.ref a, rfl, a, rfl, ⟨_, hS⟩, fun C hC => lc_list (K := K) (a := a) (xs := ns.map V.int) (fun i H1 => Same H H1 ∧ H1 C = some (.lst ((ns.take i).map V.int))) ⟨same_new hC, upd_same⟩ (fun i H1 _ p => p.1.seq hS) (fun i x H1 hx p => ?_) (fun H1 p => ?_)⟩
    · obtain ⟨hlt, hx'⟩ := List.getElem?_eq_some_iff.mp hx
      rw [List.length_map] at hlt
      have ex : x = .int ns[i] := by
        rw [← hx', List.getElem_map]
      subst ex
      refine ⟨rfl, _, rfl, .inl ⟨_, rfl, _, p.2, ?_, ?_, ?_⟩⟩
      · rw [List.length_map, List.length_take]
        exact small (by omega)
      · exact fun b o e => by
          rw [upd_ne (ne_of_none e hC)]
          exact p.1 b o e
      · rw [upd_same, List.take_add_one, List.getElem?_eq_getElem hlt, List.map_append]
        rfl
    · rw [List.length_map, List.take_length] at p
      obtain ⟨s1, hc⟩ := p
      refine ⟨.ref C, rfl, C, _, rfl, .inl (.inl (.inl hc)), rfl, _, rfl, ite2 (fun e => ?c1) (fun e => ?c2)⟩
      case' c1 =>
        have e0 : ns = [] := by
          have z : ((ns.map V.int).length : Int) = 0 := V.int.inj (of_decide_eq_true e)
          rw [List.length_map] at z
          exact List.length_eq_zero_iff.mp (by omega)
        subst e0
        refine ⟨.ref C, rfl, .inl ⟨rfl, _, .inl (.inl hc)⟩, C, _, _, rfl, rfl, hc, small (by decide), ?_⟩
        obtain ⟨H2, cs, hH, hcs, hcl, s2, hc2⟩ : ∃ (H2 : Hp) (cs : List Int), H2 = upd H1 C (.lst (List.map V.int [] ++ [.int 0])) ∧ cs ≠ [] ∧ cs.length ≤ 1000 ∧ Same H H2 ∧ H2 C = some (.lst (cs.map V.int)) :=
          ⟨_, [0], rfl, by simp, by decide, fun b o e => by rw [upd_ne (ne_of_none e hC)]; exact s1 b o e, upd_same⟩
        rw [← hH]
      case' c2 =>
        obtain ⟨H2, cs, hH, hcs, hcl, s2, hc2⟩ : ∃ (H2 : Hp) (cs : List Int), H2 = H1 ∧ cs ≠ [] ∧ cs.length ≤ 1000 ∧ Same H H2 ∧ H2 C = some (.lst (cs.map V.int)) :=
          ⟨H1, ns, rfl, fun z => by subst z; exact e (decide_eq_true rfl), hlen, s1, hc⟩
        rw [← hH]
      all_goals (
        have hcl0 : 0 < cs.length := by cases cs with | nil => exact absurd rfl hcs | cons x r => exact Nat.succ_pos _
        refine ⟨.ref C, rfl, C, _, rfl, .inl (.inl (.inl hc2)), fun r nr => ⟨Nat.zero_le _, fun D nD => ⟨.int m, rfl, m, rfl, by omega, by omega, ?_⟩⟩⟩
        have nrC : C ≠ r := ne_of_none hc2 nr
        have nDr : D ≠ r := fun e => by rw [e, upd_same] at nD; cases nD
        have nDC : C ≠ D := fun e => by rw [← e, upd_ne nrC, hc2] at nD; cases nD
        have nHD : H D = none := s2.free (by rw [upd_ne nDr] at nD; exact nD)
        have nHr : H r = none := s2.free nr
        refine for_range (lo := 0) (n := m) (fun i σ H3 => ∃ (y5 y6 y7 y8 : Option V) (rs ds : List Int), σ = [some (.ref a), some (.int m), some (.ref C), some (.ref r), some (.ref D), y5, y6, y7, y8] ∧
          Same H H3 ∧ H3 C = some (.lst (cs.map V.int)) ∧ H3 r = some (.lst (rs.map V.int)) ∧ rs.length = cs.length ∧ H3 D = some (.lst (ds.map V.int)) ∧ ds.length = i) ?_ (fun i σ H3 hi hp => ?_) (fun σ H3 hp => ?_)
        · refine ⟨none, none, none, none, cs, [], rfl, (s2.trans (same_new nr)).trans (same_new nD), ?_, ?_, rfl, upd_same, rfl⟩
          · rw [upd_ne nDC, upd_ne nrC]; exact hc2
          · rw [upd_ne nDr.symm, upd_same]
        · obtain ⟨y5, y6, y7, y8, rs, ds, rfl, s3, hC3, hr3, hrl, hD3, hdl⟩ := hp
          have e0 : (0 : Int) + (i : Int) = (i : Int) := by omega
          have hk0 : 0 ≤ ((0 : Int) + (i : Int)) % (cs.length : Int) := Int.emod_nonneg _ (by omega)
          have hk1 : ((0 : Int) + (i : Int)) % (cs.length : Int) < (cs.length : Int) := Int.emod_lt_of_pos _ (by omega)
          have hlenC : ((cs.map V.int).length : Int) = (cs.length : Int) := by rw [List.length_map]
          have hSC : SqL K H3 C (cs.map V.int) := .inl (.inl hC3)
          have hSr : SqL K H3 r (rs.map V.int) := .inl (.inl hr3)
          have more : ∀ (z : Int) (H4 : Hp), (∀ b o, H3 b = some o → b ≠ D → b ≠ r → H4 b = some o) → ∀ rs' : List Int, rs'.length = cs.length → H4 r = some (.lst (rs'.map V.int)) → H4 D = some (.lst (ds.map V.int ++ [.int z])) → ∀ y6 y7 : Option V,
              ∃ (z5 z6 z7 z8 : Option V) (rs ds : List Int), [some (.ref a), some (.int m), some (.ref C), some (.ref r), some (.ref D), some (.int ((0 : Int) + (i : Int))), y6, y7, y8] = [some (.ref a), some (.int m), some (.ref C), some (.ref r), some (.ref D), z5, z6, z7, z8] ∧
              Same H H4 ∧ H4 C = some (.lst (cs.map V.int)) ∧ H4 r = some (.lst (rs.map V.int)) ∧ rs.length = cs.length ∧ H4 D = some (.lst (ds.map V.int)) ∧ ds.length = i + 1 := fun z H4 k rs' hl' hr' hd' y6 y7 => by
            refine ⟨_, _, _, _, rs', ds ++ [z], rfl, fun b o e => k b o (s3 b o e) (ne_of_none e nHD) (ne_of_none e nHr), k C _ hC3 nDC nrC, hr', hl', ?_, ?_⟩
            · rw [hd', List.map_append]; rfl
            · rw [List.length_append, hdl]; rfl
          refine ⟨.int (0 + (i : Int)), rfl, .ref C, rfl, C, _, rfl, .inl hSC, _, _, rfl, rfl, by rw [hlenC]; omega, ?_⟩
          rw [hlenC]
          dsimp only
          generalize hkk : ((0 : Int) + (i : Int)) % (cs.length : Int) = kk at hk0 hk1 ⊢
          have hat : atI (cs.map V.int) kk = some (.int (cs[kk.toNat]'(by omega))) := atM_pos hk0 hk1
          have har : atI (rs.map V.int) kk = some (.int (rs[kk.toNat]'(by omega))) := atM_pos hk0 (by omega)
          generalize cs[kk.toNat]'(by omega) = cv at hat
          generalize rs[kk.toNat]'(by omega) = rv at har
          refine ⟨.ref C, rfl, .int kk, rfl, C, _, kk, _, rfl, rfl, hSC, hat, 10, 18, rfl, rfl, ⟨by decide, by decide, by decide⟩, _, _, rfl, rfl, _, rfl, ite2 (fun e => ?_) (fun e => ?_)⟩
          · have hge : (10 : Int) ^ (18 : Int).toNat ≤ cv := of_decide_eq_true e
            refine ⟨.ref D, rfl, .inl ⟨rfl, _, .inl (.inl hD3)⟩, .ref r, rfl, .int kk, rfl, r, _, kk, _, rfl, rfl, hSr, har, .inl ⟨_, rfl, _, _, rfl, rfl, (show (0 : Int) < 1000 by decide), D, _, _, rfl, rfl, hD3, ?_, ?_⟩⟩
            · rw [List.length_map]; exact small (by omega)
            · have nrD : r ≠ D := nDr.symm
              have hr4 : upd H3 D (.lst (ds.map V.int ++ [.int (rv % 1000)])) r = some (.lst (rs.map V.int)) := by rw [upd_ne nrD]; exact hr3
              have hj : ixN (rs.map V.int).length kk = some kk.toNat := by
                unfold ixN
                rw [if_pos hk0, if_pos (by rw [List.length_map]; omega)]
              refine ⟨.ref r, rfl, .int kk, rfl, r, _, kk, _, rfl, rfl, .inl (.inl hr4), har, _, _, rfl, rfl, ⟨by decide, by decide⟩, .ref r, rfl, .int kk, rfl, r, _, kk, _, rfl, rfl, hr4, hj, ?_⟩
              refine more (rv % 1000) _ (fun b o e n1 n2 => ?_) (rs.set kk.toNat (rv / 1000)) (by rw [List.length_set]; exact hrl) ?_ ?_ _ _
              · rw [upd_ne n2, upd_ne n1]; exact e
              · rw [upd_same, List.map_set]
              · rw [upd_ne nDr, upd_same]
          · refine ⟨.ref C, rfl, .int kk, rfl, C, _, kk, _, rfl, rfl, hSC, hat, _, _, rfl, rfl, .inr ⟨by decide, by decide⟩, .int (0 + (i : Int)), rfl, _, _, rfl, rfl, .inr ⟨by decide, by decide⟩, _, _, rfl, rfl, _, _, rfl, rfl, .inl ⟨_, rfl, _, _, rfl, rfl, (show (0 : Int) < 2147483647 by decide), ?_⟩⟩
            have o0 : 0 ≤ (cv * 48271 + (0 + (i : Int)) * 69621 + 11) % 2147483647 := Int.emod_nonneg _ (by decide)
            have o1 : (cv * 48271 + (0 + (i : Int)) * 69621 + 11) % 2147483647 < 2147483647 := Int.emod_lt_of_pos _ (by decide)
            dsimp only
            generalize (cv * 48271 + (0 + (i : Int)) * 69621 + 11) % 2147483647 = on at o0 o1 ⊢
            refine ⟨.ref D, rfl, .inl ⟨rfl, _, .inl (.inl hD3)⟩, .int on, rfl, .int on, rfl, _, _, rfl, rfl, .inl ⟨by omega, by omega⟩, .int on, rfl, _, _, rfl, rfl, .inl ⟨by decide, by decide⟩, _, _, rfl, rfl, .int (0 + (i : Int)), rfl, _, _, rfl, rfl, .inl ⟨_, rfl, _, _, rfl, rfl, (show (0 : Int) < 1000003 by decide), D, _, _, rfl, rfl, hD3, ?_, ?_⟩⟩
            · rw [List.length_map]; exact small (by omega)
            · exact more _ _ (fun b o e n1 n2 => by rw [upd_ne n1]; exact e) rs hrl (by rw [upd_ne nDr.symm]; exact hr3) upd_same _ _
        · obtain ⟨y5, y6, y7, y8, rs, ds, rfl, s3, hC3, hr3, hrl, hD3, hdl⟩ := hp
          refine ⟨.ref D, rfl, .inl ⟨rfl, _, .inl (.inl hD3)⟩, D, _, rfl, rfl, hD3, .ref D, rfl, ?_⟩
          refine q _ D (fun b o e => ?_) nHD ⟨ds.reverse, ?_⟩
          · rw [upd_ne (ne_of_none e nHD)]; exact s3 b o e
          · rw [upd_same, List.map_reverse])
end
def sp_l_take (K : PySem.W.Frag) : Sp := fun vs H Q _ => ∃ (d : Addr) (m : Int), vs = [.ref d, .int m] ∧ DrA H d ∧ 0 < m ∧ ∀ H' r, Dr d H H' → 0 ≤ r → r < m → Q (.int r) H'
section
variable {P : Program} {w : World} {K : PySem.W.Frag} {mg : Str → Option Value} {base : Heap}
theorem ok_l_take (T : Ctx K mg) : FnOk P w K mg base CX0 1 T.f_l_take T.fd_l_take ["draws", "many"] (sp_l_take K) := by
  refine T.F_l_take.ok sc_l_take (fun vs H Q E h => ?_) (fun cdv A outer s H vs Q E hr h => ?_)
  · obtain ⟨d, m, rfl, _⟩ := h
    rfl
  · obtain ⟨d, m, rfl, ⟨ns, hd⟩, hm, q⟩ := h
    refine ⟨_, (pss_cons (ps_if (pt_cmpR op_eq (pe_callB call_len_seq (by rfl) T.m_len (by decide +kernel) (pa_cons (pv 0) pa_nil)) pe_int (nomark _))
        (pss_one (ps_ret pe_int))
        pss_nil)
      (pss_one (ps_ret (pe_op op_mod (pe_callTy call_int1 (by rfl) T.m_int (by decide +kernel) (pa_cons (pe_bm0 PySem.F.plainAttrs_list PySem.F.slot_list_pop PySem.F.type_list_pop mt_pop (pv 0)) pa_nil)) (pv 1))))), ?_⟩
    have hS : SqL K H d (ns.map V.int) := .inl (.inl hd)
    refine ⟨.ref d, rfl, d, _, rfl, .inl hS, rfl, _, rfl, ite2 (fun e => ?_) (fun e => ?_)⟩
    · exact q H 0 ⟨fun _ _ _ h => h, ns, hd⟩ (Int.le_refl 0) hm
    · have hne : ns ≠ [] := fun z => by
        subst z
        exact e (decide_eq_true rfl)
      have hl : (ns.map V.int)[(ns.map V.int).length - 1]? = some (.int (ns.getLast hne)) := by
        rw [List.getElem?_map, List.length_map, at_last hne]
        rfl
      refine ⟨.ref d, rfl, .inl ⟨rfl, _, hS⟩, d, _, _, rfl, rfl, hd, hl, .inl ⟨_, rfl, .int m, rfl, _, _, rfl, rfl, hm, ?_⟩⟩
      rw [← List.map_dropLast]
      exact q _ _ (dr_upd _) (Int.emod_nonneg _ (by omega)) (Int.emod_lt_of_pos _ hm)
end
def sp_l_cell (K : PySem.W.Frag) : Sp := fun vs H Q _ => ∃ (a d : Addr) (ns : List Int), vs = [.ref a, .ref d] ∧ (∀ H', Dr d H H' → SqL K H' a (ns.map V.int)) ∧ DrA H d ∧
  ∀ H' c, Dr d H H' → (c = 0 ∨ c ∈ ns) → Q (.int c) H'
section
variable {P : Program} {w : World} {K : PySem.W.Frag} {mg : Str → Option Value} {base : Heap}
theorem ok_l_cell (T : Ctx K mg) : FnOk P w K mg base CX0 2 T.f_l_cell T.fd_l_cell ["script", "draws"] (sp_l_cell K) := by
  refine T.F_l_cell.ok sc_l_cell (fun vs H Q E h => ?_) (fun cdv A outer s H vs Q E hr h => ?_)
  · obtain ⟨a, d, ns, rfl, _⟩ := h
    rfl
  · obtain ⟨a, d, ns, rfl, hK, hd, q⟩ := h
    have hS := hK H (Dr.refl hd)
    refine ⟨_, (pss_cons (ps_if (pt_cmpR op_eq (pe_callB call_len_seq (by rfl) T.m_len (by decide +kernel) (pa_cons (pv 0) pa_nil)) pe_int (nomark _))
        (pss_one (ps_ret pe_int))
        pss_nil)
      (pss_one (ps_ret (pe_callTy call_int1 (by rfl) T.m_int (by decide +kernel) (pa_cons (pe_ix ix_list (pv 0) (pe_call (ok_l_take T) (hr.mono (by decide)) (by rfl) T.g_l_take T.F_l_take.kp T.b_l_take .nil pass0 (pa_cons (pv 1) (pa_cons (pe_callB call_len_seq (by rfl) T.m_len (by decide +kernel) (pa_cons (pv 0) pa_nil)) pa_nil))) (fun _ _ => rfl)) pa_nil))))), ?_⟩
    refine ⟨.ref a, rfl, a, _, rfl, .inl hS, rfl, _, rfl, ite2 (fun e => ?_) (fun e => ?_)⟩
    · exact q H 0 (Dr.refl hd) (.inl rfl)
    · have hne : ns ≠ [] := fun z => by
        subst z
        exact e (decide_eq_true rfl)
      have hl : 0 < ns.length := by cases ns with | nil => exact absurd rfl hne | cons x r => exact Nat.succ_pos _
      refine ⟨.ref a, rfl, .ref d, rfl, .ref a, rfl, a, _, rfl, .inl hS, d, _, rfl, hd, by rw [List.length_map]; omega, fun H1 r r1 h0 h1 => ?_⟩
      rw [List.length_map] at h1
      have hS1 : SqL K H1 a (ns.map V.int) := hK H1 r1
      exact ⟨a, _, r, _, rfl, rfl, hS1, atM_pos h0 h1, .inl ⟨_, rfl, q H1 _ r1 (.inr (List.getElem_mem _))⟩⟩
end
/-- the word of a number, sign by sign -/
def wcps : Nat → Int → List Nat → List Nat
  | 0, _, acc => acc
  | f + 1, n, acc => if n < 1 then acc else wcps f ((n - 1) / 26) ((97 + ((n - 1) % 26).toNat) :: acc)
def wordS (n : Int) : Str := ⟨(wcps 60 n []).toArray⟩
theorem wcps_stop : ∀ (f : Nat) (n : Int) (acc : List Nat), n < 1 → wcps f n acc = acc
  | 0, _, _, _ => rfl
  | f + 1, n, acc, h => by
    show (if n < 1 then acc else _) = acc
    rw [if_pos h]
def abc : Str := "abcdefghijklmnopqrstuvwxyz"
theorem abc_at : ∀ j : Nat, j < 26 → abc.cps.toList[j]? = some (97 + j) := by decide +kernel
theorem abc_len : abc.cps.toList.length = 26 := by decide +kernel
theorem wcps_isW : ∀ (f : Nat) (n : Int) (acc : List Nat), (∀ c ∈ acc, 97 ≤ c ∧ c ≤ 122) → (∀ c ∈ wcps f n acc, 97 ≤ c ∧ c ≤ 122) ∧ (wcps f n acc).length ≤ f + acc.length ∧ (acc ≠ [] → wcps f n acc ≠ [])
  | 0, n, acc, h => ⟨h, by show acc.length ≤ _; omega, fun z => z⟩
  | f + 1, n, acc, h => by
    by_cases c : n < 1
    · rw [wcps_stop _ _ _ c]
      exact ⟨h, by omega, fun z => z⟩
    · have e : wcps (f + 1) n acc = wcps f ((n - 1) / 26) ((97 + ((n - 1) % 26).toNat) :: acc) := if_neg c
      have h0 : 0 ≤ (n - 1) % 26 := Int.emod_nonneg _ (by decide)
      have h1 : (n - 1) % 26 < 26 := Int.emod_lt_of_pos _ (by decide)
      obtain ⟨a, b, d⟩ := wcps_isW f ((n - 1) / 26) ((97 + ((n - 1) % 26).toNat) :: acc) (fun x hx => by
        rcases List.mem_cons.mp hx with z | z
        · omega
        · exact h x z)
      rw [e]
      exact ⟨a, by simp only [List.length_cons] at b; omega, fun _ => d (List.cons_ne_nil _ _)⟩
theorem wordS_isW {n : Int} (h : 1 ≤ n) : IsW (wordS n) := by
  have e : wcps 60 n [] = wcps 59 ((n - 1) / 26) [97 + ((n - 1) % 26).toNat] := if_neg (by omega)
  have h0 : 0 ≤ (n - 1) % 26 := Int.emod_nonneg _ (by decide)
  have h1 : (n - 1) % 26 < 26 := Int.emod_lt_of_pos _ (by decide)
  obtain ⟨a, b, d⟩ := wcps_isW 59 ((n - 1) / 26) [97 + ((n - 1) % 26).toNat] (fun x hx => by
    rw [List.mem_singleton.mp hx]
    omega)
  rw [← e] at a b d
  refine ⟨by simpa [wordS] using d (by simp), by simpa [wordS] using a, ?_⟩
  show (wcps 60 n []).toArray.size ≤ 200
  simp only [List.size_toArray]
  simp only [List.length_cons, List.length_nil] at b
  omega
def sp_l_word (K : PySem.W.Frag) : Sp := fun vs H Q _ => ∃ n : Int, vs = [.int n] ∧ Q (.str (wordS n)) H
section
variable {P : Program} {w : World} {K : PySem.W.Frag} {mg : Str → Option Value} {base : Heap}
theorem ok_l_word (T : Ctx K mg) : FnOk P w K mg base CX0 1 T.f_l_word T.fd_l_word ["number"] (sp_l_word K) := by
  refine T.F_l_word.ok sc_l_word (fun vs H Q E h => ?_) (fun cdv A outer s H vs Q E hr h => ?_)
  · obtain ⟨n, rfl, _⟩ := h
    rfl
  · obtain ⟨n, rfl, q⟩ := h
    refine ⟨_, (pss_cons (ps_set (i := 1) sc_l_word.nd rfl (.inl rfl) pe_str)
      (pss_cons (ps_for PassesOwn.never rfl (pi_range1 (by rfl) T.m_range (pa_cons pe_int pa_nil)) (pg_name (i := 2) sc_l_word.nd rfl (.inl rfl))
        (pss_cons (ps_if (pt_cmpR op_lt (pv 0) pe_int (nomark _))
        (pss_one ps_break)
        pss_nil)
      (pss_cons (ps_set (i := 1) sc_l_word.nd rfl (.inl rfl) (pe_op op_add_str (pe_ix ix_str pe_str (pe_op op_mod (pe_callTy call_int1 (by rfl) T.m_int (by decide +kernel) (pa_cons (pe_op op_sub (pv 0) pe_int) pa_nil)) pe_int) (fun _ _ => rfl)) (pv 1)))
      (pss_one (ps_set (i := 0) sc_l_word.nd rfl (.inl rfl) (pe_op op_fdiv (pe_op op_sub (pv 0) pe_int) pe_int))))))
      (pss_one (ps_ret (pv 1))))), ?_⟩
    refine ⟨60, rfl, by decide, by decide, ?_⟩
    refine for_range (lo := 0) (n := 60) (fun i σ H3 => ∃ (m : Int) (acc : List Nat) (y2 : Option V), σ = [some (.int m), some (.str ⟨acc.toArray⟩), y2] ∧ H3 = H ∧ wcps 60 n [] = wcps (60 - i) m acc ∧ acc.length ≤ i) ⟨n, [], none, rfl, rfl, rfl, Nat.le_refl 0⟩ (fun i σ H3 hi hp => ?_) (fun σ H3 hp => ?_)
    · obtain ⟨m, acc, y2, rfl, rfl, hw, hl⟩ := hp
      refine ⟨.int m, rfl, _, _, rfl, rfl, _, rfl, ite2 (fun e => ?_) (fun e => ?_)⟩
      · have hm : m < 1 := of_decide_eq_true e
        rw [wcps_stop _ _ _ hm] at hw
        refine ⟨.str ⟨acc.toArray⟩, rfl, ?_⟩
        rw [← hw]
        exact q
      · have hm : ¬ m < 1 := fun z => e (decide_eq_true z)
        have h0 : 0 ≤ (m - 1) % 26 := Int.emod_nonneg _ (by decide)
        have h1 : (m - 1) % 26 < 26 := Int.emod_lt_of_pos _ (by decide)
        have hat : atI abc.cps.toList ((m - 1) % 26) = some (97 + ((m - 1) % 26).toNat) := by
          have ez : (m - 1) % 26 = (((m - 1) % 26).toNat : Int) := by omega
          have q := abc_at ((m - 1) % 26).toNat (by omega)
          rw [ez]
          exact atI_nat q
        refine ⟨.int m, rfl, _, _, rfl, rfl, .inl ⟨_, rfl, _, _, rfl, rfl, (show (0 : Int) < 26 by decide), abc, _, _, rfl, rfl, by decide +kernel, hat, .str ⟨acc.toArray⟩, rfl, _, _, rfl, rfl, ?_, .int m, rfl, _, _, rfl, rfl, _, _, rfl, rfl, ⟨by decide, by decide⟩, ?_⟩⟩
        · show 1 + acc.toArray.size ≤ sizeLine
          have : acc.toArray.size = acc.length := by simp
          rw [this]
          exact small' (by omega)
        · refine ⟨(m - 1) / 26, (97 + ((m - 1) % 26).toNat) :: acc, some (.int (0 + (i : Int))), ?_, rfl, ?_, by simp only [List.length_cons]; omega⟩
          · have ea : (⟨#[97 + ((m - 1) % 26).toNat]⟩ : Str) ++ ⟨acc.toArray⟩ = ⟨((97 + ((m - 1) % 26).toNat) :: acc).toArray⟩ := by
              show Str.mk (#[97 + ((m - 1) % 26).toNat] ++ acc.toArray) = _
              congr 1
              simp
            rw [ea]
            rfl
          · rw [hw]
            have ef : 60 - i = (60 - (i + 1)) + 1 := by omega
            rw [ef]
            show (if m < 1 then acc else _) = _
            rw [if_neg hm]
    · obtain ⟨m, acc, y2, rfl, rfl, hw, hl⟩ := hp
      refine ⟨.str ⟨acc.toArray⟩, rfl, ?_⟩
      have e : wordS n = ⟨acc.toArray⟩ := by
        unfold wordS
        rw [hw]
        rfl
      rw [← e]
      exact q
end
theorem isW_cat {a b : Str} (ha : ∀ c ∈ a.cps.toList, 97 ≤ c ∧ c ≤ 122) (hl : a.length ≤ 60) (hb : IsW b) (hb2 : b.length ≤ 100) : IsW (a ++ b) := by
  have e : (a ++ b).cps.toList = a.cps.toList ++ b.cps.toList := by
    show (a.cps ++ b.cps).toList = _
    simp
  refine ⟨?_, ?_, ?_⟩
  · rw [e]
    intro z
    exact hb.1 (List.append_eq_nil_iff.mp z).2
  · rw [e]
    intro c hc
    rcases List.mem_append.mp hc with z | z
    · exact ha c z
    · exact hb.2.1 c z
  · show (a.cps ++ b.cps).size ≤ 200
    rw [Array.size_append]
    have h1 : a.cps.size ≤ 60 := hl
    have h2 : b.cps.size ≤ 100 := hb2
    omega
theorem wordS_len (n : Int) : (wordS n).length ≤ 60 := by
  show (wcps 60 n []).toArray.size ≤ 60
  simp only [List.size_toArray]
  have h := (wcps_isW 60 n [] (fun _ z => nomatch z)).2.1
  simpa using h
theorem ljkl_ok : ∀ c ∈ (Str.ofString "abcdefghijkl").cps.toList, 97 ≤ c ∧ c ≤ 122 := by decide +kernel
theorem ljkl_len : (Str.ofString "abcdefghijkl").length ≤ 60 := by decide +kernel
def sp_l_some_word (K : PySem.W.Frag) : Sp := fun vs H Q _ => ∃ d : Addr, vs = [.ref d] ∧ DrA H d ∧ ∀ H' w, Dr d H H' → IsW w → Q (.str w) H'
section
variable {P : Program} {w : World} {K : PySem.W.Frag} {mg : Str → Option Value} {base : Heap}
theorem ok_l_some_word (T : Ctx K mg) : FnOk P w K mg base CX0 2 T.f_l_some_word T.fd_l_some_word ["draws"] (sp_l_some_word K) := by
  refine T.F_l_some_word.ok sc_l_some_word (fun vs H Q E h => ?_) (fun cdv A outer s H vs Q E hr h => ?_)
  · obtain ⟨d, rfl, _⟩ := h
    rfl
  · obtain ⟨d, rfl, hd, q⟩ := h
    refine ⟨_, (pss_cons (ps_set (i := 1) sc_l_some_word.nd rfl (.inl rfl) (pe_call (ok_l_take T) (hr.mono (by decide)) (by rfl) T.g_l_take T.F_l_take.kp T.b_l_take .nil pass0 (pa_cons (pv 0) (pa_cons pe_int pa_nil))))
      (pss_cons (ps_if (pt_cmpR op_lt (pv 1) pe_int (nomark _))
        (pss_one (ps_ret (pe_call (ok_l_word T) (hr.mono (by decide)) (by rfl) T.g_l_word T.F_l_word.kp T.b_l_word .nil pass0 (pa_cons (pe_op op_add (pe_op op_add pe_int (pe_op op_mod (pv 1) pe_int)) (pe_op op_mul pe_int (pe_op op_mod (pe_op op_fdiv (pv 1) pe_int) pe_int))) pa_nil))))
        pss_nil)
      (pss_cons (ps_if (pt_cmpR op_lt (pv 1) pe_int (nomark _))
        (pss_one (ps_ret (pe_call (ok_l_word T) (hr.mono (by decide)) (by rfl) T.g_l_word T.F_l_word.kp T.b_l_word .nil pass0 (pa_cons (pe_op op_add pe_int (pe_call (ok_l_take T) (hr.mono (by decide)) (by rfl) T.g_l_take T.F_l_take.kp T.b_l_take .nil pass0 (pa_cons (pv 0) (pa_cons pe_int pa_nil)))) pa_nil))))
        pss_nil)
      (pss_cons (ps_if (pt_cmpR op_lt (pv 1) pe_int (nomark _))
        (pss_one (ps_ret (pe_op op_add_str pe_str (pe_call (ok_l_word T) (hr.mono (by decide)) (by rfl) T.g_l_word T.F_l_word.kp T.b_l_word .nil pass0 (pa_cons (pe_op op_add pe_int (pe_call (ok_l_take T) (hr.mono (by decide)) (by rfl) T.g_l_take T.F_l_take.kp T.b_l_take .nil pass0 (pa_cons (pv 0) (pa_cons pe_int pa_nil)))) pa_nil)))))
        pss_nil)
      (pss_cons (ps_set (i := 2) sc_l_some_word.nd rfl (.inl rfl) (pe_op op_add (pe_op op_mul pe_int (pe_call (ok_l_take T) (hr.mono (by decide)) (by rfl) T.g_l_take T.F_l_take.kp T.b_l_take .nil pass0 (pa_cons (pv 0) (pa_cons pe_int pa_nil)))) (pe_op op_mul pe_int (pe_call (ok_l_take T) (hr.mono (by decide)) (by rfl) T.g_l_take T.F_l_take.kp T.b_l_take .nil pass0 (pa_cons (pv 0) (pa_cons pe_int pa_nil))))))
      (pss_cons (ps_if (pt_cmpR op_ge (pv 1) pe_int (nomark _))
        (pss_one (ps_set (i := 2) sc_l_some_word.nd rfl (.inl rfl) (pe_op op_mul (pv 2) (pe_op op_pow pe_int pe_int))))
        pss_nil)
      (pss_one (ps_ret (pe_call (ok_l_word T) (hr.mono (by decide)) (by rfl) T.g_l_word T.F_l_word.kp T.b_l_word .nil pass0 (pa_cons (pe_op op_add (pe_op op_add pe_int (pv 2)) (pe_call (ok_l_take T) (hr.mono (by decide)) (by rfl) T.g_l_take T.F_l_take.kp T.b_l_take .nil pass0 (pa_cons (pv 0) (pa_cons pe_int pa_nil)))) pa_nil)))))))))), ?_⟩
    refine ⟨.ref d, rfl, d, _, rfl, hd, by decide, fun H1 u r1 u0 u1 => ?_⟩
    refine ⟨_, rfl, _, _, rfl, rfl, _, rfl, ite2 (fun e => ?_) (fun e => ?_)⟩
    · exact ⟨_, rfl, _, _, rfl, rfl, (show (0 : Int) < 6 by decide), _, _, rfl, rfl, _, rfl, _, _, rfl, rfl, ⟨by decide, by decide⟩, _, _, rfl, rfl, (show (0 : Int) < 2 by decide), _, _, rfl, rfl, .inl ⟨by decide, by decide⟩, _, _, rfl, rfl, _, rfl, q _ _ r1 (wordS_isW (by omega))⟩
    refine ⟨_, rfl, _, _, rfl, rfl, _, rfl, ite2 (fun e => ?_) (fun e => ?_)⟩
    · exact ⟨.ref d, rfl, d, _, rfl, r1.at_, by decide, fun H2 v r2 v0 v1 => ⟨_, _, rfl, rfl, _, rfl, q _ _ (r1.trans r2) (wordS_isW (by omega))⟩⟩
    refine ⟨_, rfl, _, _, rfl, rfl, _, rfl, ite2 (fun e => ?_) (fun e => ?_)⟩
    · exact ⟨.ref d, rfl, d, _, rfl, r1.at_, by decide, fun H2 v r2 v0 v1 => ⟨_, _, rfl, rfl, _, rfl, _, _, rfl, rfl, small' (by have := ljkl_len; have := wordS_len (1 + v); omega), q _ _ (r1.trans r2) (isW_cat ljkl_ok ljkl_len (wordS_isW (by omega)) (by have := wordS_len (1 + v); omega))⟩⟩
    refine ⟨.ref d, rfl, d, _, rfl, r1.at_, by decide, fun H2 v r2 v0 v1 => ?_⟩
    refine ⟨_, _, rfl, rfl, .inl ⟨by decide, by decide⟩, .ref d, rfl, d, _, rfl, r2.at_, by decide, fun H3 x r3 x0 x1 => ?_⟩
    refine ⟨_, _, rfl, rfl, .inl ⟨by decide, by decide⟩, _, _, rfl, rfl, ?_⟩
    refine ⟨_, rfl, _, _, rfl, rfl, _, rfl, ite2 (fun e => ?_) (fun e => ?_)⟩
    · refine ⟨_, rfl, _, _, rfl, rfl, ⟨by decide, by decide, by decide⟩, _, _, rfl, rfl, .inl ⟨by omega, by omega⟩, ?_⟩
      refine ⟨_, rfl, _, _, rfl, rfl, .ref d, rfl, d, _, rfl, r3.at_, by decide, fun H4 y r4 y0 y1 => ⟨_, _, rfl, rfl, _, rfl, q _ _ (((r1.trans r2).trans r3).trans r4) (wordS_isW ?_)⟩⟩
      have z : 0 ≤ (1000000 * v + 1000 * x) * 10 ^ (15 : Int).toNat := Int.mul_nonneg (by omega) (by decide)
      omega
    · refine ⟨_, rfl, _, _, rfl, rfl, .ref d, rfl, d, _, rfl, r3.at_, by decide, fun H4 y r4 y0 y1 => ⟨_, _, rfl, rfl, _, rfl, q _ _ (((r1.trans r2).trans r3).trans r4) (wordS_isW (by omega))⟩⟩
end
def sp_l_reading (K : PySem.W.Frag) : Sp := fun vs H Q _ => ∃ (d t : Addr) (m : Mt), vs = [.ref d, .ref t] ∧ DrA H d ∧ MtAt H t m ∧ m.low ≤ m.high ∧ ∀ H' v, Dr d H H' → m.low ≤ v → v ≤ m.high → Q (.int v) H'
section
variable {P : Program} {w : World} {K : PySem.W.Frag} {mg : Str → Option Value} {base : Heap}
theorem ok_l_reading (T : Ctx K mg) : FnOk P w K mg base CX0 2 T.f_l_reading T.fd_l_reading ["draws", "meter"] (sp_l_reading K) := by
  refine T.F_l_reading.ok sc_l_reading (fun vs H Q E h => ?_) (fun cdv A outer s H vs Q E hr h => ?_)
  · obtain ⟨d, t, m, rfl, _⟩ := h
    rfl
  · obtain ⟨d, t, m, rfl, hd, hm, ho, q⟩ := h
    refine ⟨_, (pss_cons (ps_set (i := 2) sc_l_reading.nd rfl (.inl rfl) (pe_call (ok_l_take T) (hr.mono (by decide)) (by rfl) T.g_l_take T.F_l_take.kp T.b_l_take .nil pass0 (pa_cons (pv 0) (pa_cons pe_int pa_nil))))
      (pss_cons (ps_if (pt_cmpR op_eq (pe_op op_mod (pv 2) pe_int) pe_int (nomark _))
        (pss_one (ps_ret (pe_ix ix_tup (pv 1) pe_int (fun _ _ => rfl))))
        pss_nil)
      (pss_cons (ps_if (pt_cmpR op_eq (pe_op op_mod (pv 2) pe_int) pe_int (nomark _))
        (pss_one (ps_ret (pe_ix ix_tup (pv 1) pe_int (fun _ _ => rfl))))
        pss_nil)
      (pss_cons (ps_if (pt_cmpR op_eq (pe_op op_mod (pv 2) pe_int) pe_int (nomark _))
        (pss_one (ps_ret (pe_op op_fdiv (pe_op op_add (pe_ix ix_tup (pv 1) pe_int (fun _ _ => rfl)) (pe_ix ix_tup (pv 1) pe_int (fun _ _ => rfl))) pe_int)))
        pss_nil)
      (pss_one (ps_ret (pe_op op_add (pe_ix ix_tup (pv 1) pe_int (fun _ _ => rfl)) (pe_op op_mod (pe_op op_fdiv (pv 2) pe_int) (pe_op op_add (pe_op op_sub (pe_ix ix_tup (pv 1) pe_int (fun _ _ => rfl)) (pe_ix ix_tup (pv 1) pe_int (fun _ _ => rfl))) pe_int))))))))), ?_⟩
    refine ⟨.ref d, rfl, d, _, rfl, hd, by decide, fun H1 u r1 u0 u1 => ?_⟩
    have hT : SqT K H1 t [.str m.name, .int m.low, .int m.high, .int m.err] := .inl (.inl (r1.tup hd hm))
    refine ⟨.int u, rfl, _, _, rfl, rfl, (show (0 : Int) < 4 by decide), rfl, _, rfl, ite2 (fun e => ?_) (fun e => ?_)⟩
    · exact ⟨.ref t, rfl, t, _, 1, _, rfl, rfl, hT, atI_nat (j := 1) rfl, q _ _ r1 (Int.le_refl _) ho⟩
    refine ⟨.int u, rfl, _, _, rfl, rfl, (show (0 : Int) < 4 by decide), rfl, _, rfl, ite2 (fun e => ?_) (fun e => ?_)⟩
    · exact ⟨.ref t, rfl, t, _, 2, _, rfl, rfl, hT, atI_nat (j := 2) rfl, q _ _ r1 ho (Int.le_refl _)⟩
    refine ⟨.int u, rfl, _, _, rfl, rfl, (show (0 : Int) < 16 by decide), rfl, _, rfl, ite2 (fun e => ?_) (fun e => ?_)⟩
    · refine ⟨.ref t, rfl, t, _, 1, _, rfl, rfl, hT, atI_nat (j := 1) rfl, .ref t, rfl, t, _, 2, _, rfl, rfl, hT, atI_nat (j := 2) rfl, _, _, rfl, rfl, _, _, rfl, rfl, ⟨by decide, by decide⟩, q _ _ r1 ?_ ?_⟩
      · show m.low ≤ (m.low + m.high) / 2
        omega
      · show (m.low + m.high) / 2 ≤ m.high
        omega
    · have p : 0 < m.high - m.low + 1 := by omega
      refine ⟨.ref t, rfl, t, _, 1, _, rfl, rfl, hT, atI_nat (j := 1) rfl, .int u, rfl, _, _, rfl, rfl, ⟨by decide, by decide⟩, .ref t, rfl, t, _, 2, _, rfl, rfl, hT, atI_nat (j := 2) rfl, .ref t, rfl, t, _, 1, _, rfl, rfl, hT, atI_nat (j := 1) rfl, _, _, rfl, rfl, _, _, rfl, rfl, _, _, rfl, rfl, p, _, _, rfl, rfl, ?_⟩
      have a0 := Int.emod_nonneg (u / 4) (Int.ne_of_gt p)
      have a1 := Int.emod_lt_of_pos (u / 4) p
      exact q _ _ r1 (by show m.low ≤ m.low + u / 4 % (m.high - m.low + 1); omega) (by show m.low + u / 4 % (m.high - m.low + 1) ≤ m.high; omega)
end
def sp_l_plan (K : PySem.W.Frag) : Sp := fun vs H Q _ => ∃ (d : Addr) (c : Int), vs = [.ref d, .int c] ∧ DrA H d ∧
  ∀ H' p tm ts P, Dr d H H' → PlanAt H' p tm ts P → PlanOk c P → (∀ m ∈ P.ms, IsW m.name) → Q (.ref p) H'
section
variable {P : Program} {w : World} {K : PySem.W.Frag} {mg : Str → Option Value} {base : Heap}
theorem ok_l_plan (T : Ctx K mg) : FnOk P w K mg base CX0 3 T.f_l_plan T.fd_l_plan ["draws", "cell"] (sp_l_plan K) := by
  refine T.F_l_plan.ok sc_l_plan (fun vs H Q E h => ?_) (fun cdv A outer s H vs Q E hr h => ?_)
  · obtain ⟨d, c, rfl, _⟩ := h
    rfl
  · obtain ⟨d, c, rfl, hd, q⟩ := h
    refine ⟨_, (pss_cons (ps_set (i := 2) sc_l_plan.nd rfl (.inl rfl) (pe_op op_add pe_int (pe_call (ok_l_take T) (hr.mono (by decide)) (by rfl) T.g_l_take T.F_l_take.kp T.b_l_take .nil pass0 (pa_cons (pv 0) (pa_cons pe_int pa_nil)))))
      (pss_cons (ps_if (pt_cmpR op_eq (pe_call (ok_l_take T) (hr.mono (by decide)) (by rfl) T.g_l_take T.F_l_take.kp T.b_l_take .nil pass0 (pa_cons (pv 0) (pa_cons pe_int pa_nil))) pe_int (nomark _))
        (pss_one (ps_set (i := 2) sc_l_plan.nd rfl (.inl rfl) (pe_op op_add (pv 2) pe_int)))
        pss_nil)
      (pss_cons (ps_set (i := 3) sc_l_plan.nd rfl (.inl rfl) (pe_lst pa_nil))
      (pss_cons (ps_for PassesOwn.never rfl (pi_list (pe_callB (Tset.cr_sortedSetS rfl) (by rfl) T.m_sorted (by decide +kernel) (pa_cons (pe_callTy (Tset.cr_setOfS rfl) (by rfl) T.m_set (by decide +kernel) (pa_cons (pe_lc (own := [("k", 8)]) (g := gName 8) (by rfl) sc_l_plan.nd (pi_range1 (by rfl) T.m_range (pa_cons (pv 2) pa_nil)) (blkOk_by (own := [("k", 8)]) (N := ["draws", "cell", "many", "meters", "name", "low", "wide", "length", "k"]) (sc := defScope s_l_plan) (by decide +kernel)) (fun _ _ _ _ _ => pg_name (i := 8) sc_l_plan.nd rfl (Or.inl rfl)) (fun _ _ _ _ _ => pts_nil) (fun _ _ _ _ _ => (pe_call (ok_l_some_word T) (hr.mono (by decide)) (by rfl) T.g_l_some_word T.F_l_some_word.kp T.b_l_some_word .nil pass0 (pa_cons (pv 0) pa_nil)))) pa_nil)) pa_nil))) (pg_name (i := 4) sc_l_plan.nd rfl (.inl rfl))
        (pss_cons (ps_set (i := 5) sc_l_plan.nd rfl (.inl rfl) (pe_ix ix_list (pe_lst (pa_cons (pe_op op_sub (pe_call (ok_l_take T) (hr.mono (by decide)) (by rfl) T.g_l_take T.F_l_take.kp T.b_l_take .nil pass0 (pa_cons (pv 0) (pa_cons pe_int pa_nil))) pe_int) (pa_cons (pv 1) pa_nil))) (pe_op op_fdiv (pe_call (ok_l_take T) (hr.mono (by decide)) (by rfl) T.g_l_take T.F_l_take.kp T.b_l_take .nil pass0 (pa_cons (pv 0) (pa_cons pe_int pa_nil))) pe_int) (fun _ _ => rfl)))
      (pss_cons (ps_set (i := 6) sc_l_plan.nd rfl (.inl rfl) (pe_ix ix_list (pe_lst (pa_cons pe_int (pa_cons pe_int (pa_cons pe_int (pa_cons pe_int (pa_cons pe_int (pa_cons pe_int (pa_cons (pe_op op_pow pe_int pe_int) (pa_cons (pe_callB call_abs (by rfl) T.m_abs (by decide +kernel) (pa_cons (pv 1) pa_nil)) pa_nil))))))))) (pe_call (ok_l_take T) (hr.mono (by decide)) (by rfl) T.g_l_take T.F_l_take.kp T.b_l_take .nil pass0 (pa_cons (pv 0) (pa_cons pe_int pa_nil))) (fun _ _ => rfl)))
      (pss_one (ps_expr (pe_bm PySem.F.plainAttrs_list PySem.F.slot_list_append PySem.F.type_list_append mt_append (pv 3) (pa_cons (pe_tup (pa_cons (pv 4) (pa_cons (pv 5) (pa_cons (pe_op op_add (pv 5) (pv 6)) (pa_cons (pe_ix ix_list (pe_lst (pa_cons pe_int (pa_cons pe_int (pa_cons pe_int (pa_cons pe_int (pa_cons pe_int (pa_cons pe_int pa_nil))))))) (pe_call (ok_l_take T) (hr.mono (by decide)) (by rfl) T.g_l_take T.F_l_take.kp T.b_l_take .nil pass0 (pa_cons (pv 0) (pa_cons pe_int pa_nil))) (fun _ _ => rfl)) pa_nil))))) pa_nil)))))))
      (pss_cons (ps_set (i := 7) sc_l_plan.nd rfl (.inl rfl) (pe_ix ix_list (pe_lst (pa_cons pe_int (pa_cons pe_int (pa_cons pe_int (pa_cons pe_int (pa_cons pe_int (pa_cons (pe_op op_add pe_int (pe_callB call_abs (by rfl) T.m_abs (by decide +kernel) (pa_cons (pv 1) pa_nil))) pa_nil))))))) (pe_call (ok_l_take T) (hr.mono (by decide)) (by rfl) T.g_l_take T.F_l_take.kp T.b_l_take .nil pass0 (pa_cons (pv 0) (pa_cons pe_int pa_nil))) (fun _ _ => rfl)))
      (pss_one (ps_ret (pe_tup (pa_cons (pv 7) (pa_cons (pe_callTy call_tuple_of (by rfl) T.m_tuple (by decide +kernel) (pa_cons (pv 3) pa_nil)) pa_nil)))))))))), ?_⟩
    refine ⟨.ref d, rfl, d, _, rfl, hd, by decide, fun H1 u r1 u0 u1 => ⟨_, _, rfl, rfl, ?_⟩⟩
    refine ⟨.ref d, rfl, d, _, rfl, r1.at_, by decide, fun H2 v r2 v0 v1 => ⟨rfl, _, rfl, ite2 (fun e => ?c1) (fun e => ?c2)⟩⟩
    case' c1 =>
      refine ⟨_, rfl, _, _, rfl, rfl, ?_⟩
      dsimp only
      obtain ⟨mn, emn, m0, m1⟩ : ∃ mn : Int, mn = 1 + u + 3 ∧ 1 ≤ mn ∧ mn ≤ 6 := ⟨_, rfl, by omega, by omega⟩
      rw [← emn]
    case' c2 =>
      dsimp only
      obtain ⟨mn, emn, m0, m1⟩ : ∃ mn : Int, mn = 1 + u ∧ 1 ≤ mn ∧ mn ≤ 6 := ⟨_, rfl, by omega, by omega⟩
      rw [← emn]
    all_goals (
      refine ⟨Nat.zero_le _, fun M nM => ?_⟩
      have r12 := r1.trans r2
      have rM : Dr d H (upd H2 M (.lst [])) := r12.then (same_new nM)
      have nMd : M ≠ d := r12.ne nM
      refine ⟨.int mn, rfl, mn, rfl, by omega, by omega, fun C nC => ?_⟩
      have nCd : C ≠ d := rM.ne nC
      have nCM : C ≠ M := fun z => by rw [z, upd_same] at nC; cases nC
      refine lc_range (lo := 0) (n := mn.toNat) (fun i H3 => Dr d H H3 ∧ H3 M = some (.lst []) ∧ ∃ ws : List Str, H3 C = some (.lst (ws.map V.str)) ∧ ws.length = i ∧ ∀ w ∈ ws, IsW w) ⟨rM.then (same_new nC), by rw [upd_ne nCM.symm, upd_same], [], upd_same, rfl, fun _ z => nomatch z⟩ (fun i H3 hi hp => ?_) (fun H3 hp => ?_)
      · obtain ⟨r3, hM3, ws, hC3, hwl, hws⟩ := hp
        refine ⟨rfl, .ref d, rfl, d, rfl, r3.at_, fun H4 wd r4 hw => ⟨_, r4.keep _ _ nCd hC3, ?_, r3.trans r4 |>.keepNew nCd ?_, ?_, ws ++ [wd], ?_, ?_, ?_⟩⟩
        · rw [List.length_map]
          exact small (by omega)
        · exact rM.free hd nC
        · rw [upd_ne nCM.symm]
          exact r4.keep _ _ nMd hM3
        · rw [upd_same, List.map_append]
          rfl
        · rw [List.length_append, hwl]
          rfl
        · intro w hm
          rcases List.mem_append.mp hm with z | z
          · exact hws w z
          · rw [List.mem_singleton.mp z]
            exact hw
      · obtain ⟨r3, hM3, ws, hC3, hwl, hws⟩ := hp
        refine ⟨C, ws, rfl, .inl (.inl hC3), by omega, fun S ls nS hm hll => ⟨S, ls, rfl, upd_same, by omega, fun ys L pm nd so nL => ?_⟩⟩
        have nSd : S ≠ d := r3.ne nS
        have rS := r3.then (same_new (o := Tset.SetS P w S ls) nS)
        have nLd : L ≠ d := rS.ne nL
        have nMS : M ≠ S := ne_of_none hM3 nS
        have hMS : upd H3 S (Tset.SetS P w S ls) M = some (.lst []) := by rw [upd_ne nMS]; exact hM3
        have nML : M ≠ L := ne_of_none hMS nL
        have ysW : ∀ y ∈ ys, IsW y := fun y hy => hws y ((hm y).mp (pm.mem_iff.mp hy))
        have ysl : ys.length ≤ 6 := by rw [pm.length_eq]; omega
        have ysne : ys ≠ [] := fun z => by
          rw [z] at pm
          have e0 : ls = [] := List.length_eq_zero_iff.mp (by have := pm.length_eq; simpa using this.symm)
          have : 0 < ws.length := by omega
          cases ws with
          | nil => exact absurd this (by decide)
          | cons x r =>
            have := (hm x).mpr List.mem_cons_self
            rw [e0] at this
            cases this
        refine ⟨L, rfl, ⟨_, .inl (.inl upd_same)⟩, for_list (K := K) (a := L) (xs := ys.map V.str) (fun i σ H4 => ∃ (y4 y5 y6 y7 : Option V) (ts : List Addr) (ms : List Mt), σ = [some (.ref d), some (.int c), some (.int mn), some (.ref M), y4, y5, y6, y7, none] ∧
          Dr d H H4 ∧ H4 L = some (.lst (ys.map V.str)) ∧ H4 M = some (.lst (ts.map V.ref)) ∧ Paired (MtAt H4) ts ms ∧ ms.map Mt.name = ys.take i ∧ (∀ m ∈ ms, MtOk c m)) ?_ (fun i σ H4 _ hp => ?_) (fun i x σ H4 hx hp => ?_) (fun σ H4 hp => ?_)⟩
        · exact ⟨none, none, none, none, [], [], rfl, rS.then (same_new nL), upd_same, by rw [upd_ne nML]; exact hMS, .nil, rfl, fun _ z => nomatch z⟩
        · obtain ⟨_, _, _, _, _, _, _, _, hL, _⟩ := hp
          exact .inl (.inl hL)
        · obtain ⟨y4, y5, y6, y7, ts, ms, rfl, r4, hL4, hM4, hP4, hn4, ho4⟩ := hp
          obtain ⟨hlt, hx'⟩ := List.getElem?_eq_some_iff.mp hx
          rw [List.length_map] at hlt
          have ex : x = .str ys[i] := by rw [← hx', List.getElem_map]
          subst ex
          have hml : ms.length = i := by
            have := congrArg List.length hn4
            rw [List.length_map, List.length_take] at this
            omega
          have htl : ts.length = i := by rw [← hml]; exact hP4.length
          -- low
          refine ⟨.ref d, rfl, d, _, rfl, r4.at_, by decide, fun H5 x5 r5 x50 x51 => ⟨_, _, rfl, rfl, .int c, rfl, small' (n := 2) (by decide), fun p5 n5 => ?_⟩⟩
          have r45 := r4.trans r5
          have q5 := r45.then (same_new (o := .lst [.int (x5 - 3), .int c]) n5)
          have n5d : p5 ≠ d := r45.ne n5
          refine ⟨.ref d, rfl, d, _, rfl, q5.at_, by decide, fun H6 x6 r6 x60 x61 => ?_⟩
          have h6 : H6 p5 = some (.lst [.int (x5 - 3), .int c]) := r6.keep _ _ n5d upd_same
          obtain ⟨lv, lvm, lva⟩ := pick (xs := [x5 - 3, c]) (vs := [.int (x5 - 3), .int c]) (k := x6 / 8) rfl (by omega) (by show x6 / 8 < 2; omega)
          have lvB : lv.natAbs ≤ c.natAbs + 3 := by
            rcases List.mem_cons.mp lvm with z | z
            · omega
            · rw [List.mem_singleton.mp z]; omega
          refine ⟨_, _, rfl, rfl, ⟨by decide, by decide⟩, p5, _, _, _, rfl, rfl, .inl (.inl h6), lva, ?_⟩
          -- wide
          refine ⟨_, _, rfl, rfl, ⟨by decide, by decide, by decide⟩, .int c, rfl, c, rfl, small' (n := 8) (by decide), fun p7 n7 => ?_⟩
          rw [abs_eq]
          have q6 := q5.trans r6
          have q7 := q6.then (same_new (o := .lst [.int 0, .int 1, .int 1, .int 2, .int 5, .int 40, .int (10 ^ (20 : Int).toNat), .int (c.natAbs : Int)]) n7)
          have n7d : p7 ≠ d := q6.ne n7
          refine ⟨.ref d, rfl, d, _, rfl, q7.at_, by decide, fun H8 x8 r8 x80 x81 => ?_⟩
          have h8 : H8 p7 = some (.lst [.int 0, .int 1, .int 1, .int 2, .int 5, .int 40, .int (10 ^ (20 : Int).toNat), .int (c.natAbs : Int)]) := r8.keep _ _ n7d upd_same
          obtain ⟨wv, wvm, wva⟩ := pick (xs := [0, 1, 1, 2, 5, 40, 10 ^ (20 : Int).toNat, (c.natAbs : Int)]) (vs := [.int 0, .int 1, .int 1, .int 2, .int 5, .int 40, .int (10 ^ (20 : Int).toNat), .int (c.natAbs : Int)]) (k := x8) rfl (by omega) (by show x8 < 8; omega)
          have wvB : 0 ≤ wv ∧ wv ≤ c.natAbs + 10 ^ 20 := by
            have et : (10 : Int) ^ (20 : Int).toNat = 10 ^ 20 := rfl
            rw [et] at wvm
            simp only [List.mem_cons, List.not_mem_nil, or_false] at wvm
            omega
          refine ⟨p7, _, _, _, rfl, rfl, .inl (.inl h8), wva, ?_⟩
          -- the meter
          have q8 := q7.trans r8
          have hM8 : H8 M = some (.lst (ts.map V.ref)) := by
            have a5 : H5 M = some (.lst (ts.map V.ref)) := r5.keep _ _ nMd hM4
            have a6 := r6.keep _ _ nMd (show upd H5 p5 _ M = some (.lst (ts.map V.ref)) by rw [upd_ne (ne_of_none a5 n5)]; exact a5)
            exact r8.keep _ _ nMd (by rw [upd_ne (ne_of_none a6 n7)]; exact a6)
          have hL8 : H8 L = some (.lst (ys.map V.str)) := by
            have a5 : H5 L = some (.lst (ys.map V.str)) := r5.keep _ _ nLd hL4
            have a6 := r6.keep _ _ nLd (show upd H5 p5 _ L = some (.lst (ys.map V.str)) by rw [upd_ne (ne_of_none a5 n5)]; exact a5)
            exact r8.keep _ _ nLd (by rw [upd_ne (ne_of_none a6 n7)]; exact a6)
          have hP8 : Paired (MtAt H8) ts ms :=
            r8.mts q7.at_ (same_mts (same_new n7) (r6.mts q5.at_ (same_mts (same_new n5) (r5.mts r4.at_ hP4))))
          refine ⟨.ref M, rfl, .inl ⟨rfl, _, .inl (.inl hM8)⟩, .str ys[i], rfl, .int lv, rfl, .int lv, rfl, .int wv, rfl, _, _, rfl, rfl, small' (n := 6) (by decide), fun p9 n9 => ?_⟩
          have n9d : p9 ≠ d := q8.ne n9
          have q9 := q8.then (same_new (o := .lst [.int 0, .int 0, .int 1, .int 2, .int 7, .int 60]) n9)
          refine ⟨.ref d, rfl, d, _, rfl, q9.at_, by decide, fun HA xA rA xA0 xA1 => ?_⟩
          have hA : HA p9 = some (.lst [.int 0, .int 0, .int 1, .int 2, .int 7, .int 60]) := rA.keep _ _ n9d upd_same
          obtain ⟨ev, evm, eva⟩ := pick (xs := [0, 0, 1, 2, 7, 60]) (vs := [.int 0, .int 0, .int 1, .int 2, .int 7, .int 60]) (k := xA) rfl (by omega) (by show xA < 6; omega)
          have evB : 0 ≤ ev ∧ ev ≤ 60 := by
            simp only [List.mem_cons, List.not_mem_nil, or_false] at evm
            omega
          refine ⟨p9, _, _, _, rfl, rfl, .inl (.inl hA), eva, small' (n := 4) (by decide), fun t nt => ?_⟩
          have qA := q9.trans rA
          have hMA : HA M = some (.lst (ts.map V.ref)) := rA.keep _ _ nMd (by rw [upd_ne (ne_of_none hM8 n9)]; exact hM8)
          have hLA : HA L = some (.lst (ys.map V.str)) := rA.keep _ _ nLd (by rw [upd_ne (ne_of_none hL8 n9)]; exact hL8)
          have hPA : Paired (MtAt HA) ts ms := rA.mts q9.at_ (same_mts (same_new n9) hP8)
          have qT := qA.then (same_new (o := .tup [.str ys[i], .int lv, .int (lv + wv), .int ev]) nt)
          have nMt : M ≠ t := ne_of_none hMA nt
          have nLt : L ≠ t := ne_of_none hLA nt
          have nMfree : H M = none := r12.free hd nM
          refine ⟨M, _, _, rfl, rfl, by rw [upd_ne nMt]; exact hMA, by rw [List.length_map, htl]; exact small (by omega), ?_⟩
          have kp : Same HA (upd HA t (.tup [.str ys[i], .int lv, .int (lv + wv), .int ev])) := same_new nt
          refine ⟨_, _, _, _, ts ++ [t], ms ++ [⟨ys[i], lv, lv + wv, ev⟩], rfl, qT.keepNew nMd nMfree, ?_, ?_, ?_, ?_, ?_⟩
          · rw [upd_ne (show L ≠ M from nML.symm), upd_ne nLt]
            exact hLA
          · rw [upd_same, map_snoc]
          · have tupM : ∀ b xs, (upd HA t (.tup [.str ys[i], .int lv, .int (lv + wv), .int ev])) b = some (.tup xs) → upd (upd HA t (.tup [.str ys[i], .int lv, .int (lv + wv), .int ev])) M (.lst (ts.map V.ref ++ [V.ref t])) b = some (.tup xs) := fun b xs z => by
              have nb : b ≠ M := fun zz => by
                rw [zz, upd_ne nMt, hMA] at z
                cases z
              rw [upd_ne nb]
              exact z
            have lift : ∀ {us : List Addr} {ls : List Mt}, Paired (MtAt HA) us ls → Paired (MtAt (upd (upd HA t (.tup [.str ys[i], .int lv, .int (lv + wv), .int ev])) M (.lst (ts.map V.ref ++ [V.ref t])))) us ls := fun {us ls} z => L2.Paired.mapP z fun a b y => tupM _ _ (kp _ _ y)
            exact (lift hPA).snoc (tupM t _ upd_same)
          · rw [List.map_append, hn4, List.take_add_one, List.getElem?_eq_getElem hlt]
            rfl
          · intro m hm
            rcases List.mem_append.mp hm with z | z
            · exact ho4 m z
            · rw [List.mem_singleton.mp z]
              exact ⟨by show lv ≤ lv + wv; omega, evB.1, evB.2, lvB, by show (lv + wv).natAbs ≤ _; omega⟩
        · obtain ⟨y4, y5, y6, y7, ts, ms, rfl, r4, hL4, hM4, hP4, hn4, ho4⟩ := hp
          rw [List.length_map, List.take_length] at hn4
          refine ⟨.int c, rfl, c, rfl, _, _, rfl, rfl, small' (n := 6) (by decide), fun p5 n5 => ?_⟩
          rw [abs_eq]
          have n5d : p5 ≠ d := r4.ne n5
          have q5 := r4.then (same_new (o := .lst [.int 1, .int 2, .int 5, .int 10, .int 60, .int (1 + (c.natAbs : Int))]) n5)
          refine ⟨.ref d, rfl, d, _, rfl, q5.at_, by decide, fun H6 x6 r6 x60 x61 => ?_⟩
          have h6 : H6 p5 = some (.lst [.int 1, .int 2, .int 5, .int 10, .int 60, .int (1 + (c.natAbs : Int))]) := r6.keep _ _ n5d upd_same
          obtain ⟨lv, lvm, lva⟩ := pick (xs := [1, 2, 5, 10, 60, 1 + (c.natAbs : Int)]) (vs := [.int 1, .int 2, .int 5, .int 10, .int 60, .int (1 + (c.natAbs : Int))]) (k := x6) rfl (by omega) (by show x6 < 6; omega)
          have lvB : 1 ≤ lv ∧ lv ≤ c.natAbs + 60 := by
            simp only [List.mem_cons, List.not_mem_nil, or_false] at lvm
            omega
          refine ⟨p5, _, _, _, rfl, rfl, .inl (.inl h6), lva, ?_⟩
          have q6 := q5.trans r6
          have hM6 : H6 M = some (.lst (ts.map V.ref)) := r6.keep _ _ nMd (by rw [upd_ne (ne_of_none hM4 n5)]; exact hM4)
          have hP6 : Paired (MtAt H6) ts ms := r6.mts q5.at_ (same_mts (same_new n5) hP4)
          refine ⟨.int lv, rfl, .ref M, rfl, M, _, rfl, .inl ⟨.inl (.inl hM6), fun tm ntm => ⟨small' (n := 2) (by decide), fun p np => ?_⟩⟩⟩
          have s1 := same_new (o := .tup (ts.map V.ref)) ntm
          have s2 := same_new (o := .tup [.int lv, .ref tm]) np
          have nn : tm ≠ p := fun z => by
            rw [← z, upd_same] at np
            cases np
          refine q _ p tm ts ⟨lv, ms⟩ ((q6.then s1).then s2) ⟨upd_same, by rw [upd_ne nn, upd_same], same_mts s2 (same_mts s1 hP6)⟩ ⟨lvB.1, lvB.2, fun z => ysne ?_, ?_, ?_, ho4⟩ fun m hm => ysW _ ?_
          · have z' : ms = [] := z
            rw [z'] at hn4
            exact hn4.symm
          · have := congrArg List.length hn4
            rw [List.length_map] at this
            show ms.length ≤ 6
            omega
          · show Risen (ms.map Mt.name)
            rw [hn4]
            exact ⟨so, nd⟩
          · rw [← hn4]
            exact List.mem_map_of_mem hm)
end
def sp_l_versions (K : PySem.W.Frag) : Sp := fun vs H Q _ => ∃ (d t : Addr) (m : Mt), vs = [.ref d, .ref t] ∧ DrA H d ∧ MtAt H t m ∧ m.low ≤ m.high ∧ ∀ H' tv os, Dr d H H' → H' tv = some (.tup (os.map optV)) → VersOk m os → Q (.ref tv) H'
section
variable {P : Program} {w : World} {K : PySem.W.Frag} {mg : Str → Option Value} {base : Heap}
theorem ok_l_versions (T : Ctx K mg) : FnOk P w K mg base CX0 3 T.f_l_versions T.fd_l_versions ["draws", "meter"] (sp_l_versions K) := by
  refine T.F_l_versions.ok sc_l_versions (fun vs H Q E h => ?_) (fun cdv A outer s H vs Q E hr h => ?_)
  · obtain ⟨d, t, m, rfl, _⟩ := h
    rfl
  · obtain ⟨d, t, m, rfl, hd, hm, ho, q⟩ := h
    refine ⟨_, (pss_cons (ps_set (i := 2) sc_l_versions.nd rfl (.inl rfl) (pe_lst (pa_cons (pe_call (ok_l_reading T) (hr.mono (by decide)) (by rfl) T.g_l_reading T.F_l_reading.kp T.b_l_reading .nil pass0 (pa_cons (pv 0) (pa_cons (pv 1) pa_nil))) pa_nil)))
      (pss_cons (ps_set (i := 3) sc_l_versions.nd rfl (.inl rfl) (pe_ix ix_list (pe_lst (pa_cons pe_int (pa_cons pe_int (pa_cons pe_int (pa_cons pe_int (pa_cons pe_int (pa_cons pe_int pa_nil))))))) (pe_call (ok_l_take T) (hr.mono (by decide)) (by rfl) T.g_l_take T.F_l_take.kp T.b_l_take .nil pass0 (pa_cons (pv 0) (pa_cons pe_int pa_nil))) (fun _ _ => rfl)))
      (pss_cons (ps_if (pt_cmpR op_eq (pe_call (ok_l_take T) (hr.mono (by decide)) (by rfl) T.g_l_take T.F_l_take.kp T.b_l_take .nil pass0 (pa_cons (pv 0) (pa_cons pe_int pa_nil))) pe_int (nomark _))
        (pss_one (ps_set (i := 3) sc_l_versions.nd rfl (.inl rfl) pe_int))
        pss_nil)
      (pss_cons (ps_for PassesOwn.never rfl (pi_range1 (by rfl) T.m_range (pa_cons (pv 3) pa_nil)) (pg_name (i := 4) sc_l_versions.nd rfl (.inl rfl))
        (pss_cons (ps_set (i := 5) sc_l_versions.nd rfl (.inl rfl) (pe_call (ok_l_reading T) (hr.mono (by decide)) (by rfl) T.g_l_reading T.F_l_reading.kp T.b_l_reading .nil pass0 (pa_cons (pv 0) (pa_cons (pv 1) pa_nil))))
      (pss_cons (ps_if (pt_cmpR op_eq (pe_call (ok_l_take T) (hr.mono (by decide)) (by rfl) T.g_l_take T.F_l_take.kp T.b_l_take .nil pass0 (pa_cons (pv 0) (pa_cons pe_int pa_nil))) pe_int (nomark _))
        (pss_one (ps_set (i := 5) sc_l_versions.nd rfl (.inl rfl) pe_non))
        pss_nil)
      (pss_one (ps_expr (pe_bm PySem.F.plainAttrs_list PySem.F.slot_list_append PySem.F.type_list_append mt_append (pv 2) (pa_cons (pv 5) pa_nil)))))))
      (pss_one (ps_ret (pe_callTy call_tuple_of (by rfl) T.m_tuple (by decide +kernel) (pa_cons (pv 2) pa_nil)))))))), ?_⟩
    refine ⟨.ref d, rfl, .ref t, rfl, d, t, m, rfl, hd, hm, ho, fun H1 v0 r1 a0 a1 => ⟨small' (n := 1) (by decide), fun W nW => ?_⟩⟩
    have nWd : W ≠ d := r1.ne nW
    have nHW : H W = none := r1.free hd nW
    have r2 := r1.then (same_new (o := .lst [.int v0]) nW)
    refine ⟨small' (n := 6) (by decide), fun p np => ?_⟩
    have npd : p ≠ d := r2.ne np
    have hW2 : upd (upd H1 W (.lst [.int v0])) p (.lst [.int 0, .int 0, .int 0, .int 1, .int 2, .int 5]) W = some (.lst [.int v0]) := same_new np _ _ upd_same
    have r3 := r2.then (same_new (o := .lst [.int 0, .int 0, .int 0, .int 1, .int 2, .int 5]) np)
    refine ⟨.ref d, rfl, d, _, rfl, r3.at_, by decide, fun H4 x r4 x0 x1 => ?_⟩
    have h4 : H4 p = some (.lst [.int 0, .int 0, .int 0, .int 1, .int 2, .int 5]) := r4.keep _ _ npd upd_same
    obtain ⟨lv, lvm, lva⟩ := pick (xs := [0, 0, 0, 1, 2, 5]) (vs := [.int 0, .int 0, .int 0, .int 1, .int 2, .int 5]) (k := x) rfl (by omega) (by show x < 6; omega)
    have lvB : 0 ≤ lv ∧ lv ≤ 11 := by
      simp only [List.mem_cons, List.not_mem_nil, or_false] at lvm
      omega
    have hW4 := r4.keep _ _ nWd hW2
    have r34 := r3.trans r4
    refine ⟨p, _, _, _, rfl, rfl, .inl (.inl h4), lva, ?_⟩
    refine ⟨.ref d, rfl, d, _, rfl, r4.at_, by decide, fun H5 y r5 y0 y1 => ⟨rfl, _, rfl, ite2 (fun e => ?c1) (fun e => ?c2)⟩⟩
    case' c1 =>
      obtain ⟨mn, emn, m0, m1⟩ : ∃ mn : Int, mn = 11 ∧ 0 ≤ mn ∧ mn ≤ 11 := ⟨11, rfl, by decide, by decide⟩
      rw [← emn]
    case' c2 =>
      obtain ⟨mn, emn, m0, m1⟩ : ∃ mn : Int, mn = lv ∧ 0 ≤ mn ∧ mn ≤ 11 := ⟨lv, rfl, lvB.1, lvB.2⟩
      rw [← emn]
    all_goals (
      clear emn
      have r35 := r34.trans r5
      have hW5 := r5.keep _ _ nWd hW4
      refine ⟨.int mn, rfl, mn, rfl, by omega, by omega, for_range (lo := 0) (n := mn.toNat) (fun i σ H' => ∃ (y4 y5 : Option V) (os : List (Option Int)), σ = [some (.ref d), some (.ref t), some (.ref W), some (.int mn), y4, y5] ∧ Dr d H H' ∧ H' W = some (.lst (os.map optV)) ∧ (∃ v r, os = some v :: r) ∧ os.length = i + 1 ∧ ∀ v, some v ∈ os → m.low ≤ v ∧ v ≤ m.high)
        ⟨none, none, [some v0], rfl, r35, hW5, ⟨v0, [], rfl⟩, rfl, fun v hv => by cases List.mem_singleton.mp hv; exact ⟨a0, a1⟩⟩ (fun i σ H' hi hp => ?_) (fun σ H' hp => ?_)⟩
      · obtain ⟨y4, y5, os, rfl, r6, hW6, ⟨v1, r1', eos⟩, lo6, ea6⟩ := hp
        have hm6 : MtAt H' t m := r6.tup hd hm
        refine ⟨.ref d, rfl, .ref t, rfl, d, t, m, rfl, r6.at_, hm6, ho, fun H7 v r7 b0 b1 => ?_⟩
        refine ⟨.ref d, rfl, d, _, rfl, r7.at_, by decide, fun H8 z r8 z0 z1 => ⟨rfl, _, rfl, ?_⟩⟩
        have r68 := (r6.trans r7).trans r8
        have hW8 := r8.keep _ _ nWd (r7.keep _ _ nWd hW6)
        have fin : ∀ (o : Option Int) (w : V), w = optV o → (∀ u, o = some u → m.low ≤ u ∧ u ≤ m.high) → ∀ σ, σ = [some (.ref d), some (.ref t), some (.ref W), some (.int mn), some (.int (0 + (i : Int))), some w] → ∃ (y4 y5 : Option V) (ns : List (Option Int)), σ = [some (.ref d), some (.ref t), some (.ref W), some (.int mn), y4, y5] ∧ Dr d H (upd H8 W (.lst (os.map optV ++ [w]))) ∧ upd H8 W (.lst (os.map optV ++ [w])) W = some (.lst (ns.map optV)) ∧ (∃ v r, ns = some v :: r) ∧ ns.length = i + 1 + 1 ∧ (∀ v, some v ∈ ns → m.low ≤ v ∧ v ≤ m.high) := by
          rintro o w rfl hw σ rfl
          refine ⟨_, _, os ++ [o], rfl, r68.keepNew nWd nHW, ?_, ⟨v1, r1' ++ [o], by rw [eos]; rfl⟩, by rw [List.length_append, lo6]; rfl, fun u hu => ?_⟩
          · rw [upd_same, List.map_append]
            rfl
          · rcases List.mem_append.mp hu with q1 | q1
            · exact ea6 u q1
            · exact hw u (List.mem_singleton.mp q1).symm
        have ln : (os.map optV).length < sizeLine := by
          rw [List.length_map]
          exact small (by omega)
        refine ite2 (fun _ => ?_) (fun _ => ?_)
        · exact ⟨.ref W, rfl, .inl ⟨rfl, _, .inl (.inl hW8)⟩, .non, rfl, W, _, _, rfl, rfl, hW8, ln, fin none _ rfl (fun _ z => nomatch z) _ rfl⟩
        · exact ⟨.ref W, rfl, .inl ⟨rfl, _, .inl (.inl hW8)⟩, .int v, rfl, W, _, _, rfl, rfl, hW8, ln, fin (some v) _ rfl (fun u z => by cases z; exact ⟨b0, b1⟩) _ rfl⟩
      · obtain ⟨y4, y5, os, rfl, r6, hW6, hd6, lo6, ea6⟩ := hp
        refine ⟨.ref W, rfl, W, _, rfl, .inl ⟨.inl (.inl hW6), fun tv ntv => q _ tv os (r6.then (same_new ntv)) upd_same ⟨hd6, by omega, ea6⟩⟩⟩)
end
def sp_l_slots (K : PySem.W.Frag) : Sp := fun vs H Q _ => ∃ (d t : Addr) (m : Mt) (most c : Int), vs = [.ref d, .ref t, .int most, .int c] ∧ DrA H d ∧ MtAt H t m ∧ m.low ≤ m.high ∧ 0 ≤ most ∧ most ≤ 20 ∧
  ∀ H' tt us xs st, Dr d H H' → H' tt = some (.tup (us.map V.ref)) → Paired (SlAt H') us xs → SlsOk m c st xs → us.length ≤ 50 → Q (.ref tt) H'
section
variable {P : Program} {w : World} {K : PySem.W.Frag} {mg : Str → Option Value} {base : Heap}
theorem ok_l_slots (T : Ctx K mg) : FnOk P w K mg base CX0 4 T.f_l_slots T.fd_l_slots ["draws", "meter", "most", "cell"] (sp_l_slots K) := by
  refine T.F_l_slots.ok sc_l_slots (fun vs H Q E h => ?_) (fun cdv A outer s H vs Q E hr h => ?_)
  · obtain ⟨d, t, m, most, c, rfl, _⟩ := h
    rfl
  · obtain ⟨d, t, m, most, c, rfl, hd, hm, ho, m0, m1, q⟩ := h
    refine ⟨_, (pss_cons (ps_set (i := 4) sc_l_slots.nd rfl (.inl rfl) (pe_ix ix_list (pe_lst (pa_cons (pe_op op_sub (pe_call (ok_l_take T) (hr.mono (by decide)) (by rfl) T.g_l_take T.F_l_take.kp T.b_l_take .nil pass0 (pa_cons (pv 0) (pa_cons pe_int pa_nil))) pe_int) (pa_cons (pv 3) pa_nil))) (pe_op op_fdiv (pe_call (ok_l_take T) (hr.mono (by decide)) (by rfl) T.g_l_take T.F_l_take.kp T.b_l_take .nil pass0 (pa_cons (pv 0) (pa_cons pe_int pa_nil))) pe_int) (fun _ _ => rfl)))
      (pss_cons (ps_set (i := 5) sc_l_slots.nd rfl (.inl rfl) (pe_lst pa_nil))
      (pss_cons (ps_for PassesOwn.never rfl (pi_range1 (by rfl) T.m_range (pa_cons (pe_call (ok_l_take T) (hr.mono (by decide)) (by rfl) T.g_l_take T.F_l_take.kp T.b_l_take .nil pass0 (pa_cons (pv 0) (pa_cons (pe_op op_add (pv 2) pe_int) pa_nil))) pa_nil)) (pg_name (i := 6) sc_l_slots.nd rfl (.inl rfl))
        (pss_cons (ps_set (i := 4) sc_l_slots.nd rfl (.inl rfl) (pe_op op_add (pv 4) (pe_ix ix_list (pe_lst (pa_cons pe_int (pa_cons pe_int (pa_cons pe_int (pa_cons pe_int (pa_cons pe_int pa_nil)))))) (pe_call (ok_l_take T) (hr.mono (by decide)) (by rfl) T.g_l_take T.F_l_take.kp T.b_l_take .nil pass0 (pa_cons (pv 0) (pa_cons pe_int pa_nil))) (fun _ _ => rfl))))
      (pss_one (ps_expr (pe_bm PySem.F.plainAttrs_list PySem.F.slot_list_append PySem.F.type_list_append mt_append (pv 5) (pa_cons (pe_tup (pa_cons (pv 4) (pa_cons (pe_call (ok_l_versions T) (hr.mono (by decide)) (by rfl) T.g_l_versions T.F_l_versions.kp T.b_l_versions .nil pass0 (pa_cons (pv 0) (pa_cons (pv 1) pa_nil))) pa_nil))) pa_nil))))))
      (pss_cons (ps_if (pt_cmpR op_eq (pe_call (ok_l_take T) (hr.mono (by decide)) (by rfl) T.g_l_take T.F_l_take.kp T.b_l_take .nil pass0 (pa_cons (pv 0) (pa_cons pe_int pa_nil))) pe_int (nomark _))
        (pss_cons (ps_set (i := 7) sc_l_slots.nd rfl (.inl rfl) (pe_call (ok_l_take T) (hr.mono (by decide)) (by rfl) T.g_l_take T.F_l_take.kp T.b_l_take .nil pass0 (pa_cons (pv 0) (pa_cons pe_int pa_nil))))
      (pss_one (ps_for PassesOwn.never rfl (pi_range1 (by rfl) T.m_range (pa_cons pe_int pa_nil)) (pg_name (i := 6) sc_l_slots.nd rfl (.inl rfl))
        (pss_one (ps_expr (pe_bm PySem.F.plainAttrs_list PySem.F.slot_list_append PySem.F.type_list_append mt_append (pv 5) (pa_cons (pe_tup (pa_cons (pe_op op_add (pv 4) (pe_op op_mul (pv 7) (pe_op op_fdiv (pv 6) pe_int))) (pa_cons (pe_ix ix_list (pe_lst (pa_cons (pe_tup (pa_cons (pe_ix ix_tup (pv 1) pe_int (fun _ _ => rfl)) pa_nil)) (pa_cons (pe_tup (pa_cons (pe_ix ix_tup (pv 1) pe_int (fun _ _ => rfl)) (pa_cons pe_non pa_nil))) (pa_cons (pe_tup (pa_cons (pe_ix ix_tup (pv 1) pe_int (fun _ _ => rfl)) pa_nil)) pa_nil)))) (pe_op op_mod (pv 6) pe_int) (fun _ _ => rfl)) pa_nil))) pa_nil)))))))
        pss_nil)
      (pss_one (ps_ret (pe_callTy call_tuple_of (by rfl) T.m_tuple (by decide +kernel) (pa_cons (pv 5) pa_nil)))))))), ?_⟩
    -- stamp
    refine ⟨.ref d, rfl, d, _, rfl, hd, by decide, fun H1 x5 r1 x50 x51 => ⟨_, _, rfl, rfl, .int c, rfl, small' (n := 2) (by decide), fun p1 n1 => ?_⟩⟩
    have n1d : p1 ≠ d := r1.ne n1
    have q1 := r1.then (same_new (o := .lst [.int (x5 - 12), .int c]) n1)
    refine ⟨.ref d, rfl, d, _, rfl, q1.at_, by decide, fun H2 x6 r2 x60 x61 => ?_⟩
    have h2 : H2 p1 = some (.lst [.int (x5 - 12), .int c]) := r2.keep _ _ n1d upd_same
    obtain ⟨s0, s0m, s0a⟩ := pick (xs := [x5 - 12, c]) (vs := [.int (x5 - 12), .int c]) (k := x6 / 8) rfl (by omega) (by show x6 / 8 < 2; omega)
    have s0B : s0.natAbs ≤ c.natAbs + 12 := by
      rcases List.mem_cons.mp s0m with z | z
      · omega
      · rw [List.mem_singleton.mp z]; omega
    refine ⟨_, _, rfl, rfl, ⟨by decide, by decide⟩, p1, _, _, _, rfl, rfl, .inl (.inl h2), s0a, ?_⟩
    have q2 := q1.trans r2
    refine ⟨small' (n := 0) (by decide), fun S nS => ?_⟩
    have nSd : S ≠ d := q2.ne nS
    have nHS : H S = none := q2.free hd nS
    have q3 := q2.then (same_new (o := .lst []) nS)
    refine ⟨.ref d, rfl, .int most, rfl, _, _, rfl, rfl, d, _, rfl, q3.at_, by omega, fun H4 kk r4 k0 k1 => ⟨kk, rfl, by omega, by omega, ?_⟩⟩
    have q4 := q3.trans r4
    have hS4 : H4 S = some (.lst []) := r4.keep _ _ nSd upd_same
    refine for_range (lo := 0) (n := kk.toNat) (fun i σ H' => ∃ (y6 y7 : Option V) (st : Int) (us : List Addr) (xs : List Sl), σ = [some (.ref d), some (.ref t), some (.int most), some (.int c), some (.int st), some (.ref S), y6, y7] ∧ Dr d H H' ∧ H' S = some (.lst (us.map V.ref)) ∧ Paired (SlAt H') us xs ∧ SlsOk m c st xs ∧ us.length ≤ i ∧ st.natAbs ≤ c.natAbs + 12 + 7 * i)
      ⟨none, none, s0, [], [], rfl, q4, hS4, .nil, .nil _ _ _, Nat.zero_le _, by omega⟩ (fun i σ H' hi hp => ?_) (fun σ H' hp => ?_)
    · obtain ⟨y6, y7, st, us, xs, rfl, r5, hS5, hp5, ok5, len5, st5⟩ := hp
      refine ⟨.int st, rfl, small' (n := 5) (by decide), fun p6 n6 => ?_⟩
      have n6d : p6 ≠ d := r5.ne n6
      have q6 := r5.then (same_new (o := .lst [.int 0, .int 0, .int 1, .int 2, .int 7]) n6)
      refine ⟨.ref d, rfl, d, _, rfl, q6.at_, by decide, fun H7 x r7 x0 x1 => ?_⟩
      have h7 : H7 p6 = some (.lst [.int 0, .int 0, .int 1, .int 2, .int 7]) := r7.keep _ _ n6d upd_same
      obtain ⟨ev, evm, eva⟩ := pick (xs := [0, 0, 1, 2, 7]) (vs := [.int 0, .int 0, .int 1, .int 2, .int 7]) (k := x) rfl (by omega) (by show x < 5; omega)
      have evB : 0 ≤ ev ∧ ev ≤ 7 := by
        simp only [List.mem_cons, List.not_mem_nil, or_false] at evm
        omega
      refine ⟨p6, _, _, _, rfl, rfl, .inl (.inl h7), eva, _, _, rfl, rfl, ?_⟩
      have q7 := q6.trans r7
      have hS7 : H7 S = some (.lst (us.map V.ref)) := r7.keep _ _ nSd (same_new n6 _ _ hS5)
      have hp7 := sls_kept (r7.kt q6.at_) (sls_kept (Same.kt (same_new (o := .lst [.int 0, .int 0, .int 1, .int 2, .int 7]) n6)) hp5)
      have hm7 : MtAt H7 t m := q7.tup hd hm
      refine ⟨.ref S, rfl, .inl ⟨rfl, _, .inl (.inl hS7)⟩, .int (st + ev), rfl, .ref d, rfl, .ref t, rfl, d, t, m, rfl, q7.at_, hm7, ho, fun H8 tv os r8 htv vok => ⟨small' (n := 2) (by decide), fun s ns => ?_⟩⟩
      have q8 := q7.trans r8
      have hS8 : H8 S = some (.lst (us.map V.ref)) := r8.keep _ _ nSd hS7
      have hp8 := sls_kept (r8.kt q7.at_) hp7
      have k9 := same_new (o := .tup [.int (st + ev), .ref tv]) ns
      have hS9 := k9 _ _ hS8
      refine ⟨S, _, _, rfl, rfl, hS9, by rw [List.length_map]; exact small (by omega), _, _, st + ev, us ++ [s], xs ++ [⟨st + ev, os⟩], rfl, (q8.then k9).keepNew nSd nHS, by rw [upd_same, map_snoc], ?_, SlsOk.snoc (x := ⟨st + ev, os⟩) ok5 (by show st ≤ st + ev; omega) (by show (st + ev).natAbs ≤ _; omega) vok, by rw [List.length_append]; show _ + 1 ≤ _; omega, by omega⟩
      refine (sls_kept (KT.trans (Same.kt k9) (kt_lst hS9)) hp8).snoc ?_
      exact SlAt.kept (kt_lst hS9) ⟨tv, upd_same, k9 _ _ htv⟩
    · obtain ⟨y6, y7, st, us, xs, rfl, r5, hS5, hp5, ok5, len5, st5⟩ := hp
      have len6 : us.length ≤ 20 := by omega
      have st6 : st.natAbs ≤ c.natAbs + 12 + 140 := by omega
      refine ⟨.ref d, rfl, d, _, rfl, r5.at_, by decide, fun H6 y r6 y0 y1 => ⟨rfl, _, rfl, ite2 (fun e => ?_) (fun e => ?_)⟩⟩
      · refine ⟨.ref d, rfl, d, _, rfl, r6.at_, by decide, fun H7 sp r7 s0' s1' => ⟨30, rfl, by decide, by decide, ?_⟩⟩
        have q7 := (r5.trans r6).trans r7
        have hS7 : H7 S = some (.lst (us.map V.ref)) := r7.keep _ _ nSd (r6.keep _ _ nSd hS5)
        have hp7 := sls_kept (r7.kt r6.at_) (sls_kept (r6.kt r5.at_) hp5)
        refine for_range (lo := 0) (n := 30) (fun i σ H' => ∃ (y6 : Option V) (top : Int) (us : List Addr) (xs : List Sl), σ = [some (.ref d), some (.ref t), some (.int most), some (.int c), some (.int st), some (.ref S), y6, some (.int sp)] ∧ Dr d H H' ∧ H' S = some (.lst (us.map V.ref)) ∧ Paired (SlAt H') us xs ∧ SlsOk m c top xs ∧ us.length ≤ 20 + i ∧ top ≤ st + sp * ((0 + (i : Int)) / 2))
          ⟨_, st, us, xs, rfl, q7, hS7, hp7, ok5, by omega, ?_⟩ (fun i σ H' hi hp => ?_) (fun σ H' hp => ?_)
        · show st ≤ st + sp * ((0 + ((0 : Nat) : Int)) / 2)
          have e : (0 + ((0 : Nat) : Int)) / 2 = 0 := by decide
          rw [e, Int.mul_zero]
          omega
        · obtain ⟨y6, top, us, xs, rfl, r8, hS8, hp8, ok8, len8, top8⟩ := hp
          have hm8 : MtAt H' t m := r8.tup hd hm
          obtain ⟨e, ee, e0, e1, e2⟩ : ∃ e : Int, e = sp * ((0 + (i : Int)) / 2) ∧ 0 ≤ e ∧ e ≤ 60 ∧ e ≤ sp * ((0 + ((i + 1 : Nat) : Int)) / 2) := by
            have : sp = 0 ∨ sp = 1 ∨ sp = 2 := by omega
            refine ⟨_, rfl, ?_⟩
            rcases this with z | z | z <;> rw [z] <;> refine ⟨?_, ?_, ?_⟩ <;> omega
          rw [← ee] at top8
          refine ⟨.ref S, rfl, .inl ⟨rfl, _, .inl (.inl hS8)⟩, .int st, rfl, .int sp, rfl, .int (0 + (i : Int)), rfl, _, _, rfl, rfl, ⟨by decide, by decide⟩, _, _, rfl, rfl, .inl ⟨by omega, by omega⟩, _, _, rfl, rfl, ?_⟩
          refine ⟨.ref t, rfl, t, _, 1, _, rfl, rfl, .inl (.inl hm8), atI_nat (j := 1) rfl, small' (n := 1) (by decide), fun t1 n1 => ?_⟩
          have k1 := same_new (o := .tup [.int m.low]) n1
          refine ⟨.ref t, rfl, t, _, 2, _, rfl, rfl, .inl (.inl (k1 _ _ hm8)), atI_nat (j := 2) rfl, small' (n := 2) (by decide), fun t2 n2 => ?_⟩
          have k2 := same_new (o := .tup [.int m.high, .non]) n2
          refine ⟨.ref t, rfl, t, _, 2, _, rfl, rfl, .inl (.inl (k2 _ _ (k1 _ _ hm8))), atI_nat (j := 2) rfl, small' (n := 1) (by decide), fun t3 n3 => ⟨small' (n := 3) (by decide), fun L nL => ?_⟩⟩
          have k3 := same_new (o := .tup [.int m.high]) n3
          have k4 := same_new (o := .lst [.ref t1, .ref t2, .ref t3]) nL
          have f1 : upd (upd (upd (upd H' t1 (.tup [.int m.low])) t2 (.tup [.int m.high, .non])) t3 (.tup [.int m.high])) L (.lst [.ref t1, .ref t2, .ref t3]) t1 = some (.tup ([some m.low].map optV)) := k4 _ _ (k3 _ _ (k2 _ _ upd_same))
          have f2 : upd (upd (upd (upd H' t1 (.tup [.int m.low])) t2 (.tup [.int m.high, .non])) t3 (.tup [.int m.high])) L (.lst [.ref t1, .ref t2, .ref t3]) t2 = some (.tup ([some m.high, none].map optV)) := k4 _ _ (k3 _ _ upd_same)
          have f3 : upd (upd (upd (upd H' t1 (.tup [.int m.low])) t2 (.tup [.int m.high, .non])) t3 (.tup [.int m.high])) L (.lst [.ref t1, .ref t2, .ref t3]) t3 = some (.tup ([some m.high].map optV)) := k4 _ _ upd_same
          have fL : upd (upd (upd (upd H' t1 (.tup [.int m.low])) t2 (.tup [.int m.high, .non])) t3 (.tup [.int m.high])) L (.lst [.ref t1, .ref t2, .ref t3]) L = some (.lst [.ref t1, .ref t2, .ref t3]) := upd_same
          have k14 : Same H' (upd (upd (upd (upd H' t1 (.tup [.int m.low])) t2 (.tup [.int m.high, .non])) t3 (.tup [.int m.high])) L (.lst [.ref t1, .ref t2, .ref t3])) := ((k1.trans k2).trans k3).trans k4
          generalize upd (upd (upd (upd H' t1 (.tup [.int m.low])) t2 (.tup [.int m.high, .non])) t3 (.tup [.int m.high])) L (.lst [.ref t1, .ref t2, .ref t3]) = H9 at f1 f2 f3 fL k14
          obtain ⟨os, tv, hat, htv, vok⟩ : ∃ (os : List (Option Int)) (tv : Addr), atI [V.ref t1, .ref t2, .ref t3] ((0 + (i : Int)) % 3) = some (.ref tv) ∧ H9 tv = some (.tup (os.map optV)) ∧ VersOk m os := by
            have : (0 + (i : Int)) % 3 = 0 ∨ (0 + (i : Int)) % 3 = 1 ∨ (0 + (i : Int)) % 3 = 2 := by omega
            rcases this with z | z | z
            · refine ⟨_, t1, by rw [z]; rfl, f1, ⟨⟨_, [], rfl⟩, by show 1 ≤ 12; decide, fun v hv => ?_⟩⟩
              cases List.mem_singleton.mp hv
              exact ⟨Int.le_refl _, ho⟩
            · refine ⟨_, t2, by rw [z]; rfl, f2, ⟨⟨_, [none], rfl⟩, by show 2 ≤ 12; decide, fun v hv => ?_⟩⟩
              rcases List.mem_cons.mp hv with y | y
              · cases y
                exact ⟨ho, Int.le_refl _⟩
              · cases List.mem_singleton.mp y
            · refine ⟨_, t3, by rw [z]; rfl, f3, ⟨⟨_, [], rfl⟩, by show 1 ≤ 12; decide, fun v hv => ?_⟩⟩
              cases List.mem_singleton.mp hv
              exact ⟨ho, Int.le_refl _⟩
          refine ⟨.int (0 + (i : Int)), rfl, _, _, rfl, rfl, (show (0 : Int) < 3 by decide), L, _, _, _, rfl, rfl, .inl (.inl fL), hat, small' (n := 2) (by decide), fun s ns => ?_⟩
          rw [← ee]
          have k5 := same_new (o := .tup [.int (st + e), .ref tv]) ns
          have hS9 := k5 _ _ (k14 _ _ hS8)
          refine ⟨S, _, _, rfl, rfl, hS9, by rw [List.length_map]; exact small (by omega), _, st + e, us ++ [s], xs ++ [⟨st + e, os⟩], rfl, ((r8.then k14).then k5).keepNew nSd nHS, by rw [upd_same, map_snoc], ?_, SlsOk.snoc (x := ⟨st + e, os⟩) ok8 (by show top ≤ st + e; omega) (by show (st + e).natAbs ≤ _; omega) vok, by rw [List.length_append]; show _ + 1 ≤ _; omega, by omega⟩
          refine (sls_kept (KT.trans (Same.kt (k14.trans k5)) (kt_lst hS9)) hp8).snoc ?_
          exact SlAt.kept (kt_lst hS9) ⟨tv, upd_same, k5 _ _ htv⟩
        · obtain ⟨y6, top, us, xs, rfl, r8, hS8, hp8, ok8, len8, top8⟩ := hp
          exact ⟨.ref S, rfl, S, _, rfl, .inl ⟨.inl (.inl hS8), fun tt ntt => q _ tt us xs top (r8.then (same_new ntt)) upd_same (sls_kept (Same.kt (same_new ntt)) hp8) ok8 (by omega)⟩⟩
      · have hS6 : H6 S = some (.lst (us.map V.ref)) := r6.keep _ _ nSd hS5
        have hp6 := sls_kept (r6.kt r5.at_) hp5
        exact ⟨.ref S, rfl, S, _, rfl, .inl ⟨.inl (.inl hS6), fun tt ntt => q _ tt us xs st ((r5.trans r6).then (same_new ntt)) upd_same (sls_kept (Same.kt (same_new ntt)) hp6) ok5 (by omega)⟩⟩
end
def sp_l_history (K : PySem.W.Frag) : Sp := fun vs H Q _ => ∃ (d p tm : Addr) (ts : List Addr) (P : Pl) (most c : Int), vs = [.ref d, .ref p, .int most, .int c] ∧ DrA H d ∧ PlanAt H p tm ts P ∧ PlanOk c P ∧ 0 ≤ most ∧ most ≤ 20 ∧
  ∀ H' h ls, Dr d H H' → HistAt H' h ls → HistOk P c ls → Q (.ref h) H'
theorem paired_snoc_at {α β : Type} {R : α → β → Prop} {xs : List α} {ys : List β} {a : α} {b : β} {i : Nat} (h : Paired R (xs.take i) ys) (e : xs[i]? = some a) (r : R a b) : Paired R (xs.take (i + 1)) (ys ++ [b]) := by
  rw [List.take_add_one, e]
  exact h.snoc r
section
variable {P : Program} {w : World} {K : PySem.W.Frag} {mg : Str → Option Value} {base : Heap}
theorem ok_l_history (T : Ctx K mg) : FnOk P w K mg base CX0 5 T.f_l_history T.fd_l_history ["draws", "plan", "most", "cell"] (sp_l_history K) := by
  refine T.F_l_history.ok sc_l_history (fun vs H Q E h => ?_) (fun cdv A outer s H vs Q E hr h => ?_)
  · obtain ⟨d, p, tm, ts, P, most, c, rfl, _⟩ := h
    rfl
  · obtain ⟨d, p, tm, ts, P, most, c, rfl, hd, pa, po, m0, m1, q⟩ := h
    refine ⟨_, (pss_cons (ps_set (i := 4) sc_l_history.nd rfl (.inl rfl) (pe_lst pa_nil))
      (pss_cons (ps_for PassesOwn.never rfl (pi_tup (pe_ix ix_tup (pv 1) pe_int (fun _ _ => rfl))) (pg_name (i := 5) sc_l_history.nd rfl (.inl rfl))
        (pss_cons (ps_set (i := 6) sc_l_history.nd rfl (.inl rfl) (pe_op op_sub (pe_call (ok_l_take T) (hr.mono (by decide)) (by rfl) T.g_l_take T.F_l_take.kp T.b_l_take .nil pass0 (pa_cons (pv 0) (pa_cons (pe_op op_add (pe_op op_mul pe_int (pe_ix ix_tup (pv 5) pe_int (fun _ _ => rfl))) pe_int) pa_nil))) (pe_ix ix_tup (pv 5) pe_int (fun _ _ => rfl))))
      (pss_cons (ps_if (pt_cmpR op_eq (pe_call (ok_l_take T) (hr.mono (by decide)) (by rfl) T.g_l_take T.F_l_take.kp T.b_l_take .nil pass0 (pa_cons (pv 0) (pa_cons pe_int pa_nil))) pe_int (nomark _))
        (pss_one (ps_set (i := 6) sc_l_history.nd rfl (.inl rfl) (pe_ix ix_list (pe_lst (pa_cons (pe_ix ix_tup (pv 5) pe_int (fun _ _ => rfl)) (pa_cons (pe_un un_neg (pe_ix ix_tup (pv 5) pe_int (fun _ _ => rfl))) pa_nil))) (pe_call (ok_l_take T) (hr.mono (by decide)) (by rfl) T.g_l_take T.F_l_take.kp T.b_l_take .nil pass0 (pa_cons (pv 0) (pa_cons pe_int pa_nil))) (fun _ _ => rfl))))
        pss_nil)
      (pss_cons (ps_set (i := 7) sc_l_history.nd rfl (.inl rfl) (pe_call (ok_l_slots T) (hr.mono (by decide)) (by rfl) T.g_l_slots T.F_l_slots.kp T.b_l_slots .nil pass0 (pa_cons (pv 0) (pa_cons (pv 5) (pa_cons (pv 2) (pa_cons (pv 3) pa_nil))))))
      (pss_cons (ps_if (pt_cmpR op_gt (pe_callB call_len_seq (by rfl) T.m_len (by decide +kernel) (pa_cons (pv 4) pa_nil)) pe_int (nomark _))
        (pss_one (ps_set (i := 7) sc_l_history.nd rfl (.inl rfl) (pe_slice sl_tupA (pv 7) po_none (po_some (pv 2)))))
        pss_nil)
      (pss_one (ps_expr (pe_bm PySem.F.plainAttrs_list PySem.F.slot_list_append PySem.F.type_list_append mt_append (pv 4) (pa_cons (pe_tup (pa_cons (pe_ix ix_tup (pv 5) pe_int (fun _ _ => rfl)) (pa_cons (pv 6) (pa_cons (pv 7) pa_nil)))) pa_nil)))))))))
      (pss_one (ps_ret (pe_callTy call_tuple_of (by rfl) T.m_tuple (by decide +kernel) (pa_cons (pv 4) pa_nil)))))), ?_⟩
    have tl : ts.length = P.ms.length := pa.low.length
    have few := po.few
    refine ⟨small' (n := 0) (by decide), fun G nG => ?_⟩
    have nGd : G ≠ d := (Dr.refl hd).ne nG
    have r0 : Dr d H (upd H G (.lst [])) := (Dr.refl hd).then (same_new nG)
    have pa0 := pa.same (same_new (o := .lst []) nG)
    refine ⟨.ref p, rfl, p, _, 1, _, rfl, rfl, .inl (.inl pa0.top), atI_nat (j := 1) rfl, tm, rfl, ⟨_, .inl (.inl pa0.mid)⟩, for_tup (K := K) (a := tm) (xs := ts.map V.ref) (fun i σ H' => ∃ (y5 y6 y7 : Option V) (gs : List Addr) (ls : List Lg), σ = [some (.ref d), some (.ref p), some (.int most), some (.int c), some (.ref G), y5, y6, y7] ∧ Dr d H H' ∧ H' G = some (.lst (gs.map V.ref)) ∧ Paired (LgAt H') gs ls ∧ Paired (fun m x => LgOk m c x) (P.ms.take i) ls)
      ⟨none, none, none, [], [], rfl, r0, upd_same, .nil, by rw [List.take_zero]; exact .nil⟩ (fun i σ H' _ hp => ?_) (fun i x σ H' hx hp => ?_) (fun σ H' hp => ?_)⟩
    · obtain ⟨_, _, _, _, _, _, r1, _⟩ := hp
      exact .inl (.inl (r1.plan hd pa).mid)
    · obtain ⟨y5, y6, y7, gs, ls, rfl, r1, hG1, hp1, ok1⟩ := hp
      have il : i < ts.length := by
        have := (List.getElem?_eq_some_iff.mp hx).1
        rw [List.length_map] at this
        exact this
      have ex : x = .ref ts[i] := by
        rw [List.getElem?_map, List.getElem?_eq_getElem il] at hx
        exact (Option.some.inj hx).symm
      subst ex
      have pa1 := r1.plan hd pa
      obtain ⟨m, hm, hat⟩ := mts_at pa1.low (List.getElem?_eq_getElem il)
      have mo := po.each m (List.mem_of_getElem? hm)
      have e0 := mo.err0
      have gl : gs.length = i := by
        have a := hp1.length
        have b := ok1.length
        rw [List.length_take] at b
        omega
      generalize ts[i] = t at hat
      refine ⟨.ref d, rfl, .ref t, rfl, t, _, 3, _, rfl, rfl, .inl (.inl hat), atI_nat (j := 3) rfl, _, _, rfl, rfl, .inl ⟨by decide, by decide⟩, _, _, rfl, rfl, d, _, rfl, r1.at_, by omega, fun H2 u r2 u0 u1 => ?_⟩
      have hat2 : MtAt H2 t m := r2.tup r1.at_ hat
      have hS2 : SqT K H2 t [.str m.name, .int m.low, .int m.high, .int m.err] := .inl (.inl hat2)
      refine ⟨.ref t, rfl, t, _, 3, _, rfl, rfl, hS2, atI_nat (j := 3) rfl, _, _, rfl, rfl, ?_⟩
      refine ⟨.ref d, rfl, d, _, rfl, r2.at_, by decide, fun H3 x r3 x0 x1 => ⟨rfl, _, rfl, ite2 (fun e => ?c1) (fun e => ?c2)⟩⟩
      case' c1 =>
        have hat3 : MtAt H3 t m := r3.tup r2.at_ hat2
        have hS3 : SqT K H3 t [.str m.name, .int m.low, .int m.high, .int m.err] := .inl (.inl hat3)
        refine ⟨.ref t, rfl, t, _, 3, _, rfl, rfl, hS3, atI_nat (j := 3) rfl, .ref t, rfl, t, _, 3, _, rfl, rfl, hS3, atI_nat (j := 3) rfl, _, rfl, small' (n := 2) (by decide), fun p4 n4 => ?_⟩
        have r13 := r2.trans r3
        have n4d : p4 ≠ d := r3.ne n4
        have q4 := r13.then (same_new (o := .lst [.int m.err, .int (-m.err)]) n4)
        refine ⟨.ref d, rfl, d, _, rfl, q4.at_, by decide, fun HX z rX z0 z1 => ?_⟩
        have h5 : HX p4 = some (.lst [.int m.err, .int (-m.err)]) := rX.keep _ _ n4d upd_same
        obtain ⟨off, offm, offa⟩ := pick (xs := [m.err, -m.err]) (vs := [.int m.err, .int (-m.err)]) (k := z) rfl (by omega) (by show z < 2; omega)
        have offB : -m.err ≤ off ∧ off ≤ m.err := by
          simp only [List.mem_cons, List.not_mem_nil, or_false] at offm
          omega
        refine ⟨p4, _, _, _, rfl, rfl, .inl (.inl h5), offa, ?_⟩
        have rH := q4.trans rX
      case' c2 =>
        obtain ⟨HX, rfl⟩ : ∃ HX, HX = H3 := ⟨_, rfl⟩
        dsimp only
        have offB : -m.err ≤ u - m.err ∧ u - m.err ≤ m.err := by omega
        generalize u - m.err = off at offB
        have rH := r2.trans r3
      all_goals (
        have hatX : MtAt HX t m := rH.tup r1.at_ hat
        have hGX : HX G = some (.lst (gs.map V.ref)) := rH.keep _ _ nGd hG1
        have hpX := lgs_kept (rH.kt r1.at_) hp1
        refine ⟨.ref d, rfl, .ref t, rfl, .int most, rfl, .int c, rfl, d, t, m, most, c, rfl, rH.at_, hatX, mo.order, m0, m1, fun H6 tt us xs st r6 htt hus okx len6 => ?_⟩
        have hG6 : H6 G = some (.lst (gs.map V.ref)) := r6.keep _ _ nGd hGX
        have hp6 := lgs_kept (r6.kt rH.at_) hpX
        have hat6 : MtAt H6 t m := r6.tup rH.at_ hatX
        have rA := (r1.trans rH).trans r6
        have lg : (gs.map V.ref).length < sizeLine := by
          rw [List.length_map]
          exact small (by omega)
        have inv : ∀ (HY : Hp) (ty g : Addr) (vs : List Addr) (ys : List Sl), Same H6 HY → HY ty = some (.tup (vs.map V.ref)) → Paired (SlAt HY) vs ys → SlsOk m c st ys → ys.length ≤ 50 → HY g = none → ∀ σ, σ = [some (.ref d), some (.ref p), some (.int most), some (.int c), some (.ref G), some (.ref t), some (.int off), some (.ref ty)] →
            ∃ (y5 y6 y7 : Option V) (gs' : List Addr) (ls' : List Lg), σ = [some (.ref d), some (.ref p), some (.int most), some (.int c), some (.ref G), y5, y6, y7] ∧ Dr d H (upd (upd HY g (.tup [.str m.name, .int off, .ref ty])) G (.lst (gs.map V.ref ++ [.ref g]))) ∧ upd (upd HY g (.tup [.str m.name, .int off, .ref ty])) G (.lst (gs.map V.ref ++ [.ref g])) G = some (.lst (gs'.map V.ref)) ∧
              Paired (LgAt (upd (upd HY g (.tup [.str m.name, .int off, .ref ty])) G (.lst (gs.map V.ref ++ [.ref g])))) gs' ls' ∧ Paired (fun m x => LgOk m c x) (P.ms.take (i + 1)) ls' := by
          rintro HY ty g vs ys sY hty hvs oky leny ng σ rfl
          have k1 := same_new (o := .tup [.str m.name, .int off, .ref ty]) ng
          have hG7 := k1 _ _ (sY _ _ hG6)
          have kk := KT.trans (Same.kt (sY.trans k1)) (kt_lst (ys := gs.map V.ref ++ [.ref g]) hG7)
          refine ⟨_, _, _, gs ++ [g], ls ++ [⟨m.name, off, ys⟩], rfl, ((rA.then sY).then k1).keepNew nGd nG, by rw [upd_same, map_snoc], (lgs_kept kk hp6).snoc ?_, paired_snoc_at ok1 hm ⟨rfl, offB.1, offB.2, ⟨st, oky⟩, leny⟩⟩
          exact LgAt.kept (kt_lst hG7) ⟨ty, vs, upd_same, k1 _ _ hty, sls_kept (Same.kt k1) hvs⟩
        refine ⟨.ref G, rfl, G, _, rfl, .inl (.inl (.inl hG6)), _, _, rfl, rfl, _, rfl, ite2 (fun _ => ?_) (fun _ => ?_)⟩
        · have ec : cutV (us.map V.ref) none (some most) = (us.take most.toNat).map V.ref := by
            have e1 := cutV_to (us.map V.ref) most.toNat
            rw [Int.toNat_of_nonneg m0] at e1
            rw [e1, List.map_take]
          refine ⟨.ref tt, rfl, .int most, rfl, most, rfl, tt, _, rfl, .inl (.inl htt), fun _ => ?_, fun _ pn npn => ?_⟩
          · exact ⟨.ref G, rfl, .inl ⟨rfl, _, .inl (.inl hG6)⟩, .ref t, rfl, t, _, 0, _, rfl, rfl, .inl (.inl hat6), atI_nat (j := 0) rfl, .int off, rfl, .ref tt, rfl, small' (n := 3) (by decide), fun g ng => ⟨G, _, _, rfl, rfl, same_new ng _ _ hG6, lg, inv H6 tt g us xs (Same.refl _) htt hus okx (by have := hus.length; omega) ng _ rfl⟩⟩
          · rw [ec]
            have kn := same_new (o := .tup ((us.take most.toNat).map V.ref)) npn
            have lx := hus.length
            exact ⟨.ref G, rfl, .inl ⟨rfl, _, .inl (.inl (kn _ _ hG6))⟩, .ref t, rfl, t, _, 0, _, rfl, rfl, .inl (.inl (kn _ _ hat6)), atI_nat (j := 0) rfl, .int off, rfl, .ref pn, rfl, small' (n := 3) (by decide), fun g ng => ⟨G, _, _, rfl, rfl, same_new ng _ _ (kn _ _ hG6), lg, inv _ pn g (us.take most.toNat) (xs.take most.toNat) kn upd_same (paired_take _ (sls_kept (Same.kt kn) hus)) (okx.take _) (by rw [List.length_take]; omega) ng _ rfl⟩⟩
        · exact ⟨.ref G, rfl, .inl ⟨rfl, _, .inl (.inl hG6)⟩, .ref t, rfl, t, _, 0, _, rfl, rfl, .inl (.inl hat6), atI_nat (j := 0) rfl, .int off, rfl, .ref tt, rfl, small' (n := 3) (by decide), fun g ng => ⟨G, _, _, rfl, rfl, same_new ng _ _ hG6, lg, inv H6 tt g us xs (Same.refl _) htt hus okx (by have := hus.length; omega) ng _ rfl⟩⟩)
    · obtain ⟨y5, y6, y7, gs, ls, rfl, r1, hG1, hp1, ok1⟩ := hp
      rw [List.length_map, tl, List.take_length] at ok1
      refine ⟨.ref G, rfl, G, _, rfl, .inl ⟨.inl (.inl hG1), fun h nh => q _ h ls (r1.then (same_new nh)) ⟨gs, upd_same, lgs_kept (Same.kt (same_new nh)) hp1⟩ ok1⟩⟩
end
def sp_l_log (K : PySem.W.Frag) : Sp := fun vs H Q _ => ∃ (h : Addr) (ls : List Lg) (n : Str) (g : Lg) (r : List Lg), vs = [.ref h, .str n] ∧ HistAt H h ls ∧ ls.length ≤ 100 ∧ ls.filter (fun g => decide (V.str g.name = V.str n)) = g :: r ∧ ∀ H' ga, Same H H' → LgAt H' ga g → Q (.ref ga) H'
section
variable {P : Program} {w : World} {K : PySem.W.Frag} {mg : Str → Option Value} {base : Heap}
theorem ok_l_log (T : Ctx K mg) : FnOk P w K mg base CX0 1 T.f_l_log T.fd_l_log ["history", "name"] (sp_l_log K) := by
  refine T.F_l_log.ok sc_l_log (fun vs H Q E h => ?_) (fun cdv A outer s H vs Q E hr h => ?_)
  · obtain ⟨h', ls, n, g, r, rfl, _⟩ := h
    rfl
  · obtain ⟨h0, ls, n, g, r, rfl, ⟨gs, hh, hgs⟩, few, ef, q⟩ := h
    refine ⟨_, (pss_one (ps_ret (pe_ix ix_list (pe_lc (own := [("log", 2)]) (g := gName 2) (by rfl) sc_l_log.nd (pi_tup (pv 0)) (blkOk_by (own := [("log", 2)]) (N := ["history", "name", "log"]) (sc := defScope s_l_log) (by decide +kernel)) (fun _ _ _ _ _ => pg_name (i := 2) sc_l_log.nd rfl (Or.inl rfl)) (fun _ _ _ _ _ => (pts_one (pt_cmpR op_eq (pe_ix (show IxR _ (rIxT K) from ix_tup) (pv 2) pe_int (fun _ _ => rfl)) (pv 1) (nomark _)))) (fun _ _ _ _ _ => (pv 2))) pe_int (fun _ _ => rfl)))), ?_⟩
    have gl : gs.length = ls.length := hgs.length
    refine ⟨.ref h0, rfl, h0, rfl, ⟨_, .inl (.inl hh)⟩, fun C nC => lc_tup (K := K) (a := h0) (xs := gs.map V.ref) (fun i H' => Same H H' ∧ ∃ es, H' C = some (.lst (es.map V.ref)) ∧ Paired (LgAt H') es ((ls.take i).filter (fun g => decide (V.str g.name = V.str n))) ∧ es.length ≤ i) ⟨same_new nC, [], upd_same, by rw [List.take_zero]; exact .nil, Nat.zero_le _⟩ (fun i H' _ z => .inl (.inl (z.1 _ _ hh))) (fun i x H' hx z => ?_) (fun H' z => ?_)⟩
    · obtain ⟨s1, es, hC, hes, el⟩ := z
      have il : i < gs.length := by
        have := (List.getElem?_eq_some_iff.mp hx).1
        rw [List.length_map] at this
        exact this
      have ex : x = .ref gs[i] := by
        rw [List.getElem?_map, List.getElem?_eq_getElem il] at hx
        exact (Option.some.inj hx).symm
      subst ex
      obtain ⟨g1, hg1, tt, ss, hat, htt, hss⟩ := lgs_at hgs (List.getElem?_eq_getElem il)
      generalize gs[i] = ga at hat
      have e1 : (ls.take (i + 1)).filter (fun g => decide (V.str g.name = V.str n)) = (ls.take i).filter (fun g => decide (V.str g.name = V.str n)) ++ (if decide (V.str g1.name = V.str n) = true then [g1] else []) := by
        rw [List.take_add_one, hg1, List.filter_append]
        congr 1
        show List.filter _ [g1] = _
        rw [List.filter_cons, List.filter_nil]
      refine ⟨rfl, .ref ga, rfl, ga, _, 0, _, rfl, rfl, .inl (.inl (s1 _ _ hat)), atI_nat (j := 0) rfl, .str n, rfl, rfl, _, rfl, ?_⟩
      by_cases c : decide (V.str g1.name = V.str n) = true
      · rw [c]
        refine iteT ?_
        rw [if_pos c] at e1
        refine ⟨.ref ga, rfl, _, hC, by rw [List.length_map]; exact small (by omega), same_keep s1 nC, es ++ [ga], by rw [upd_same, map_snoc], ?_, by rw [List.length_append]; show _ + 1 ≤ _; omega⟩
        rw [e1]
        refine (lgs_kept (kt_lst hC) hes).snoc (LgAt.kept (kt_lst hC) ⟨tt, ss, s1 _ _ hat, s1 _ _ htt, sls_kept (Same.kt s1) hss⟩)
      · rw [if_neg c, List.append_nil] at e1
        have c' : decide (V.str g1.name = V.str n) = false := by
          cases hq : decide (V.str g1.name = V.str n) with
          | false => rfl
          | true => exact absurd hq c
        rw [c']
        refine iteF ⟨s1, es, hC, ?_, by omega⟩
        rw [e1]
        exact hes
    · obtain ⟨s1, es, hC, hes, el⟩ := z
      rw [List.length_map, gl, List.take_length, ef] at hes
      cases hes with
      | cons a b =>
        exact ⟨C, _, 0, _, rfl, rfl, .inl (.inl hC), atI_nat (j := 0) rfl, q _ _ s1 a⟩
end
def sp_l_is_true (K : PySem.W.Frag) : Sp := fun vs H Q _ => ∃ (t h : Addr) (l : Lt) (ls : List Lg) (g : Lg) (r : List Lg), vs = [.ref t, .ref h] ∧ LtAt H t l ∧ HistAt H h ls ∧ ls.length ≤ 100 ∧ (∀ g ∈ ls, g.slots.length ≤ 1000) ∧ ls.filter (fun g => decide (V.str g.name = V.str l.name)) = g :: r ∧ l.Nn ∧ ∀ H', Same H H' → Q (.bl (trueIn g l)) H'
section
variable {P : Program} {w : World} {K : PySem.W.Frag} {mg : Str → Option Value} {base : Heap}
theorem ok_l_is_true (T : Ctx K mg) : FnOk P w K mg base CX0 2 T.f_l_is_true T.fd_l_is_true ["letter", "history"] (sp_l_is_true K) := by
  refine T.F_l_is_true.ok sc_l_is_true (fun vs H Q E h => ?_) (fun cdv A outer s H vs Q E hr h => ?_)
  · obtain ⟨t, h', l, ls, g, r, rfl, _⟩ := h
    rfl
  · obtain ⟨t, h0, l, ls, g, r, rfl, ht, hh, few, fews, ef, nn, q⟩ := h
    refine ⟨_, (pss_cons (ps_set (i := 2) sc_l_is_true.nd rfl (.inl rfl) (pe_call (ok_l_log T) (hr.mono (by decide)) (by rfl) T.g_l_log T.F_l_log.kp T.b_l_log .nil pass0 (pa_cons (pv 1) (pa_cons (pe_ix ix_tup (pv 0) pe_int (fun _ _ => rfl)) pa_nil))))
      (pss_cons (ps_set (i := 3) sc_l_is_true.nd rfl (.inl rfl) (pe_ix ix_tup (pv 2) pe_int (fun _ _ => rfl)))
      (pss_cons (ps_if (pt_cmpR op_eq (pe_ix ix_tup (pv 0) pe_int (fun _ _ => rfl)) pe_str (nomark _))
        (pss_one (ps_ret (pe_and (pe_cmpR op_le (pe_ix ix_tup (pv 0) pe_int (fun _ _ => rfl)) (pe_ix ix_tup (pv 2) pe_int (fun _ _ => rfl)) (nomark _)) (pe_one (pe_cmpR op_le (pe_ix ix_tup (pv 2) pe_int (fun _ _ => rfl)) (pe_ix ix_tup (pv 0) pe_int (fun _ _ => rfl)) (nomark _))))))
        pss_nil)
      (pss_cons (ps_if (pt_cmpR op_gt (pe_ix ix_tup (pv 0) pe_int (fun _ _ => rfl)) (pe_callB call_len_seq (by rfl) T.m_len (by decide +kernel) (pa_cons (pv 3) pa_nil)) (nomark _))
        (pss_one (ps_ret pe_bl))
        pss_nil)
      (pss_cons (ps_if (pt_cmpR op_eq (pe_ix ix_tup (pv 0) pe_int (fun _ _ => rfl)) pe_str (nomark _))
        (pss_cons (ps_set (i := 4) sc_l_is_true.nd rfl (.inl rfl) (pe_ix ix_tup (pv 3) (pe_op op_sub (pe_ix ix_tup (pv 0) pe_int (fun _ _ => rfl)) pe_int) (fun _ _ => rfl)))
      (pss_one (ps_ret (pe_and (pe_cmpR op_eq (pe_ix ix_tup (pv 4) pe_int (fun _ _ => rfl)) (pe_ix ix_tup (pv 0) pe_int (fun _ _ => rfl)) (nomark _)) (pe_and (pe_cmpR op_lt (pe_ix ix_tup (pv 0) pe_int (fun _ _ => rfl)) (pe_callB call_len_seq (by rfl) T.m_len (by decide +kernel) (pa_cons (pe_ix ix_tup (pv 4) pe_int (fun _ _ => rfl)) pa_nil)) (nomark _)) (pe_one (pe_cmpR op_eq (pe_ix ix_tup (pe_ix ix_tup (pv 4) pe_int (fun _ _ => rfl)) (pe_ix ix_tup (pv 0) pe_int (fun _ _ => rfl)) (fun _ _ => rfl)) (pe_ix ix_tup (pv 0) pe_int (fun _ _ => rfl)) (nomark _))))))))
        pss_nil)
      (pss_cons (ps_for PassesOwn.never rfl (pi_range1 (by rfl) T.m_range (pa_cons (pe_callB call_len_seq (by rfl) T.m_len (by decide +kernel) (pa_cons (pv 3) pa_nil)) pa_nil)) (pg_name (i := 5) sc_l_is_true.nd rfl (.inl rfl))
        (pss_one (ps_if (pt_cmpR op_ne (pe_cmpR op_lt (pe_ix ix_tup (pe_ix ix_tup (pv 3) (pv 5) (fun _ _ => rfl)) pe_int (fun _ _ => rfl)) (pe_ix ix_tup (pv 0) pe_int (fun _ _ => rfl)) (nomark _)) (pe_cmpR op_lt (pv 5) (pe_ix ix_tup (pv 0) pe_int (fun _ _ => rfl)) (nomark _)) (nomark _))
        (pss_one (ps_ret pe_bl))
        pss_nil)))
      (pss_one (ps_ret (pe_cmpR op_eq (pe_callB (cr_sum rfl) (by rfl) T.m_sum (by decide +kernel) (pa_cons (pe_lc (own := [("slot", 4)]) (g := gName 4) (by rfl) sc_l_is_true.nd (pi_tup (pe_slice TX.sl_any (pv 3) po_none (po_some (pe_ix ix_tup (pv 0) pe_int (fun _ _ => rfl))))) (blkOk_by (own := [("slot", 4)]) (N := ["letter", "history", "log", "slots", "slot", "k"]) (sc := defScope s_l_is_true) (by decide +kernel)) (fun _ _ _ _ _ => pg_name (i := 4) sc_l_is_true.nd rfl (Or.inl rfl)) (fun _ _ _ _ _ => pts_nil) (fun _ _ _ _ _ => (pe_callB (show CallR _ _ (rLenK K) from call_len_seq) (by rfl) T.m_len (by decide +kernel) (pa_cons (pe_ix (show IxR _ (rIxT K) from ix_tup) (pv 4) pe_int (fun _ _ => rfl)) pa_nil)))) pa_nil)) (pe_ix ix_tup (pv 0) pe_int (fun _ _ => rfl)) (nomark _)))))))))), ?_⟩
    have ht' : H t = some (.tup (.str l.kind :: .str l.name :: l.nums.map optV)) := by rw [← Lt.vals_eq]; exact ht
    refine ⟨.ref h0, rfl, .ref t, rfl, t, _, 1, _, rfl, rfl, .inl (.inl ht'), atI_nat (j := 1) rfl, h0, ls, l.name, g, r, rfl, hh, few, ef, fun H1 ga s1 hga => ?_⟩
    obtain ⟨tt, ss, hat, htt, hss⟩ := hga
    have lss : ss.length = g.slots.length := hss.length
    have hG : SqT K H1 ga [.str g.name, .int g.off, .ref tt] := .inl (.inl hat)
    have hSl : SqT K H1 tt (ss.map V.ref) := .inl (.inl htt)
    have q1 := q H1 s1
    refine ⟨.ref ga, rfl, ga, _, 2, _, rfl, rfl, hG, atI_nat (j := 2) rfl, ?_⟩
    cases l with
    | clock n lo hi =>
      have hT : SqT K H1 t [.str "clock", .str n, .int lo, .int hi] := .inl (.inl (s1 _ _ ht))
      refine ⟨.ref t, rfl, t, _, 0, _, rfl, rfl, hT, atI_nat (j := 0) rfl, rfl, _, rfl, ite2 (fun e => ?_) (fun e => absurd (decide_eq_true rfl) e)⟩
      refine ⟨.ref t, rfl, t, _, 2, _, rfl, rfl, hT, atI_nat (j := 2) rfl, .ref ga, rfl, ga, _, 1, _, rfl, rfl, hG, atI_nat (j := 1) rfl, _, _, rfl, rfl, _, rfl, ite2 (fun e => ?_) (fun e => ?_)⟩
      · have c : lo ≤ g.off := of_decide_eq_true e
        have e2 : trueIn g (.clock n lo hi) = decide (g.off ≤ hi) := if_pos c
        rw [e2] at q1
        exact ⟨.ref ga, rfl, ga, _, 1, _, rfl, rfl, hG, atI_nat (j := 1) rfl, .ref t, rfl, t, _, 3, _, rfl, rfl, hT, atI_nat (j := 3) rfl, _, _, rfl, rfl, q1⟩
      · have c : ¬ lo ≤ g.off := fun z => e (decide_eq_true z)
        have e2 : trueIn g (.clock n lo hi) = false := if_neg c
        rw [e2] at q1
        exact q1
    | close n f a w =>
      have f0 : 0 ≤ f := nn
      have gfew := fews g (List.mem_filter.mp (by rw [ef]; exact List.mem_cons_self)).1
      have hT : SqT K H1 t [.str "close", .str n, .int f, .int a, .int w] := .inl (.inl (s1 _ _ ht))
      refine ⟨.ref t, rfl, t, _, 0, _, rfl, rfl, hT, atI_nat (j := 0) rfl, rfl, _, rfl, ite2 (fun e => absurd e (by decide +kernel)) (fun e => ?_)⟩
      refine ⟨.ref t, rfl, t, _, 2, _, rfl, rfl, hT, atI_nat (j := 2) rfl, .ref tt, rfl, tt, _, rfl, .inr hSl, _, _, rfl, rfl, _, rfl, ite2 (fun e => ?_) (fun e => ?_)⟩
      · have c : f > (g.slots.length : Int) := by
          have z := of_decide_eq_true e
          rw [List.length_map, lss] at z
          exact z
        have e2 : trueIn g (.close n f a w) = false := if_pos c
        rw [e2] at q1
        exact q1
      · have c : ¬ f > (g.slots.length : Int) := fun z => e (decide_eq_true (by rw [List.length_map, lss]; exact z))
        have e2 : trueIn g (.close n f a w) = closeOf g.slots f a w := if_neg c
        rw [e2] at q1 q
        refine ⟨.ref t, rfl, t, _, 0, _, rfl, rfl, hT, atI_nat (j := 0) rfl, rfl, _, rfl, ite2 (fun e => absurd e (by decide +kernel)) (fun e => ?_)⟩
        refine ⟨.ref tt, rfl, tt, _, rfl, .inr hSl, ((ss.map V.ref).length : Int), rfl, by omega, by rw [List.length_map]; omega, for_range (lo := 0) (n := (ss.map V.ref).length) (fun i σ H' => ∃ y4 y5 : Option V, σ = [some (.ref t), some (.ref h0), some (.ref ga), some (.ref tt), y4, y5] ∧ H' = H1 ∧ ∀ (j : Nat) (s : Sl), j < i → g.slots[j]? = some s → decide (s.stamp < a) = decide ((j : Int) < f)) ⟨none, none, rfl, rfl, fun _ _ z => absurd z (Nat.not_lt_zero _)⟩ (fun i σ H' hi hp => ?_) (fun σ H' hp => ?_)⟩
        · obtain ⟨y4, y5, rfl, rfl, hall⟩ := hp
          rw [List.length_map] at hi
          obtain ⟨z, hz, tv, hza, hzv⟩ := sls_at hss (List.getElem?_eq_getElem hi)
          have atj : atI (ss.map V.ref) (0 + (i : Int)) = some (.ref ss[i]) := atI_z (j := i) (by omega) (by rw [List.getElem?_map, List.getElem?_eq_getElem hi]; rfl)
          generalize ss[i] = sa at hza atj
          refine ⟨.ref tt, rfl, .int (0 + (i : Int)), rfl, tt, _, _, _, rfl, rfl, hSl, atj, sa, _, 0, _, rfl, rfl, .inl (.inl hza), atI_nat (j := 0) rfl, .ref t, rfl, t, _, 3, _, rfl, rfl, hT, atI_nat (j := 3) rfl, _, _, rfl, rfl, .int (0 + (i : Int)), rfl, .ref t, rfl, t, _, 2, _, rfl, rfl, hT, atI_nat (j := 2) rfl, _, _, rfl, rfl, rfl, _, rfl, ite2 (fun e => ?_) (fun e => ?_)⟩
          · have e' : (!decide (V.bl (decide (z.stamp < a)) = V.bl (decide (0 + (i : Int) < f)))) = true := e
            have ne : ¬ decide (z.stamp < a) = decide ((i : Int) < f) := fun y => by
              rw [show (0 : Int) + (i : Int) = (i : Int) by omega, y, decide_eq_true rfl] at e'
              exact Bool.false_ne_true e'
            rw [close_false f0 hz ne] at q1
            exact q1
          · have eq : decide (z.stamp < a) = decide ((i : Int) < f) := Classical.byContradiction fun ne => e (show (!decide (V.bl (decide (z.stamp < a)) = V.bl (decide (0 + (i : Int) < f)))) = true by
              rw [show (0 : Int) + (i : Int) = (i : Int) by omega, decide_eq_false (fun y => ne (V.bl.inj y))]
              rfl)
            refine ⟨_, _, rfl, rfl, fun j s jl hs => ?_⟩
            by_cases ji : j = i
            · subst ji
              rw [hz] at hs
              cases hs
              exact eq
            · exact hall j s (by omega) hs
        obtain ⟨y4, y5, rfl, rfl, hall⟩ := hp
        rw [List.length_map, lss] at hall
        have es := close_sum (w := w) f0 fun j s hs => hall j s (List.getElem?_eq_some_iff.mp hs).1 hs
        rw [es] at q
        have tl : (ss.take f.toNat).length = f.toNat := by rw [List.length_take]; omega
        refine ⟨.ref tt, rfl, .ref t, rfl, t, _, 2, _, rfl, rfl, hT, atI_nat (j := 2) rfl, f, rfl, tt, _, rfl, hSl, fun b H2 s2 hb => ?_⟩
        rw [cut_toM V.ref ss f f0] at hb
        refine ⟨b, rfl, ⟨_, hb⟩, fun G nG => lc_tup (K := K) (a := b) (xs := (ss.take f.toNat).map V.ref) (fun i H' => Same H2 H' ∧ H' G = some (.lst ((((g.slots.take f.toNat).take i).map fun s => (s.vers.length : Int)).map V.int)) ∧ i ≤ 1000) ⟨same_new nG, upd_same, Nat.zero_le _⟩ (fun i H' _ z => sqT_same z.1 hb) (fun i x H' hx z => ?_) (fun H5 z => ?_)⟩
        · obtain ⟨s5, hG, _⟩ := z
          rw [List.getElem?_map] at hx
          obtain ⟨u, hu, rfl⟩ := Option.map_eq_some_iff.mp hx
          have il := (List.getElem?_eq_some_iff.mp hu).1
          rw [tl] at il
          rw [List.getElem?_take, if_pos il] at hu
          obtain ⟨z, hz, hz2⟩ := sls_at hss hu
          have hzi : (g.slots.take f.toNat)[i]? = some z := by rw [List.getElem?_take, if_pos il]; exact hz
          obtain ⟨tv, hz1, hz2⟩ := hz2.kept (Same.kt (s2.trans s5))
          refine ⟨rfl, .ref u, rfl, u, _, 1, _, rfl, rfl, .inl (.inl hz1), atI_nat (j := 1) rfl, tv, _, rfl, .inr (.inl (.inl hz2)), _, hG, ?_, same_keep s5 nG, ?_, by omega⟩
          · rw [List.length_map, List.length_map, List.length_take, List.length_take]
            exact small (by omega)
          · rw [upd_same, map_take_snoc (fun s => (s.vers.length : Int)) hzi, List.map_append, List.length_map]
            rfl
        obtain ⟨s5, hG, _⟩ := z
        rw [List.length_map, tl, List.take_of_length_le (by rw [List.length_take]; omega)] at hG
        have s15 := (s1.trans s2).trans s5
        exact ⟨G, _, rfl, .inl (.inl hG), .ref t, rfl, t, _, 4, _, rfl, rfl, .inl (.inl (s15 _ _ ht)), atI_nat (j := 4) rfl, rfl, q _ s15⟩
    | read n s v a x =>
      obtain ⟨n1, n2⟩ := nn
      have hT : SqT K H1 t [.str "read", .str n, .int s, .int v, .int a, optV x] := .inl (.inl (s1 _ _ ht))
      refine ⟨.ref t, rfl, t, _, 0, _, rfl, rfl, hT, atI_nat (j := 0) rfl, rfl, _, rfl, ite2 (fun e => absurd e (by decide +kernel)) (fun e => ?_)⟩
      refine ⟨.ref t, rfl, t, _, 2, _, rfl, rfl, hT, atI_nat (j := 2) rfl, .ref tt, rfl, tt, _, rfl, .inr hSl, _, _, rfl, rfl, _, rfl, ite2 (fun e => ?_) (fun e => ?_)⟩
      · have c : s > (g.slots.length : Int) := by
          have z := of_decide_eq_true e
          rw [List.length_map, lss] at z
          exact z
        have e2 : trueIn g (.read n s v a x) = false := if_pos c
        rw [e2] at q1
        exact q1
      · have c : ¬ s > (g.slots.length : Int) := fun z => e (decide_eq_true (by rw [List.length_map, lss]; exact z))
        have e2 : trueIn g (.read n s v a x) = readOf g.slots s v a x := if_neg c
        rw [e2] at q1
        have hi : (s - 1).toNat < ss.length := by omega
        obtain ⟨z, hz, tv, hza, hzv⟩ := sls_at hss (List.getElem?_eq_getElem hi)
        have ats : atI (ss.map V.ref) (s - 1) = some (.ref ss[(s - 1).toNat]) := atI_z (j := (s - 1).toNat) (by omega) (by rw [List.getElem?_map, List.getElem?_eq_getElem hi]; rfl)
        generalize ss[(s - 1).toNat] = sa at hza ats
        have hZ : SqT K H1 sa [.int z.stamp, .ref tv] := .inl (.inl hza)
        have hV : SqT K H1 tv (z.vers.map optV) := .inl (.inl hzv)
        have e3 : readOf g.slots s v a x = if z.stamp = a then (if v < z.vers.length then (match z.vers[v.toNat]? with | some y => decide (optV y = optV x) | none => false) else false) else false := by
          unfold readOf
          simp only [hz] <;> rfl
        rw [e3] at q1
        refine ⟨.ref t, rfl, t, _, 0, _, rfl, rfl, hT, atI_nat (j := 0) rfl, rfl, _, rfl, ite2 (fun _ => ?_) (fun e => absurd (decide_eq_true rfl) e)⟩
        refine ⟨.ref tt, rfl, .ref t, rfl, t, _, 2, _, rfl, rfl, hT, atI_nat (j := 2) rfl, _, _, rfl, rfl, tt, _, _, _, rfl, rfl, hSl, ats, ?_⟩
        refine ⟨.ref sa, rfl, sa, _, 0, _, rfl, rfl, hZ, atI_nat (j := 0) rfl, .ref t, rfl, t, _, 4, _, rfl, rfl, hT, atI_nat (j := 4) rfl, rfl, _, rfl, ite2 (fun e => ?_) (fun e => ?_)⟩
        · have c1 : z.stamp = a := V.int.inj (of_decide_eq_true e)
          rw [if_pos c1] at q1
          refine ⟨.ref t, rfl, t, _, 3, _, rfl, rfl, hT, atI_nat (j := 3) rfl, .ref sa, rfl, sa, _, 1, _, rfl, rfl, hZ, atI_nat (j := 1) rfl, tv, _, rfl, .inr hV, _, _, rfl, rfl, _, rfl, ite2 (fun e => ?_) (fun e => ?_)⟩
          · have c2 : v < z.vers.length := by
              have y := of_decide_eq_true e
              rw [List.length_map] at y
              exact y
            rw [if_pos c2] at q1
            have hv : z.vers[v.toNat]? = some (z.vers[v.toNat]'(by omega)) := List.getElem?_eq_getElem (by omega)
            generalize z.vers[v.toNat]'(by omega) = y at hv
            rw [hv] at q1
            have atv : atI (z.vers.map optV) v = some (optV y) := atI_z (j := v.toNat) (by omega) (by rw [List.getElem?_map, hv]; rfl)
            exact ⟨.ref sa, rfl, sa, _, 1, _, rfl, rfl, hZ, atI_nat (j := 1) rfl, .ref t, rfl, t, _, 3, _, rfl, rfl, hT, atI_nat (j := 3) rfl, tv, _, _, _, rfl, rfl, hV, atv, .ref t, rfl, t, _, 5, _, rfl, rfl, hT, atI_nat (j := 5) rfl, by cases y <;> cases x <;> rfl, q1⟩
          · have c2 : ¬ v < z.vers.length := fun y => e (decide_eq_true (by rw [List.length_map]; exact y))
            rw [if_neg c2] at q1
            exact q1
        · have c1 : ¬ z.stamp = a := fun y => e (decide_eq_true (congrArg V.int y))
          rw [if_neg c1] at q1
          exact q1
end
def sp_l_close (K : PySem.W.Frag) : Sp := fun vs H Q _ => ∃ (d ga : Addr) (g : Lg), vs = [.ref d, .ref ga] ∧ DrA H d ∧ LgAt H ga g ∧ g.slots.length ≤ 300 ∧
  (∀ H', Dr d H H' → Q .non H') ∧ ∀ (H' : Hp) (p : Addr) (f a w : Int), Dr d H H' → LtAt H' p (.close g.name f a w) → 0 ≤ f → Q (.ref p) H'
section
variable {P : Program} {w : World} {K : PySem.W.Frag} {mg : Str → Option Value} {base : Heap}
set_option pp.maxSteps 300 in
set_option maxHeartbeats 2000000 in
theorem ok_l_close (T : Ctx K mg) : FnOk P w K mg base CX0 2 T.f_l_close T.fd_l_close ["draws", "log"] (sp_l_close K) := by
  refine T.F_l_close.ok sc_l_close (fun vs H Q E h => ?_) (fun cdv A outer s H vs Q E hr h => ?_)
  · obtain ⟨d, ga, g, rfl, _⟩ := h
    rfl
  · obtain ⟨d, ga, g, rfl, hd, ⟨tt, ss, hat, htt, hss⟩, few, q0, q1⟩ := h
    refine ⟨_, (pss_cons (ps_set (i := 2) sc_l_close.nd rfl (.inl rfl) (pe_ix ix_tup (pv 1) pe_int (fun _ _ => rfl)))
      (pss_cons (ps_set (i := 3) sc_l_close.nd rfl (.inl rfl) (pe_ix ix_list (pe_lst (pa_cons (pe_callB call_len_seq (by rfl) T.m_len (by decide +kernel) (pa_cons (pv 2) pa_nil)) (pa_cons (pe_callB call_len_seq (by rfl) T.m_len (by decide +kernel) (pa_cons (pv 2) pa_nil)) (pa_cons (pe_call (ok_l_take T) (hr.mono (by decide)) (by rfl) T.g_l_take T.F_l_take.kp T.b_l_take .nil pass0 (pa_cons (pv 0) (pa_cons (pe_op op_add (pe_callB call_len_seq (by rfl) T.m_len (by decide +kernel) (pa_cons (pv 2) pa_nil)) pe_int) pa_nil))) pa_nil)))) (pe_call (ok_l_take T) (hr.mono (by decide)) (by rfl) T.g_l_take T.F_l_take.kp T.b_l_take .nil pass0 (pa_cons (pv 0) (pa_cons pe_int pa_nil))) (fun _ _ => rfl)))
      (pss_cons (ps_set (i := 4) sc_l_close.nd rfl (.inl rfl) (pe_ix ix_list (pe_lst (pa_cons pe_int (pa_cons pe_int (pa_cons pe_int (pa_cons pe_int pa_nil))))) (pe_call (ok_l_take T) (hr.mono (by decide)) (by rfl) T.g_l_take T.F_l_take.kp T.b_l_take .nil pass0 (pa_cons (pv 0) (pa_cons pe_int pa_nil))) (fun _ _ => rfl)))
      (pss_cons (ps_set (i := 5) sc_l_close.nd rfl (.inl rfl) (pe_callB (cr_sum rfl) (by rfl) T.m_sum (by decide +kernel) (pa_cons (pe_lc (own := [("slot", 8)]) (g := gName 8) (by rfl) sc_l_close.nd (pi_tup (pe_slice TT.sl_t (pv 2) po_none (po_some (pv 3)))) (blkOk_by (own := [("slot", 8)]) (N := ["draws", "log", "slots", "many", "far", "total", "low", "high", "slot"]) (sc := defScope s_l_close) (by decide +kernel)) (fun _ _ _ _ _ => pg_name (i := 8) sc_l_close.nd rfl (Or.inl rfl)) (fun _ _ _ _ _ => pts_nil) (fun _ _ _ _ _ => (pe_callB (show CallR _ _ (rLenK K) from call_len_seq) (by rfl) T.m_len (by decide +kernel) (pa_cons (pe_ix (show IxR _ (rIxT K) from ix_tup) (pv 8) pe_int (fun _ _ => rfl)) pa_nil)))) pa_nil)))
      (pss_cons (ps_if (pt_cmpR op_eq (pv 3) (pe_callB call_len_seq (by rfl) T.m_len (by decide +kernel) (pa_cons (pv 2) pa_nil)) (nomark _))
        (pss_cons (ps_if (pt_cmpR op_eq (pv 3) pe_int (nomark _))
        (pss_one (ps_ret (pe_tup (pa_cons pe_str (pa_cons (pe_ix ix_tup (pv 1) pe_int (fun _ _ => rfl)) (pa_cons pe_int (pa_cons (pe_op op_sub (pv 4) pe_int) (pa_cons pe_int pa_nil))))))))
        pss_nil)
      (pss_one (ps_ret (pe_tup (pa_cons pe_str (pa_cons (pe_ix ix_tup (pv 1) pe_int (fun _ _ => rfl)) (pa_cons (pv 3) (pa_cons (pe_op op_add (pe_op op_add (pe_ix ix_tup (pe_ix ix_tup (pv 2) (pe_op op_sub (pv 3) pe_int) (fun _ _ => rfl)) pe_int (fun _ _ => rfl)) pe_int) (pv 4)) (pa_cons (pv 5) pa_nil)))))))))
        pss_nil)
      (pss_cons (ps_if (pt_cmpR op_eq (pv 3) pe_int (nomark _))
        (pss_one (ps_ret (pe_tup (pa_cons pe_str (pa_cons (pe_ix ix_tup (pv 1) pe_int (fun _ _ => rfl)) (pa_cons pe_int (pa_cons (pe_op op_sub (pe_ix ix_tup (pe_ix ix_tup (pv 2) pe_int (fun _ _ => rfl)) pe_int (fun _ _ => rfl)) (pv 4)) (pa_cons pe_int pa_nil))))))))
        pss_nil)
      (pss_cons (ps_set (i := 6) sc_l_close.nd rfl (.inl rfl) (pe_op op_add (pe_ix ix_tup (pe_ix ix_tup (pv 2) (pe_op op_sub (pv 3) pe_int) (fun _ _ => rfl)) pe_int (fun _ _ => rfl)) pe_int))
      (pss_cons (ps_set (i := 7) sc_l_close.nd rfl (.inl rfl) (pe_ix ix_tup (pe_ix ix_tup (pv 2) (pv 3) (fun _ _ => rfl)) pe_int (fun _ _ => rfl)))
      (pss_cons (ps_if (pt_cmpR op_gt (pv 6) (pv 7) (nomark _))
        (pss_one (ps_ret pe_non))
        pss_nil)
      (pss_one (ps_ret (pe_tup (pa_cons pe_str (pa_cons (pe_ix ix_tup (pv 1) pe_int (fun _ _ => rfl)) (pa_cons (pv 3) (pa_cons (pe_ix ix_list (pe_lst (pa_cons (pv 6) (pa_cons (pv 7) (pa_cons (pe_callB (call_min2 rfl) (by rfl) T.m_min (by decide +kernel) (pa_cons (pv 7) (pa_cons (pe_op op_add (pv 6) (pv 4)) pa_nil))) pa_nil)))) (pe_call (ok_l_take T) (hr.mono (by decide)) (by rfl) T.g_l_take T.F_l_take.kp T.b_l_take .nil pass0 (pa_cons (pv 0) (pa_cons pe_int pa_nil))) (fun _ _ => rfl)) (pa_cons (pv 5) pa_nil))))))))))))))))), ?_⟩
    have ssl := hss.length
    have big : (100000 : Nat) < sizeLine := by rw [sizeLine_eq]; decide
    have hG : SqT K H ga [.str g.name, .int g.off, .ref tt] := .inl (.inl hat)
    have hT : SqT K H tt (ss.map V.ref) := .inl (.inl htt)
    refine ⟨.ref ga, rfl, ga, _, 2, _, rfl, rfl, hG, atI_nat (j := 2) rfl, ?_⟩
    refine ⟨.ref tt, rfl, tt, _, rfl, .inr hT, .ref tt, rfl, tt, _, rfl, .inr hT, .ref d, rfl, .ref tt, rfl, tt, _, rfl, .inr hT, _, _, rfl, rfl, d, _, rfl, hd, by omega, fun H1 x r1 x0 x1 => ⟨small' (n := 3) (by decide), fun E nE => ?_⟩⟩
    rw [List.length_map] at x1 ⊢
    have nEd := r1.ne nE
    have q2 := r1.then (same_new (o := .lst [.int (ss.length : Nat), .int (ss.length : Nat), .int x]) nE)
    refine ⟨.ref d, rfl, d, _, rfl, q2.at_, by decide, fun H2 y r2 y0 y1 => ?_⟩
    have hE : H2 E = some (.lst (([(ss.length : Nat), (ss.length : Nat), x] : List Int).map V.int)) := r2.keep _ _ nEd upd_same
    obtain ⟨many, mm, ma⟩ := pickI (xs := [((ss.length : Nat) : Int), (ss.length : Nat), x]) (k := y) rfl y0 (by show y < 3; omega)
    have mB : 0 ≤ many ∧ many ≤ (ss.length : Nat) := by
      simp only [List.mem_cons, List.not_mem_nil, or_false] at mm
      omega
    refine ⟨E, _, y, _, rfl, rfl, .inl (.inl hE), ma, small' (n := 4) (by decide), fun E2 nE2 => ?_⟩
    have r02 := q2.trans r2
    have nE2d := r02.ne nE2
    have q3 := r02.then (same_new (o := .lst [.int 0, .int 1, .int 5, .int 60]) nE2)
    refine ⟨.ref d, rfl, d, _, rfl, q3.at_, by decide, fun H3 z r3 z0 z1 => ?_⟩
    have hE2 : H3 E2 = some (.lst (([0, 1, 5, 60] : List Int).map V.int)) := r3.keep _ _ nE2d upd_same
    obtain ⟨far, fm, fa⟩ := pickI (xs := [0, 1, 5, 60]) (k := z) rfl z0 (by show z < 4; omega)
    refine ⟨E2, _, z, _, rfl, rfl, .inl (.inl hE2), fa, ?_⟩
    have r03 := q3.trans r3
    have k03 := r03.kt hd
    have htt3 := k03 _ _ htt
    have hss3 := sls_kept k03 hss
    -- total
    refine ⟨.ref tt, rfl, .int many, rfl, many, rfl, tt, _, rfl, htt3, fun e H4 s4 he => ⟨e, rfl, ⟨_, .inl (.inl he)⟩, fun C nC => ?_⟩⟩
    rw [cut_toM V.ref ss many mB.1] at he
    have hs4 := paired_take many.toNat (sls_kept (Same.kt s4) hss3)
    refine lc_tup (K := K) (a := e) (xs := (ss.take many.toNat).map V.ref) (fun i H' => Same H4 H' ∧ ∃ zs : List Int, H' C = some (.lst (zs.map V.int)) ∧ zs.length = i) ⟨same_new nC, [], upd_same, rfl⟩ (fun i H' _ z => .inl (.inl (z.1 _ _ he))) (fun i x H' hx z => ?_) (fun H5 z => ?_)
    · obtain ⟨sC, zs, hC, zl⟩ := z
      have il := (List.getElem?_eq_some_iff.mp hx).1
      rw [List.length_map, List.length_take] at il
      rw [List.getElem?_map] at hx
      obtain ⟨sa, hsa0, rfl⟩ := Option.map_eq_some_iff.mp hx
      obtain ⟨s, hs, tv, hsa, htv⟩ := sls_at hs4 hsa0
      refine ⟨rfl, .ref sa, rfl, sa, _, 1, _, rfl, rfl, .inl (.inl (sC _ _ hsa)), atI_nat (j := 1) rfl, tv, _, rfl, .inr (.inl (.inl (sC _ _ htv))), _, hC, by rw [List.length_map]; omega, same_keep sC nC, zs ++ [((s.vers.map optV).length : Int)], by rw [upd_same, List.map_append]; rfl, by rw [List.length_append, zl]; rfl⟩
    obtain ⟨sC, zs, hC, zl⟩ := z
    refine ⟨C, zs, rfl, .inl (.inl hC), ?_⟩
    generalize zs.sum = total
    have r05 := (r03.then s4).then sC
    have k05 := r05.kt hd
    have hG5 : SqT K H5 ga [.str g.name, .int g.off, .ref tt] := .inl (.inl (k05 _ _ hat))
    have hT5 : SqT K H5 tt (ss.map V.ref) := .inl (.inl (k05 _ _ htt))
    have hss5 := sls_kept k05 hss
    have at_ : ∀ j : Int, 0 ≤ j → j < (ss.length : Nat) → ∃ (sa : Addr) (z : Int) (tv : Addr), atI (ss.map V.ref) j = some (.ref sa) ∧ H5 sa = some (.tup [.int z, .ref tv]) := fun j j0 j1 => by
      have jl : j.toNat < ss.length := by omega
      obtain ⟨s, _, tv, hsa, _⟩ := sls_at hss5 (List.getElem?_eq_getElem jl)
      exact ⟨ss[j.toNat], s.stamp, tv, atI_z (j := j.toNat) (by omega) (by rw [List.getElem?_map, List.getElem?_eq_getElem jl]; rfl), hsa⟩
    refine ⟨.int many, rfl, .ref tt, rfl, tt, _, rfl, .inr hT5, rfl, _, rfl, ite2 (fun e1 => ?_) (fun e1 => ?_)⟩
    · have c1 : many = (ss.length : Nat) := by
        have := V.int.inj (of_decide_eq_true e1)
        rw [List.length_map] at this
        exact this
      refine ⟨.int many, rfl, rfl, _, rfl, ite2 (fun e2 => ?_) (fun e2 => ?_)⟩
      · exact ⟨.ref ga, rfl, ga, _, 0, _, rfl, rfl, hG5, atI_nat (j := 0) rfl, .int far, rfl, _, _, rfl, rfl, small' (n := 5) (by decide), fun p np => q1 _ p 0 (far - 5) 0 (r05.then (same_new np)) upd_same (Int.le_refl 0)⟩
      · have c2 : many ≠ 0 := fun z => e2 (decide_eq_true (congrArg V.int z))
        obtain ⟨sa, zz, tv, aa, hsa⟩ := at_ (many - 1) (by omega) (by omega)
        exact ⟨.ref ga, rfl, ga, _, 0, _, rfl, rfl, hG5, atI_nat (j := 0) rfl, .int many, rfl, .ref tt, rfl, .int many, rfl, _, _, rfl, rfl, tt, _, _, _, rfl, rfl, hT5, aa, sa, _, 0, _, rfl, rfl, .inl (.inl hsa), atI_nat (j := 0) rfl, _, _, rfl, rfl, .int far, rfl, _, _, rfl, rfl, .int total, rfl, small' (n := 5) (by decide), fun p np => q1 _ p many (zz + 1 + far) total (r05.then (same_new np)) upd_same mB.1⟩
    have c1 : many ≠ (ss.length : Nat) := fun z => e1 (decide_eq_true (by rw [List.length_map, z]))
    refine ⟨.int many, rfl, rfl, _, rfl, ite2 (fun e2 => ?_) (fun e2 => ?_)⟩
    · obtain ⟨sa, zz, tv, aa, hsa⟩ := at_ 0 (by omega) (by omega)
      exact ⟨.ref ga, rfl, ga, _, 0, _, rfl, rfl, hG5, atI_nat (j := 0) rfl, .ref tt, rfl, tt, _, _, _, rfl, rfl, hT5, aa, sa, _, 0, _, rfl, rfl, .inl (.inl hsa), atI_nat (j := 0) rfl, .int far, rfl, _, _, rfl, rfl, small' (n := 5) (by decide), fun p np => q1 _ p 0 (zz - far) 0 (r05.then (same_new np)) upd_same (Int.le_refl 0)⟩
    have c2 : many ≠ 0 := fun z => e2 (decide_eq_true (congrArg V.int z))
    obtain ⟨sa, zz, tv, aa, hsa⟩ := at_ (many - 1) (by omega) (by omega)
    obtain ⟨sb, zb, tw, ab, hsb⟩ := at_ many (by omega) (by omega)
    refine ⟨.ref tt, rfl, .int many, rfl, _, _, rfl, rfl, tt, _, _, _, rfl, rfl, hT5, aa, sa, _, 0, _, rfl, rfl, .inl (.inl hsa), atI_nat (j := 0) rfl, _, _, rfl, rfl, ?_⟩
    refine ⟨.ref tt, rfl, .int many, rfl, tt, _, _, _, rfl, rfl, hT5, ab, sb, _, 0, _, rfl, rfl, .inl (.inl hsb), atI_nat (j := 0) rfl, ?_⟩
    refine ⟨.int (zz + 1), rfl, .int zb, rfl, _, _, rfl, rfl, _, rfl, ite2 (fun e3 => q0 _ r05) (fun e3 => ?_)⟩
    refine ⟨.ref ga, rfl, ga, _, 0, _, rfl, rfl, hG5, atI_nat (j := 0) rfl, .int many, rfl, .int (zz + 1), rfl, .int zb, rfl, .int zb, rfl, .int (zz + 1), rfl, .int far, rfl, _, _, rfl, rfl, _, _, rfl, small' (n := 3) (by decide), fun E3 nE3 => ?_⟩
    have nE3d := r05.ne nE3
    have q6 := r05.then (same_new (o := .lst [.int (zz + 1), .int zb, .int (if zz + 1 + far < zb then zz + 1 + far else zb)]) nE3)
    refine ⟨.ref d, rfl, d, _, rfl, q6.at_, by decide, fun H7 u r7 u0 u1 => ?_⟩
    have hE3 : H7 E3 = some (.lst (([zz + 1, zb, if zz + 1 + far < zb then zz + 1 + far else zb] : List Int).map V.int)) := r7.keep _ _ nE3d upd_same
    obtain ⟨st, _, sta⟩ := pickI (xs := [zz + 1, zb, if zz + 1 + far < zb then zz + 1 + far else zb]) (k := u) rfl u0 (by show u < 3; omega)
    exact ⟨E3, _, u, _, rfl, rfl, .inl (.inl hE3), sta, .int total, rfl, small' (n := 5) (by decide), fun p np => q1 _ p many st total ((q6.trans r7).then (same_new np)) upd_same mB.1⟩
end
def sp_l_reads (K : PySem.W.Frag) : Sp := fun vs H Q _ => ∃ (d ga : Addr) (g : Lg) (share : Int), vs = [.ref d, .ref ga, .int share] ∧ DrA H d ∧ LgAt H ga g ∧ g.slots.length ≤ 60 ∧ (∀ s ∈ g.slots, s.vers.length ≤ 24) ∧
  ∀ (H' : Hp) (F : Addr) (us : List Addr) (ls : List Lt), Dr d H H' → H' F = some (.lst (us.map V.ref)) → Paired (LtAt H') us ls → (∀ l ∈ ls, NameG g.name l) → us.length ≤ 1440 → Q (.ref F) H'
section
variable {P : Program} {w : World} {K : PySem.W.Frag} {mg : Str → Option Value} {base : Heap}
set_option pp.maxSteps 300 in
set_option maxHeartbeats 2000000 in
theorem ok_l_reads (T : Ctx K mg) : FnOk P w K mg base CX0 2 T.f_l_reads T.fd_l_reads ["draws", "log", "share"] (sp_l_reads K) := by
  refine T.F_l_reads.ok sc_l_reads (fun vs H Q E h => ?_) (fun cdv A outer s H vs Q E hr h => ?_)
  · obtain ⟨d, ga, g, share, rfl, _⟩ := h
    rfl
  · obtain ⟨d, ga, g, share, rfl, hd, ⟨tt, ss, hat, htt, hss⟩, few, fewv, q⟩ := h
    refine ⟨_, (pss_cons (ps_set (i := 3) sc_l_reads.nd rfl (.inl rfl) (pe_lst pa_nil))
      (pss_cons (ps_for PassesOwn.never rfl (pi_range1 (by rfl) T.m_range (pa_cons (pe_callB call_len_seq (by rfl) T.m_len (by decide +kernel) (pa_cons (pe_ix ix_tup (pv 1) pe_int (fun _ _ => rfl)) pa_nil)) pa_nil)) (pg_name (i := 4) sc_l_reads.nd rfl (.inl rfl))
        (pss_cons (ps_set (i := 5) sc_l_reads.nd rfl (.inl rfl) (pe_call (ok_l_take T) (hr.mono (by decide)) (by rfl) T.g_l_take T.F_l_take.kp T.b_l_take .nil pass0 (pa_cons (pv 0) (pa_cons pe_int pa_nil))))
      (pss_one (ps_for PassesOwn.never rfl (pi_range1 (by rfl) T.m_range (pa_cons (pe_callB call_len_seq (by rfl) T.m_len (by decide +kernel) (pa_cons (pe_ix ix_tup (pe_ix ix_tup (pe_ix ix_tup (pv 1) pe_int (fun _ _ => rfl)) (pv 4) (fun _ _ => rfl)) pe_int (fun _ _ => rfl)) pa_nil)) pa_nil)) (pg_name (i := 6) sc_l_reads.nd rfl (.inl rfl))
        (pss_one (ps_if (pt_cmpR op_lt (pe_op op_mod (pe_op op_fdiv (pv 5) (pe_op op_add (pv 6) pe_int)) pe_int) (pv 2) (nomark _))
        (pss_one (ps_expr (pe_bm PySem.F.plainAttrs_list PySem.F.slot_list_append PySem.F.type_list_append mt_append (pv 3) (pa_cons (pe_tup (pa_cons pe_str (pa_cons (pe_ix ix_tup (pv 1) pe_int (fun _ _ => rfl)) (pa_cons (pe_op op_add (pv 4) pe_int) (pa_cons (pv 6) (pa_cons (pe_ix ix_tup (pe_ix ix_tup (pe_ix ix_tup (pv 1) pe_int (fun _ _ => rfl)) (pv 4) (fun _ _ => rfl)) pe_int (fun _ _ => rfl)) (pa_cons (pe_ix ix_tup (pe_ix ix_tup (pe_ix ix_tup (pe_ix ix_tup (pv 1) pe_int (fun _ _ => rfl)) (pv 4) (fun _ _ => rfl)) pe_int (fun _ _ => rfl)) (pv 6) (fun _ _ => rfl)) pa_nil))))))) pa_nil))))
        pss_nil))))))
      (pss_one (ps_ret (pv 3))))), ?_⟩
    have ssl := hss.length
    have big : (100000 : Nat) < sizeLine := by rw [sizeLine_eq]; decide
    refine ⟨small' (n := 0) (by decide), fun F nF => ?_⟩
    have nFd : F ≠ d := (Dr.refl hd).ne nF
    have I0 : Grow d H F (NameG g.name) (upd H F (.lst [])) [] [] := ⟨(Dr.refl hd).then (same_new nF), upd_same, .nil, fun _ z => nomatch z⟩
    have hG0 : SqT K (upd H F (.lst [])) ga [.str g.name, .int g.off, .ref tt] := .inl (.inl (same_new nF _ _ hat))
    refine ⟨.ref ga, rfl, ga, _, 2, _, rfl, rfl, hG0, atI_nat (j := 2) rfl, tt, _, rfl, .inr (.inl (.inl (same_new nF _ _ htt))), ((ss.map V.ref).length : Int), rfl, by omega, by rw [List.length_map]; omega, ?_⟩
    refine for_range (lo := 0) (n := (ss.map V.ref).length) (fun j σ H' => ∃ (y4 y5 y6 : Option V) (us : List Addr) (ls : List Lt), σ = [some (.ref d), some (.ref ga), some (.int share), some (.ref F), y4, y5, y6] ∧ Grow d H F (NameG g.name) H' us ls ∧ us.length ≤ 24 * j) ⟨none, none, none, [], [], rfl, I0, Nat.zero_le _⟩ (fun j σ H1 hj z => ?_) (fun σ H1 z => ?_)
    · obtain ⟨y4, y5, y6, us, ls, rfl, I1, ul⟩ := z
      rw [List.length_map] at hj
      refine ⟨.ref d, rfl, d, _, rfl, I1.dr.at_, by decide, fun H2 num r2 n0 n1 => ?_⟩
      have I2 := I1.draw r2 nFd
      have k2 := I2.dr.kt hd
      have atj : atI (ss.map V.ref) (0 + (j : Int)) = some (.ref ss[j]) := atI_z (j := j) (by omega) (by rw [List.getElem?_map, List.getElem?_eq_getElem hj]; rfl)
      obtain ⟨s, hs, tv, hsa, htv⟩ := sls_at hss (List.getElem?_eq_getElem hj)
      generalize ss[j] = sa at atj hsa
      have vl := fewv s (List.mem_of_getElem? hs)
      refine ⟨.ref ga, rfl, ga, _, 2, _, rfl, rfl, .inl (.inl (k2 _ _ hat)), atI_nat (j := 2) rfl, .int (0 + (j : Int)), rfl, tt, _, _, _, rfl, rfl, .inl (.inl (k2 _ _ htt)), atj, sa, _, 1, _, rfl, rfl, .inl (.inl (k2 _ _ hsa)), atI_nat (j := 1) rfl, tv, _, rfl, .inr (.inl (.inl (k2 _ _ htv))), ((s.vers.map optV).length : Int), rfl, by omega, by rw [List.length_map]; omega, ?_⟩
      refine for_range (lo := 0) (n := (s.vers.map optV).length) (fun i σ H' => ∃ (y6 : Option V) (us : List Addr) (ls : List Lt), σ = [some (.ref d), some (.ref ga), some (.int share), some (.ref F), some (.int (0 + (j : Int))), some (.int num), y6] ∧ Grow d H F (NameG g.name) H' us ls ∧ us.length ≤ 24 * j + i) ⟨_, us, ls, rfl, I2, by omega⟩ (fun i σ H3 hi z => ?_) (fun σ H3 z => ?_)
      · obtain ⟨y6, us, ls, rfl, I3, ul3⟩ := z
        rw [List.length_map] at hi
        have ati : atI (s.vers.map optV) (0 + (i : Int)) = some (optV s.vers[i]) := atI_z (j := i) (by omega) (by rw [List.getElem?_map, List.getElem?_eq_getElem hi]; rfl)
        generalize s.vers[i] = o at ati
        have k3 := I3.dr.kt hd
        refine ⟨.int num, rfl, .int (0 + (i : Int)), rfl, _, _, rfl, rfl, _, _, rfl, rfl, ⟨by omega, by omega⟩, _, _, rfl, rfl, (show (0 : Int) < 8 by decide), .int share, rfl, _, _, rfl, rfl, _, rfl, ite2 (fun e => ?_) (fun e => ⟨_, us, ls, rfl, I3, by omega⟩)⟩
        have hG3 : SqT K H3 ga [.str g.name, .int g.off, .ref tt] := .inl (.inl (k3 _ _ hat))
        have hT3 : SqT K H3 tt (ss.map V.ref) := .inl (.inl (k3 _ _ htt))
        have hS3 : SqT K H3 sa [.int s.stamp, .ref tv] := .inl (.inl (k3 _ _ hsa))
        refine ⟨.ref F, rfl, .inl ⟨rfl, _, .inl (.inl I3.lst)⟩, .ref ga, rfl, ga, _, 0, _, rfl, rfl, hG3, atI_nat (j := 0) rfl, .int (0 + (j : Int)), rfl, _, _, rfl, rfl, .int (0 + (i : Int)), rfl, ?_⟩
        refine ⟨.ref ga, rfl, ga, _, 2, _, rfl, rfl, hG3, atI_nat (j := 2) rfl, .int (0 + (j : Int)), rfl, tt, _, _, _, rfl, rfl, hT3, atj, sa, _, 0, _, rfl, rfl, hS3, atI_nat (j := 0) rfl, ?_⟩
        refine ⟨.ref ga, rfl, ga, _, 2, _, rfl, rfl, hG3, atI_nat (j := 2) rfl, .int (0 + (j : Int)), rfl, tt, _, _, _, rfl, rfl, hT3, atj, sa, _, 1, _, rfl, rfl, hS3, atI_nat (j := 1) rfl, .int (0 + (i : Int)), rfl, tv, _, _, _, rfl, rfl, .inl (.inl (k3 _ _ htv)), ati, small' (n := 6) (by decide), fun p np => ?_⟩
        have kp := same_new (o := .tup [.str "read", .str g.name, .int (0 + (j : Int) + 1), .int (0 + (i : Int)), .int s.stamp, optV o]) np
        refine ⟨F, _, _, rfl, rfl, kp _ _ I3.lst, by rw [List.length_map]; omega, _, us ++ [p], ls ++ [.read g.name (0 + (j : Int) + 1) (0 + (i : Int)) s.stamp o], rfl, I3.add (l := .read g.name (0 + (j : Int) + 1) (0 + (i : Int)) s.stamp o) kp upd_same ⟨⟨by omega, by omega⟩, rfl⟩ nFd nF, by rw [List.length_append]; show us.length + 1 ≤ _; omega⟩
      · obtain ⟨y6, us, ls, rfl, I3, ul3⟩ := z
        rw [List.length_map] at ul3
        exact ⟨_, _, _, us, ls, rfl, I3, by omega⟩
    · obtain ⟨y4, y5, y6, us, ls, rfl, I1, ul⟩ := z
      rw [List.length_map] at ul
      exact ⟨.ref F, rfl, q _ F us ls I1.dr I1.lst I1.all I1.good (by omega)⟩
end
def sp_l_every_close (K : PySem.W.Frag) : Sp := fun vs H Q _ => ∃ (ga : Addr) (g : Lg), vs = [.ref ga] ∧ LgAt H ga g ∧ g.slots.length ≤ 60 ∧
  ∀ (H' : Hp) (F : Addr) (us : List Addr) (ls : List Lt), Same H H' → H' F = some (.lst (us.map V.ref)) → Paired (LtAt H') us ls → (∀ l ∈ ls, NameG g.name l) → us.length ≤ 60 → Q (.ref F) H'
section
variable {P : Program} {w : World} {K : PySem.W.Frag} {mg : Str → Option Value} {base : Heap}
set_option pp.maxSteps 300 in
set_option maxHeartbeats 2000000 in
theorem ok_l_every_close (T : Ctx K mg) : FnOk P w K mg base CX0 1 T.f_l_every_close T.fd_l_every_close ["log"] (sp_l_every_close K) := by
  refine T.F_l_every_close.ok sc_l_every_close (fun vs H Q E h => ?_) (fun cdv A outer s H vs Q E hr h => ?_)
  · obtain ⟨ga, g, rfl, _⟩ := h
    rfl
  · obtain ⟨ga, g, rfl, ⟨tt, ss, hat, htt, hss⟩, few, q⟩ := h
    refine ⟨_, (pss_cons (ps_set (i := 1) sc_l_every_close.nd rfl (.inl rfl) (pe_lst pa_nil))
      (pss_cons (ps_set (i := 2) sc_l_every_close.nd rfl (.inl rfl) pe_int)
      (pss_cons (ps_for PassesOwn.never rfl (pi_range1 (by rfl) T.m_range (pa_cons (pe_callB call_len_seq (by rfl) T.m_len (by decide +kernel) (pa_cons (pe_ix ix_tup (pv 0) pe_int (fun _ _ => rfl)) pa_nil)) pa_nil)) (pg_name (i := 3) sc_l_every_close.nd rfl (.inl rfl))
        (pss_cons (ps_set (i := 2) sc_l_every_close.nd rfl (.inl rfl) (pe_op op_add (pv 2) (pe_callB call_len_seq (by rfl) T.m_len (by decide +kernel) (pa_cons (pe_ix ix_tup (pe_ix ix_tup (pe_ix ix_tup (pv 0) pe_int (fun _ _ => rfl)) (pv 3) (fun _ _ => rfl)) pe_int (fun _ _ => rfl)) pa_nil))))
      (pss_cons (ps_set (i := 4) sc_l_every_close.nd rfl (.inl rfl) (pe_op op_add (pe_ix ix_tup (pe_ix ix_tup (pe_ix ix_tup (pv 0) pe_int (fun _ _ => rfl)) (pv 3) (fun _ _ => rfl)) pe_int (fun _ _ => rfl)) pe_int))
      (pss_one (ps_if (PW.pt (pw_or (pt_cmpR op_eq (pe_op op_add (pv 3) pe_int) (pe_callB call_len_seq (by rfl) T.m_len (by decide +kernel) (pa_cons (pe_ix ix_tup (pv 0) pe_int (fun _ _ => rfl)) pa_nil)) (nomark _)) (pw_or1 (pt_cmpR op_le (pv 4) (pe_ix ix_tup (pe_ix ix_tup (pe_ix ix_tup (pv 0) pe_int (fun _ _ => rfl)) (pe_op op_add (pv 3) pe_int) (fun _ _ => rfl)) pe_int (fun _ _ => rfl)) (nomark _)))))
        (pss_one (ps_expr (pe_bm PySem.F.plainAttrs_list PySem.F.slot_list_append PySem.F.type_list_append mt_append (pv 1) (pa_cons (pe_tup (pa_cons pe_str (pa_cons (pe_ix ix_tup (pv 0) pe_int (fun _ _ => rfl)) (pa_cons (pe_op op_add (pv 3) pe_int) (pa_cons (pv 4) (pa_cons (pv 2) pa_nil)))))) pa_nil))))
        pss_nil)))))
      (pss_one (ps_ret (pv 1)))))), ?_⟩
    have ssl := hss.length
    have big : (100000 : Nat) < sizeLine := by rw [sizeLine_eq]; decide
    refine ⟨small' (n := 0) (by decide), fun F nF => ?_⟩
    have hG0 : SqT K (upd H F (.lst [])) ga [.str g.name, .int g.off, .ref tt] := .inl (.inl (same_new nF _ _ hat))
    refine ⟨.ref ga, rfl, ga, _, 2, _, rfl, rfl, hG0, atI_nat (j := 2) rfl, tt, _, rfl, .inr (.inl (.inl (same_new nF _ _ htt))), ((ss.map V.ref).length : Int), rfl, by omega, by rw [List.length_map]; omega, ?_⟩
    refine for_range (lo := 0) (n := (ss.map V.ref).length) (fun j σ H' => ∃ (y3 y4 : Option V) (total : Int) (us : List Addr) (ls : List Lt), σ = [some (.ref ga), some (.ref F), some (.int total), y3, y4] ∧ Same H H' ∧ H' F = some (.lst (us.map V.ref)) ∧ Paired (LtAt H') us ls ∧ (∀ l ∈ ls, NameG g.name l) ∧ us.length ≤ j) ⟨none, none, 0, [], [], rfl, same_new nF, upd_same, .nil, (fun _ z => nomatch z), Nat.le_refl 0⟩ (fun j σ H1 hj z => ?_) (fun σ H1 z => ?_)
    · obtain ⟨y3, y4, total, us, ls, rfl, s1, hF, hus, good, ul⟩ := z
      rw [List.length_map] at hj
      have at_ : ∀ k : Nat, k < ss.length → ∃ (sa : Addr) (z : Int) (tv : Addr) (ws : List V), atI (ss.map V.ref) (0 + (k : Int)) = some (.ref sa) ∧ H1 sa = some (.tup [.int z, .ref tv]) ∧ H1 tv = some (.tup ws) := fun k kl => by
        obtain ⟨s, _, tv, hsa, htv⟩ := sls_at hss (List.getElem?_eq_getElem kl)
        exact ⟨ss[k], s.stamp, tv, _, atI_z (j := k) (by omega) (by rw [List.getElem?_map, List.getElem?_eq_getElem kl]; rfl), s1 _ _ hsa, s1 _ _ htv⟩
      obtain ⟨sa, zz, tv, ws, aa, hsa, htv⟩ := at_ j hj
      have hG : SqT K H1 ga [.str g.name, .int g.off, .ref tt] := .inl (.inl (s1 _ _ hat))
      have hT : SqT K H1 tt (ss.map V.ref) := .inl (.inl (s1 _ _ htt))
      refine ⟨.int total, rfl, .ref ga, rfl, ga, _, 2, _, rfl, rfl, hG, atI_nat (j := 2) rfl, .int (0 + (j : Int)), rfl, tt, _, _, _, rfl, rfl, hT, aa, sa, _, 1, _, rfl, rfl, .inl (.inl hsa), atI_nat (j := 1) rfl, tv, _, rfl, .inr (.inl (.inl htv)), _, _, rfl, rfl, ?_⟩
      refine ⟨.ref ga, rfl, ga, _, 2, _, rfl, rfl, hG, atI_nat (j := 2) rfl, .int (0 + (j : Int)), rfl, tt, _, _, _, rfl, rfl, hT, aa, sa, _, 0, _, rfl, rfl, .inl (.inl hsa), atI_nat (j := 0) rfl, _, _, rfl, rfl, ?_⟩
      dsimp only
      generalize total + ((ws.length : Nat) : Int) = tot
      refine ⟨.int (0 + (j : Int)), rfl, _, _, rfl, rfl, .ref ga, rfl, ga, _, 2, _, rfl, rfl, hG, atI_nat (j := 2) rfl, tt, _, rfl, .inr hT, rfl, _, rfl, ite2 (fun e => ?c1) (fun e => ?c2)⟩
      case' c2 =>
        have c0 : (j : Int) + 1 ≠ (ss.length : Nat) := fun z => e (decide_eq_true (by rw [List.length_map]; exact congrArg V.int (by omega)))
        obtain ⟨sb, zb, tw, ws2, ab, hsb, _⟩ := at_ (j + 1) (by omega)
        rw [show (0 : Int) + ((j + 1 : Nat) : Int) = 0 + (j : Int) + 1 by omega] at ab
        refine ⟨.int (zz + 1), rfl, .ref ga, rfl, ga, _, 2, _, rfl, rfl, hG, atI_nat (j := 2) rfl, .int (0 + (j : Int)), rfl, _, _, rfl, rfl, tt, _, _, _, rfl, rfl, hT, ab, sb, _, 0, _, rfl, rfl, .inl (.inl hsb), atI_nat (j := 0) rfl, _, _, rfl, rfl, _, rfl, ite2 (fun e2 => ?c3) (fun e2 => ⟨_, _, tot, us, ls, rfl, s1, hF, hus, good, by omega⟩)⟩
      all_goals (
        refine ⟨.ref F, rfl, .inl ⟨rfl, _, .inl (.inl hF)⟩, .ref ga, rfl, ga, _, 0, _, rfl, rfl, hG, atI_nat (j := 0) rfl, .int (0 + (j : Int)), rfl, _, _, rfl, rfl, .int (zz + 1), rfl, .int tot, rfl, small' (n := 5) (by decide), fun p np => ?_⟩
        have kp := same_new (o := .tup [.str "close", .str g.name, .int (0 + (j : Int) + 1), .int (zz + 1), .int tot]) np
        have hFp := kp _ _ hF
        refine ⟨F, _, _, rfl, rfl, hFp, by rw [List.length_map]; omega, _, _, tot, us ++ [p], ls ++ [.close g.name (0 + (j : Int) + 1) (zz + 1) tot], rfl, same_keep (s1.trans kp) nF, by rw [upd_same, map_snoc], ?_, fun l hl => ?_, by rw [List.length_append]; show us.length + 1 ≤ _; omega⟩
        · exact (lts_kept (KT.trans (Same.kt kp) (kt_lst hFp)) hus).snoc (b := Lt.close g.name (0 + (j : Int) + 1) (zz + 1) tot) (kt_lst (ys := us.map V.ref ++ [V.ref p]) hFp p _ upd_same)
        · rcases List.mem_append.mp hl with m | m
          · exact good l m
          · rw [List.mem_singleton.mp m]
            exact ⟨(show (0 : Int) ≤ 0 + (j : Int) + 1 by omega), rfl⟩)
    · obtain ⟨y3, y4, total, us, ls, rfl, s1, hF, hus, good, ul⟩ := z
      rw [List.length_map] at ul
      exact ⟨.ref F, rfl, q _ F us ls s1 hF hus good (by omega)⟩
end
/-- letters of the logs of these names -/
def NamesG (ns : List Str) (l : Lt) : Prop := l.Nn ∧ l.name ∈ ns
def sp_l_bag (K : PySem.W.Frag) : Sp := fun vs H Q _ => ∃ (d h : Addr) (ls : List Lg), vs = [.ref d, .ref h] ∧ DrA H d ∧ HistAt H h ls ∧ HistFew ls ∧
  ∀ (H' : Hp) (F : Addr) (us : List Addr) (ts : List Lt), Dr d H H' → F ≠ d → H' F = some (.lst (us.map V.ref)) → Paired (LtAt H') us ts → (∀ l ∈ ts, NamesG (ls.map Lg.name) l) → us.length ≤ 100000 → Q (.ref F) H'
section
variable {P : Program} {w : World} {K : PySem.W.Frag} {mg : Str → Option Value} {base : Heap}
set_option pp.maxSteps 300 in
set_option maxHeartbeats 4000000 in
theorem ok_l_bag (T : Ctx K mg) : FnOk P w K mg base CX0 3 T.f_l_bag T.fd_l_bag ["draws", "history"] (sp_l_bag K) := by
  refine T.F_l_bag.ok sc_l_bag (fun vs H Q E h => ?_) (fun cdv A outer s H vs Q E hr h => ?_)
  · obtain ⟨d, h', ls, rfl, _⟩ := h
    rfl
  · obtain ⟨d, h0, ls, rfl, hd, ⟨gs, hh, hgs⟩, few, q⟩ := h
    refine ⟨_, (pss_cons (ps_set (i := 2) sc_l_bag.nd rfl (.inl rfl) (pe_lst pa_nil))
      (pss_cons (ps_set (i := 3) sc_l_bag.nd rfl (.inl rfl) (pe_call (ok_l_take T) (hr.mono (by decide)) (by rfl) T.g_l_take T.F_l_take.kp T.b_l_take .nil pass0 (pa_cons (pv 0) (pa_cons pe_int pa_nil))))
      (pss_cons (ps_for PassesOwn.never rfl (pi_tup (pv 1)) (pg_name (i := 4) sc_l_bag.nd rfl (.inl rfl))
        (pss_cons (ps_set (i := 2) sc_l_bag.nd rfl (.inl rfl) (pe_op op_cat (pv 2) (pe_call (ok_l_reads T) (hr.mono (by decide)) (by rfl) T.g_l_reads T.F_l_reads.kp T.b_l_reads .nil pass0 (pa_cons (pv 0) (pa_cons (pv 4) (pa_cons (pv 3) pa_nil))))))
      (pss_cons (ps_for PassesOwn.never rfl (pi_range1 (by rfl) T.m_range (pa_cons (pe_call (ok_l_take T) (hr.mono (by decide)) (by rfl) T.g_l_take T.F_l_take.kp T.b_l_take .nil pass0 (pa_cons (pv 0) (pa_cons pe_int pa_nil))) pa_nil)) (pg_name (i := 5) sc_l_bag.nd rfl (.inl rfl))
        (pss_cons (ps_set (i := 6) sc_l_bag.nd rfl (.inl rfl) (pe_call (ok_l_close T) (hr.mono (by decide)) (by rfl) T.g_l_close T.F_l_close.kp T.b_l_close .nil pass0 (pa_cons (pv 0) (pa_cons (pv 4) pa_nil))))
      (pss_one (ps_if (pt_cmpR op_notN (pv 6) pe_non (nomark _))
        (pss_one (ps_expr (pe_bm PySem.F.plainAttrs_list PySem.F.slot_list_append PySem.F.type_list_append mt_append (pv 2) (pa_cons (pv 6) pa_nil))))
        pss_nil))))
      (pss_cons (ps_if (pt_cmpR op_eq (pe_call (ok_l_take T) (hr.mono (by decide)) (by rfl) T.g_l_take T.F_l_take.kp T.b_l_take .nil pass0 (pa_cons (pv 0) (pa_cons pe_int pa_nil))) pe_int (nomark _))
        (pss_one (ps_set (i := 2) sc_l_bag.nd rfl (.inl rfl) (pe_op op_cat (pv 2) (pe_call (ok_l_every_close T) (hr.mono (by decide)) (by rfl) T.g_l_every_close T.F_l_every_close.kp T.b_l_every_close .nil pass0 (pa_cons (pv 4) pa_nil)))))
        pss_nil)
      (pss_one (ps_if (pt_cmpR op_eq (pe_call (ok_l_take T) (hr.mono (by decide)) (by rfl) T.g_l_take T.F_l_take.kp T.b_l_take .nil pass0 (pa_cons (pv 0) (pa_cons pe_int pa_nil))) pe_int (nomark _))
        (pss_one (ps_expr (pe_bm PySem.F.plainAttrs_list PySem.F.slot_list_append PySem.F.type_list_append mt_append (pv 2) (pa_cons (pe_tup (pa_cons pe_str (pa_cons (pe_ix ix_tup (pv 4) pe_int (fun _ _ => rfl)) (pa_cons (pe_op op_sub (pe_ix ix_tup (pv 4) pe_int (fun _ _ => rfl)) (pe_call (ok_l_take T) (hr.mono (by decide)) (by rfl) T.g_l_take T.F_l_take.kp T.b_l_take .nil pass0 (pa_cons (pv 0) (pa_cons pe_int pa_nil)))) (pa_cons (pe_op op_add (pe_ix ix_tup (pv 4) pe_int (fun _ _ => rfl)) (pe_call (ok_l_take T) (hr.mono (by decide)) (by rfl) T.g_l_take T.F_l_take.kp T.b_l_take .nil pass0 (pa_cons (pv 0) (pa_cons pe_int pa_nil)))) pa_nil))))) pa_nil))))
        pss_nil))))))
      (pss_cons (ps_if (pt_cmpR op_gt (pe_callB call_len_seq (by rfl) T.m_len (by decide +kernel) (pa_cons (pv 2) pa_nil)) pe_int (nomark _))
        (pss_cons (ps_set (i := 7) sc_l_bag.nd rfl (.inl rfl) (pe_call (ok_l_take T) (hr.mono (by decide)) (by rfl) T.g_l_take T.F_l_take.kp T.b_l_take .nil pass0 (pa_cons (pv 0) (pa_cons (pe_callB call_len_seq (by rfl) T.m_len (by decide +kernel) (pa_cons (pv 2) pa_nil)) pa_nil))))
      (pss_one (ps_set (i := 2) sc_l_bag.nd rfl (.inl rfl) (pe_op op_cat (pe_op op_cat (pe_slice sl_list (pv 2) (po_some (pv 7)) po_none) (pe_slice sl_list (pv 2) po_none (po_some (pv 7)))) (pe_slice sl_list (pv 2) po_none (po_some (pe_call (ok_l_take T) (hr.mono (by decide)) (by rfl) T.g_l_take T.F_l_take.kp T.b_l_take .nil pass0 (pa_cons (pv 0) (pa_cons pe_int pa_nil)))))))))
        pss_nil)
      (pss_cons (ps_if (pt_cmpR op_eq (pe_call (ok_l_take T) (hr.mono (by decide)) (by rfl) T.g_l_take T.F_l_take.kp T.b_l_take .nil pass0 (pa_cons (pv 0) (pa_cons pe_int pa_nil))) pe_int (nomark _))
        (pss_one (ps_expr (pe_bm0 PySem.F.plainAttrs_list PySem.F.slot_list_reverse PySem.F.type_list_reverse mt_reverse (pv 2))))
        pss_nil)
      (pss_one (ps_ret (pv 2)))))))), ?_⟩
    have gl : gs.length = ls.length := hgs.length
    have f1 := few.logs
    have big : (1000000 : Nat) < sizeLine := by rw [sizeLine_eq]; decide
    have up : ∀ {g : Lg} {l : Lt}, g ∈ ls → NameG g.name l → NamesG (ls.map Lg.name) l := fun hg z => ⟨z.1, by rw [z.2]; exact List.mem_map_of_mem hg⟩
    refine ⟨small' (n := 0) (by decide), fun F0 nF0 => ?_⟩
    have nF0d : F0 ≠ d := (Dr.refl hd).ne nF0
    have I0 : Grow d H F0 (NamesG (ls.map Lg.name)) (upd H F0 (.lst [])) [] [] := ⟨(Dr.refl hd).then (same_new nF0), upd_same, .nil, fun _ z => nomatch z⟩
    refine ⟨.ref d, rfl, d, _, rfl, I0.dr.at_, by decide, fun H1 share r1 sh0 sh1 => ?_⟩
    have I1 := I0.draw r1 nF0d
    refine ⟨.ref h0, rfl, h0, rfl, ⟨_, .inl (.inl (I1.dr.tup hd hh))⟩, for_tup (K := K) (a := h0) (xs := gs.map V.ref) (fun i σ H' => ∃ (F : Addr) (y4 y5 y6 y7 : Option V) (us : List Addr) (ts : List Lt), σ = [some (.ref d), some (.ref h0), some (.ref F), some (.int share), y4, y5, y6, y7] ∧ Grow d H F (NamesG (ls.map Lg.name)) H' us ts ∧ F ≠ d ∧ H F = none ∧ us.length ≤ 1600 * i)
      ⟨F0, none, none, none, none, [], [], rfl, I1, nF0d, nF0, Nat.zero_le _⟩ (fun i σ H' _ z => ?_) (fun i x σ H2 hx z => ?_) (fun σ H2 z => ?_)⟩
    · obtain ⟨_, _, _, _, _, _, _, _, I, _⟩ := z
      exact .inl (.inl (I.dr.tup hd hh))
    · obtain ⟨F, y4, y5, y6, y7, us, ts, rfl, I2, nFd, nFH, ul⟩ := z
      have il0 := (List.getElem?_eq_some_iff.mp hx).1
      rw [List.length_map] at il0
      rw [List.getElem?_map] at hx
      obtain ⟨ga, hga, rfl⟩ := Option.map_eq_some_iff.mp hx
      obtain ⟨g, hg, tt, ss, hat, htt, hss⟩ := lgs_at hgs hga
      have gm := List.mem_of_getElem? hg
      have sl := few.slots g gm
      have vl := few.vers g gm
      have lgA : LgAt H ga g := ⟨tt, ss, hat, htt, hss⟩
      -- letters + reads
      refine ⟨.ref F, rfl, .ref d, rfl, .ref ga, rfl, .int share, rfl, d, ga, g, share, rfl, I2.dr.at_, lgA.kept (I2.dr.kt hd), sl, vl, fun H3 R vs ms r3 hR hvs gv vsl => ?_⟩
      refine ⟨F, R, _, _, rfl, rfl, r3.keep _ _ nFd I2.lst, hR, by rw [List.length_map, List.length_map]; omega, fun F2 nF2 => ?_⟩
      have I3 := I2.cat (G := F2) r3 nFd hvs (fun l hl => up gm (gv l hl)) nF2 rfl
      have nF2d : F2 ≠ d := r3.ne nF2
      have nF2H : H F2 = none := (I2.dr.trans r3).free hd nF2
      generalize upd H3 F2 (.lst (us.map V.ref ++ vs.map V.ref)) = H4 at I3 ⊢
      have ul3 : (us ++ vs).length ≤ 1600 * i + 1440 := by rw [List.length_append]; omega
      generalize us ++ vs = us3 at I3 ul3
      generalize ts ++ ms = ts3 at I3
      -- closes
      refine ⟨.ref d, rfl, d, _, rfl, I3.dr.at_, by decide, fun H5 n r5 n0 n1 => ⟨n, rfl, by omega, by omega, ?_⟩⟩
      have I5 := I3.draw r5 nF2d
      refine for_range (lo := 0) (n := n.toNat) (fun k σ H' => ∃ (y5 y6 y7 : Option V) (us : List Addr) (ts : List Lt), σ = [some (.ref d), some (.ref h0), some (.ref F2), some (.int share), some (.ref ga), y5, y6, y7] ∧ Grow d H F2 (NamesG (ls.map Lg.name)) H' us ts ∧ us.length ≤ 1600 * i + 1440 + k) ⟨_, _, _, us3, ts3, rfl, I5, by omega⟩ (fun k σ H6 hk z => ?_) (fun σ H6 z => ?_)
      · obtain ⟨y5, y6, y7, us, ts, rfl, I6, ul6⟩ := z
        refine ⟨.ref d, rfl, .ref ga, rfl, d, ga, g, rfl, I6.dr.at_, lgA.kept (I6.dr.kt hd), by omega, fun H7 r7 => ?_, fun H7 p f a w r7 hp f0 => ?_⟩
        · exact ⟨.non, rfl, rfl, _, rfl, iteF ⟨_, _, _, us, ts, rfl, I6.draw r7 nF2d, by omega⟩⟩
        · have I7 := I6.draw r7 nF2d
          refine ⟨.ref p, rfl, rfl, _, rfl, iteT ⟨.ref F2, rfl, .inl ⟨rfl, _, .inl (.inl I7.lst)⟩, .ref p, rfl, F2, _, _, rfl, rfl, I7.lst, by rw [List.length_map]; omega, _, _, _, us ++ [p], ts ++ [.close g.name f a w], rfl, I7.add (l := .close g.name f a w) (Same.refl _) hp (up gm ⟨f0, rfl⟩) nF2d nF2H, by rw [List.length_append]; show us.length + 1 ≤ _; omega⟩⟩
      obtain ⟨y5, y6, y7, us6, ts6, rfl, I6, ul6⟩ := z
      -- every close
      refine ⟨.ref d, rfl, d, _, rfl, I6.dr.at_, by decide, fun H7 m r7 m0 m1 => ⟨rfl, _, rfl, ite2 (fun e => ?c1) (fun e => ?c2)⟩⟩
      case' c1 =>
        have I7 := I6.draw r7 nF2d
        refine ⟨.ref F2, rfl, .ref ga, rfl, ga, g, rfl, lgA.kept (I7.dr.kt hd), sl, fun H8 R vs ms s8 hR hvs gv vsl => ?_⟩
        refine ⟨F2, R, _, _, rfl, rfl, s8 _ _ I7.lst, hR, by rw [List.length_map, List.length_map]; omega, fun F3 nF3 => ?_⟩
        have IX := I7.cat (G := F3) (Dr.of I7.dr.at_ s8) nF2d hvs (fun l hl => up gm (gv l hl)) nF3 rfl
        have nF3d : F3 ≠ d := (Dr.of I7.dr.at_ s8).ne nF3
        have nF3H : H F3 = none := (I7.dr.then s8).free hd nF3
        have ulX : (us6 ++ vs).length ≤ 1600 * i + 1440 + 4 + 60 := by rw [List.length_append]; omega
        generalize upd H8 F3 (.lst (us6.map V.ref ++ vs.map V.ref)) = HX at IX ⊢
        generalize us6 ++ vs = usX at IX ulX
        generalize ts6 ++ ms = tsX at IX
      case' c2 =>
        obtain ⟨F3, eF⟩ : ∃ F3, F3 = F2 := ⟨_, rfl⟩
        obtain ⟨HX, eH⟩ : ∃ HX, HX = H7 := ⟨_, rfl⟩
        obtain ⟨usX, eu⟩ : ∃ usX, usX = us6 := ⟨_, rfl⟩
        obtain ⟨tsX, et⟩ : ∃ tsX, tsX = ts6 := ⟨_, rfl⟩
        have IX : Grow d H F3 (NamesG (ls.map Lg.name)) HX usX tsX := by rw [eF, eH, eu, et]; exact I6.draw r7 nF2d
        have nF3d : F3 ≠ d := by rw [eF]; exact nF2d
        have nF3H : H F3 = none := by rw [eF]; exact nF2H
        have ulX : usX.length ≤ 1600 * i + 1440 + 4 + 60 := by rw [eu]; omega
        rw [← eF, ← eH]
      all_goals (
        refine ⟨.ref d, rfl, d, _, rfl, IX.dr.at_, by decide, fun H9 c r9 c0 c1 => ⟨rfl, _, rfl, ite2 (fun e => ?_) (fun e => ?_)⟩⟩
        · have I9 := IX.draw r9 nF3d
          have hat9 := I9.dr.tup hd hat
          refine ⟨.ref F3, rfl, .inl ⟨rfl, _, .inl (.inl I9.lst)⟩, .ref ga, rfl, ga, _, 0, _, rfl, rfl, .inl (.inl hat9), atI_nat (j := 0) rfl, .ref ga, rfl, ga, _, 1, _, rfl, rfl, .inl (.inl hat9), atI_nat (j := 1) rfl, .ref d, rfl, d, _, rfl, I9.dr.at_, by decide, fun HA x rA x0 x1 => ⟨_, _, rfl, rfl, ?_⟩⟩
          have IA := I9.draw rA nF3d
          have hatA := IA.dr.tup hd hat
          refine ⟨.ref ga, rfl, ga, _, 1, _, rfl, rfl, .inl (.inl hatA), atI_nat (j := 1) rfl, .ref d, rfl, d, _, rfl, IA.dr.at_, by decide, fun HB y rB y0 y1 => ⟨_, _, rfl, rfl, small' (n := 4) (by decide), fun p np => ?_⟩⟩
          have IB := IA.draw rB nF3d
          have kp := same_new (o := .tup [.str "clock", .str g.name, .int (g.off - x), .int (g.off + y)]) np
          exact ⟨F3, _, _, rfl, rfl, kp _ _ IB.lst, by rw [List.length_map]; omega, F3, _, _, _, _, usX ++ [p], tsX ++ [.clock g.name (g.off - x) (g.off + y)], rfl, IB.add (l := .clock g.name (g.off - x) (g.off + y)) kp upd_same (up gm ⟨trivial, rfl⟩) nF3d nF3H, nF3d, nF3H, by rw [List.length_append]; show usX.length + 1 ≤ _; omega⟩
        · exact ⟨F3, _, _, _, _, usX, tsX, rfl, IX.draw r9 nF3d, nF3d, nF3H, by omega⟩)
    · obtain ⟨F, y4, y5, y6, y7, us, ts, rfl, I2, nFd, nFH, ul⟩ := z
      rw [List.length_map] at ul
      have ul2 : us.length ≤ 32000 := by omega
      refine ⟨.ref F, rfl, F, _, rfl, .inl (.inl (.inl I2.lst)), _, _, rfl, rfl, _, rfl, ite2 (fun e => ?g1) (fun e => ?g2)⟩
      case' g1 =>
        have c0 : (0 : Int) < ((us.map V.ref).length : Nat) := of_decide_eq_true e
        refine ⟨.ref d, rfl, .ref F, rfl, F, _, rfl, .inl (.inl (.inl I2.lst)), d, _, rfl, I2.dr.at_, c0, fun H3 at_ r3 a0 a1 => ?_⟩
        have I3 := I2.draw r3 nFd
        rw [List.length_map] at a1
        refine ⟨.ref F, rfl, .int at_, rfl, at_, rfl, F, _, rfl, .inl (.inl I3.lst), fun P1 nP1 => ?_⟩
        have k1 := same_new (o := .lst (cutV (us.map V.ref) (some at_) none)) nP1
        refine ⟨.ref F, rfl, .int at_, rfl, at_, rfl, F, _, rfl, .inl (.inl (k1 _ _ I3.lst)), fun P2 nP2 => ?_⟩
        have k2 := same_new (o := .lst (cutV (us.map V.ref) none (some at_))) nP2
        have cl1 := cutV_length (us.map V.ref) (some at_) none
        have cl2 := cutV_length (us.map V.ref) none (some at_)
        rw [List.length_map] at cl1 cl2
        refine ⟨P1, P2, _, _, rfl, rfl, k2 _ _ upd_same, upd_same, by omega, fun P3 nP3 => ?_⟩
        have k3 := same_new (o := .lst (cutV (us.map V.ref) (some at_) none ++ cutV (us.map V.ref) none (some at_))) nP3
        have s3 := (k1.trans k2).trans k3
        have I4 := I3.same s3
        refine ⟨.ref F, rfl, .ref d, rfl, d, _, rfl, I4.dr.at_, by decide, fun H5 n r5 n0 n1 => ?_⟩
        have I5 := I4.draw r5 nFd
        have nP3d : P3 ≠ d := (I3.dr.then (k1.trans k2)).ne nP3
        have hP3 := r5.keep _ _ nP3d (upd_same (H := upd (upd H3 P1 (.lst (cutV (us.map V.ref) (some at_) none))) P2 (.lst (cutV (us.map V.ref) none (some at_)))) (a := P3) (o := .lst (cutV (us.map V.ref) (some at_) none ++ cutV (us.map V.ref) none (some at_))))
        refine ⟨n, rfl, F, _, rfl, .inl (.inl I5.lst), fun P4 nP4 => ?_⟩
        have k4 := same_new (o := .lst (cutV (us.map V.ref) none (some n))) nP4
        have cl3 := cutV_length (us.map V.ref) none (some n)
        rw [List.length_map] at cl3
        refine ⟨P3, P4, _, _, rfl, rfl, k4 _ _ hP3, upd_same, by rw [List.length_append]; omega, fun FX nFX => ?_⟩
        have nP4d : FX ≠ d := (I5.dr.then k4).ne nFX
        have nFXH : H FX = none := (I5.dr.then k4).free hd nFX
        have eL : cutV (us.map V.ref) (some at_) none ++ cutV (us.map V.ref) none (some at_) ++ cutV (us.map V.ref) none (some n) = (us.drop at_.toNat ++ us.take at_.toNat ++ us.take n.toNat).map V.ref := by
          rw [cut_fromM V.ref us at_ a0, cut_toM V.ref us at_ a0, cut_toM V.ref us n n0, List.map_append, List.map_append]
        have kX := same_new (o := .lst (cutV (us.map V.ref) (some at_) none ++ cutV (us.map V.ref) none (some at_) ++ cutV (us.map V.ref) none (some n))) nFX
        have I6 := I5.same (k4.trans kX)
        have GX : Grow d H FX (NamesG (ls.map Lg.name)) _ (us.drop at_.toNat ++ us.take at_.toNat ++ us.take n.toNat) (ts.drop at_.toNat ++ ts.take at_.toNat ++ ts.take n.toNat) := ⟨I6.dr, by rw [upd_same, eL], paired_app (paired_app (paired_drp _ I6.all) (paired_take _ I6.all)) (paired_take _ I6.all), fun l hl => by
          rcases List.mem_append.mp hl with m | m
          · rcases List.mem_append.mp m with m | m
            · exact I6.good l (List.mem_of_mem_drop m)
            · exact I6.good l (List.mem_of_mem_take m)
          · exact I6.good l (List.mem_of_mem_take m)⟩
        have ulX : (us.drop at_.toNat ++ us.take at_.toNat ++ us.take n.toNat).length ≤ 100000 := by
          rw [List.length_append, List.length_append, List.length_drop, List.length_take, List.length_take]
          omega
        clear eL kX I6
        generalize upd (upd H5 P4 (.lst (cutV (us.map V.ref) none (some n)))) FX (.lst (cutV (us.map V.ref) (some at_) none ++ cutV (us.map V.ref) none (some at_) ++ cutV (us.map V.ref) none (some n))) = HX at GX ⊢
        generalize us.drop at_.toNat ++ us.take at_.toNat ++ us.take n.toNat = usX at GX ulX
        generalize ts.drop at_.toNat ++ ts.take at_.toNat ++ ts.take n.toNat = tsX at GX
      case' g2 =>
        obtain ⟨FX, eF⟩ : ∃ FX, FX = F := ⟨_, rfl⟩
        obtain ⟨HX, eH⟩ : ∃ HX, HX = H2 := ⟨_, rfl⟩
        obtain ⟨usX, eu⟩ : ∃ usX, usX = us := ⟨_, rfl⟩
        obtain ⟨tsX, et⟩ : ∃ tsX, tsX = ts := ⟨_, rfl⟩
        have GX : Grow d H FX (NamesG (ls.map Lg.name)) HX usX tsX := by rw [eF, eH, eu, et]; exact I2
        have nP4d : FX ≠ d := by rw [eF]; exact nFd
        have nFXH : H FX = none := by rw [eF]; exact nFH
        have ulX : usX.length ≤ 100000 := by rw [eu]; omega
        rw [← eF, ← eH]
      all_goals (
        refine ⟨.ref d, rfl, d, _, rfl, GX.dr.at_, by decide, fun HY c rY c0 c1 => ⟨rfl, _, rfl, ite2 (fun e => ?_) (fun e => ?_)⟩⟩
        · have GY := GX.draw rY nP4d
          refine ⟨.ref FX, rfl, .inl ⟨rfl, _, .inl (.inl GY.lst)⟩, FX, _, rfl, rfl, GY.lst, .ref FX, rfl, ?_⟩
          exact q _ FX usX.reverse tsX.reverse (GY.dr.keepNew nP4d nFXH) nP4d (by rw [upd_same, List.map_reverse]) (paired_rev (lts_kept (kt_lst GY.lst) GY.all)) (fun l hl => GY.good l (List.mem_reverse.mp hl)) (by rw [List.length_reverse]; exact ulX)
        · have GY := GX.draw rY nP4d
          exact ⟨.ref FX, rfl, q _ FX usX tsX GY.dr nP4d GY.lst GY.all GY.good ulX⟩)
end
def sp_l_spoilt_read (K : PySem.W.Frag) : Sp := fun vs H Q _ => ∃ (d t u : Addr) (m : Mt) (n : Str) (s v a : Int) (x : Option Int), vs = [.ref d, .ref t, .ref u] ∧ DrA H d ∧ MtAt H t m ∧ m.low ≤ m.high ∧ LtAt H u (.read n s v a x) ∧ 1 ≤ s ∧ 0 ≤ v ∧
  ∀ (H' : Hp) (p : Addr) (s' v' a' : Int) (x' : Option Int), Dr d H H' → LtAt H' p (.read n s' v' a' x') → 1 ≤ s' → 0 ≤ v' → Q (.ref p) H'
section
variable {P : Program} {w : World} {K : PySem.W.Frag} {mg : Str → Option Value} {base : Heap}
set_option pp.maxSteps 300 in
set_option maxHeartbeats 2000000 in
theorem ok_l_spoilt_read (T : Ctx K mg) : FnOk P w K mg base CX0 3 T.f_l_spoilt_read T.fd_l_spoilt_read ["draws", "meter", "letter"] (sp_l_spoilt_read K) := by
  refine T.F_l_spoilt_read.ok sc_l_spoilt_read (fun vs H Q E h => ?_) (fun cdv A outer s H vs Q E hr h => ?_)
  · obtain ⟨d, t, u, m, n, s, v, a, x, rfl, _⟩ := h
    rfl
  · obtain ⟨d, t, u, m, n, sl, ver, st, x, rfl, hd, hm, mo, hu, s1, v0, q⟩ := h
    refine ⟨_, (pss_cons (ps_set (i := 3) sc_l_spoilt_read.nd rfl (.inl rfl) (pe_call (ok_l_take T) (hr.mono (by decide)) (by rfl) T.g_l_take T.F_l_take.kp T.b_l_take .nil pass0 (pa_cons (pv 0) (pa_cons pe_int pa_nil))))
      (pss_cons (ps_set (i := 4) sc_l_spoilt_read.nd rfl (.inl rfl) (pe_ix ix_list (pe_lst (pa_cons pe_int (pa_cons (pe_un un_neg pe_int) pa_nil))) (pe_call (ok_l_take T) (hr.mono (by decide)) (by rfl) T.g_l_take T.F_l_take.kp T.b_l_take .nil pass0 (pa_cons (pv 0) (pa_cons pe_int pa_nil))) (fun _ _ => rfl)))
      (pss_cons (ps_if (pt_cmpR op_eq (pv 3) pe_int (nomark _))
        (pss_one (ps_ret (pe_op TT.op_cat_t (pe_op TT.op_cat_t (pe_slice TT.sl_t (pv 2) po_none (po_some pe_int)) (pe_tup (pa_cons (pe_callB (call_max2 rfl) (by rfl) T.m_max (by decide +kernel) (pa_cons pe_int (pa_cons (pe_op op_add (pe_ix ix_tup (pv 2) pe_int (fun _ _ => rfl)) (pv 4)) pa_nil))) pa_nil))) (pe_slice TT.sl_t (pv 2) (po_some pe_int) po_none))))
        pss_nil)
      (pss_cons (ps_if (pt_cmpR op_eq (pv 3) pe_int (nomark _))
        (pss_one (ps_ret (pe_op TT.op_cat_t (pe_op TT.op_cat_t (pe_slice TT.sl_t (pv 2) po_none (po_some pe_int)) (pe_tup (pa_cons (pe_callB (call_max2 rfl) (by rfl) T.m_max (by decide +kernel) (pa_cons pe_int (pa_cons (pe_op op_add (pe_ix ix_tup (pv 2) pe_int (fun _ _ => rfl)) (pv 4)) pa_nil))) pa_nil))) (pe_slice TT.sl_t (pv 2) (po_some pe_int) po_none))))
        pss_nil)
      (pss_cons (ps_if (pt_cmpR op_eq (pv 3) pe_int (nomark _))
        (pss_one (ps_ret (pe_op TT.op_cat_t (pe_slice TT.sl_t (pv 2) po_none (po_some pe_int)) (pe_tup (pa_cons (pe_op op_add (pe_ix ix_tup (pv 2) pe_int (fun _ _ => rfl)) (pe_op op_mul (pv 4) (pe_ix ix_list (pe_lst (pa_cons pe_int (pa_cons pe_int (pa_cons pe_int pa_nil)))) (pe_call (ok_l_take T) (hr.mono (by decide)) (by rfl) T.g_l_take T.F_l_take.kp T.b_l_take .nil pass0 (pa_cons (pv 0) (pa_cons pe_int pa_nil))) (fun _ _ => rfl)))) (pa_cons (pe_ix ix_tup (pv 2) pe_int (fun _ _ => rfl)) pa_nil))))))
        pss_nil)
      (pss_one (ps_ret (pe_op TT.op_cat_t (pe_slice TT.sl_t (pv 2) po_none (po_some pe_int)) (pe_tup (pa_cons (pe_ix ix_list (pe_lst (pa_cons pe_non (pa_cons (pe_op op_sub (pe_ix ix_tup (pv 1) pe_int (fun _ _ => rfl)) pe_int) (pa_cons (pe_op op_add (pe_ix ix_tup (pv 1) pe_int (fun _ _ => rfl)) pe_int) (pa_cons (pe_call (ok_l_reading T) (hr.mono (by decide)) (by rfl) T.g_l_reading T.F_l_reading.kp T.b_l_reading .nil pass0 (pa_cons (pv 0) (pa_cons (pv 1) pa_nil))) pa_nil))))) (pe_call (ok_l_take T) (hr.mono (by decide)) (by rfl) T.g_l_take T.F_l_take.kp T.b_l_take .nil pass0 (pa_cons (pv 0) (pa_cons pe_int pa_nil))) (fun _ _ => rfl)) pa_nil)))))))))), ?_⟩
    refine ⟨.ref d, rfl, d, _, rfl, hd, by decide, fun H1 kd r1 k0 k1 => ?_⟩
    refine ⟨_, rfl, small' (n := 2) (by decide), fun E nE => ?_⟩
    have nEd := r1.ne nE
    have q2 := r1.then (same_new (o := .lst [.int 1, .int (-1)]) nE)
    refine ⟨.ref d, rfl, d, _, rfl, q2.at_, by decide, fun H2 y r2 y0 y1 => ?_⟩
    have hE : H2 E = some (.lst (([1, -1] : List Int).map V.int)) := r2.keep _ _ nEd upd_same
    obtain ⟨step, sm, sa⟩ := pickI (xs := [1, -1]) (k := y) rfl y0 (by show y < 2; omega)
    have sB : -1 ≤ step ∧ step ≤ 1 := by
      simp only [List.mem_cons, List.not_mem_nil, or_false] at sm
      omega
    refine ⟨E, _, y, _, rfl, rfl, .inl (.inl hE), sa, ?_⟩
    have r02 := q2.trans r2
    have hu2 : H2 u = some (.tup [.str "read", .str n, .int sl, .int ver, .int st, optV x]) := r02.tup hd hu
    have hU : SqT K H2 u [.str "read", .str n, .int sl, .int ver, .int st, optV x] := .inl (.inl hu2)
    refine ⟨.int kd, rfl, rfl, _, rfl, ite2 (fun e => ?_) (fun e => ?_)⟩
    · refine ⟨.ref u, rfl, 2, rfl, u, _, rfl, hu2, fun a1 H3 s3 h3 => ?_⟩
      have h3' : H3 a1 = some (.tup [.str "read", .str n]) := h3
      refine ⟨.ref u, rfl, u, _, 2, _, rfl, rfl, .inl (.inl (s3 _ _ hu2)), atI_nat (j := 2) rfl, .int step, rfl, _, _, rfl, rfl, _, _, rfl, small' (n := 1) (by decide), fun t1 n1 => ?_⟩
      have k1 := same_new (o := .tup [.int (if sl + step > 1 then sl + step else 1)]) n1
      refine ⟨a1, t1, _, _, rfl, rfl, k1 _ _ h3', upd_same, small' (n := 3) (by decide), fun a2 H4 s4 h4 => ?_⟩
      have sA := (s3.trans k1).trans s4
      refine ⟨.ref u, rfl, 3, rfl, u, _, rfl, sA _ _ hu2, fun a3 H5 s5 h5 => ?_⟩
      have h5' : H5 a3 = some (.tup [.int ver, .int st, optV x]) := h5
      refine ⟨a2, a3, _, _, rfl, rfl, s5 _ _ h4, h5', small' (n := 6) (by decide), fun p H6 s6 h6 => ?_⟩
      exact q _ p (if sl + step > 1 then sl + step else 1) ver st x (r02.then ((sA.trans s5).trans s6)) h6 (by split <;> omega) v0
    refine ⟨.int kd, rfl, rfl, _, rfl, ite2 (fun e => ?_) (fun e => ?_)⟩
    · refine ⟨.ref u, rfl, 3, rfl, u, _, rfl, hu2, fun a1 H3 s3 h3 => ?_⟩
      have h3' : H3 a1 = some (.tup [.str "read", .str n, .int sl]) := h3
      refine ⟨.ref u, rfl, u, _, 3, _, rfl, rfl, .inl (.inl (s3 _ _ hu2)), atI_nat (j := 3) rfl, .int step, rfl, _, _, rfl, rfl, _, _, rfl, small' (n := 1) (by decide), fun t1 n1 => ?_⟩
      have k1 := same_new (o := .tup [.int (if ver + step > 0 then ver + step else 0)]) n1
      refine ⟨a1, t1, _, _, rfl, rfl, k1 _ _ h3', upd_same, small' (n := 4) (by decide), fun a2 H4 s4 h4 => ?_⟩
      have sA := (s3.trans k1).trans s4
      refine ⟨.ref u, rfl, 4, rfl, u, _, rfl, sA _ _ hu2, fun a3 H5 s5 h5 => ?_⟩
      have h5' : H5 a3 = some (.tup [.int st, optV x]) := h5
      refine ⟨a2, a3, _, _, rfl, rfl, s5 _ _ h4, h5', small' (n := 6) (by decide), fun p H6 s6 h6 => ?_⟩
      exact q _ p sl (if ver + step > 0 then ver + step else 0) st x (r02.then ((sA.trans s5).trans s6)) h6 s1 (by split <;> omega)
    refine ⟨.int kd, rfl, rfl, _, rfl, ite2 (fun e => ?_) (fun e => ?_)⟩
    · refine ⟨.ref u, rfl, 4, rfl, u, _, rfl, hu2, fun a1 H3 s3 h3 => ?_⟩
      have h3' : H3 a1 = some (.tup [.str "read", .str n, .int sl, .int ver]) := h3
      have r03 := r02.then s3
      refine ⟨.ref u, rfl, u, _, 4, _, rfl, rfl, .inl (.inl (s3 _ _ hu2)), atI_nat (j := 4) rfl, .int step, rfl, small' (n := 3) (by decide), fun E2 nE2 => ?_⟩
      have nE2d := r03.ne nE2
      have kE2 := same_new (o := .lst [.int 1, .int 2, .int 60]) nE2
      have q4 := r03.then kE2
      refine ⟨.ref d, rfl, d, _, rfl, q4.at_, by decide, fun H5 z r5 z0 z1 => ?_⟩
      have hE2 : H5 E2 = some (.lst (([1, 2, 60] : List Int).map V.int)) := r5.keep _ _ nE2d upd_same
      obtain ⟨fac, fm, fa⟩ := pickI (xs := [1, 2, 60]) (k := z) rfl z0 (by show z < 3; omega)
      have r05 := q4.trans r5
      have hU5 : SqT K H5 u [.str "read", .str n, .int sl, .int ver, .int st, optV x] := .inl (.inl (r05.tup hd hu))
      have ha5 := r5.kt q4.at_ _ _ (kE2 _ _ h3')
      refine ⟨E2, _, z, _, rfl, rfl, .inl (.inl hE2), fa, _, _, rfl, rfl, .inl ⟨by omega, by omega⟩, _, _, rfl, rfl, .ref u, rfl, u, _, 5, _, rfl, rfl, hU5, atI_nat (j := 5) rfl, small' (n := 2) (by decide), fun t1 n1 => ?_⟩
      have k1 := same_new (o := .tup [.int (st + step * fac), optV x]) n1
      refine ⟨a1, t1, _, _, rfl, rfl, k1 _ _ ha5, upd_same, small' (n := 6) (by decide), fun p H6 s6 h6 => ?_⟩
      exact q _ p sl ver (st + step * fac) x (r05.then (k1.trans s6)) h6 s1 v0
    · refine ⟨.ref u, rfl, 5, rfl, u, _, rfl, hu2, fun a1 H3 s3 h3 => ?_⟩
      have h3' : H3 a1 = some (.tup [.str "read", .str n, .int sl, .int ver, .int st]) := h3
      have r03 := r02.then s3
      have hm3 : MtAt H3 t m := r03.tup hd hm
      have hM : SqT K H3 t [.str m.name, .int m.low, .int m.high, .int m.err] := .inl (.inl hm3)
      refine ⟨.ref t, rfl, t, _, 1, _, rfl, rfl, hM, atI_nat (j := 1) rfl, _, _, rfl, rfl, .ref t, rfl, t, _, 2, _, rfl, rfl, hM, atI_nat (j := 2) rfl, _, _, rfl, rfl, .ref d, rfl, .ref t, rfl, d, t, m, rfl, r03.at_, hm3, mo, fun H4 w r4 w0 w1 => ⟨small' (n := 4) (by decide), fun E2 nE2 => ?_⟩⟩
      have r04 := r03.trans r4
      have nE2d := r04.ne nE2
      have kE2 := same_new (o := .lst [.non, .int (m.low - 1), .int (m.high + 1), .int w]) nE2
      have q5 := r04.then kE2
      refine ⟨.ref d, rfl, d, _, rfl, q5.at_, by decide, fun H6 z r6 z0 z1 => ?_⟩
      have hE2 : H6 E2 = some (.lst (([none, some (m.low - 1), some (m.high + 1), some w] : List (Option Int)).map optV)) := r6.keep _ _ nE2d upd_same
      obtain ⟨o, _, oa⟩ := pickO (xs := [none, some (m.low - 1), some (m.high + 1), some w]) (k := z) z0 (by show z < 4; omega)
      have ha6 := r6.kt q5.at_ _ _ (kE2 _ _ (r4.kt r03.at_ _ _ h3'))
      refine ⟨E2, _, z, _, rfl, rfl, .inl (.inl hE2), oa, small' (n := 1) (by decide), fun t1 n1 => ?_⟩
      have k1 := same_new (o := .tup [optV o]) n1
      refine ⟨a1, t1, _, _, rfl, rfl, k1 _ _ ha6, upd_same, small' (n := 6) (by decide), fun p H7 s7 h7 => ?_⟩
      exact q _ p sl ver st o ((q5.trans r6).then (k1.trans s7)) h7 s1 v0
end
def sp_l_spoilt (K : PySem.W.Frag) : Sp := fun vs H Q _ => ∃ (d t u : Addr) (m : Mt) (l : Lt), vs = [.ref d, .ref t, .ref u] ∧ DrA H d ∧ MtAt H t m ∧ m.low ≤ m.high ∧ LtAt H u l ∧ l.Nn ∧
  ∀ (H' : Hp) (p : Addr) (l' : Lt), Dr d H H' → LtAt H' p l' → NameG l.name l' → Q (.ref p) H'
section
variable {P : Program} {w : World} {K : PySem.W.Frag} {mg : Str → Option Value} {base : Heap}
set_option pp.maxSteps 300 in
set_option maxHeartbeats 2000000 in
theorem ok_l_spoilt (T : Ctx K mg) : FnOk P w K mg base CX0 4 T.f_l_spoilt T.fd_l_spoilt ["draws", "meter", "letter"] (sp_l_spoilt K) := by
  refine T.F_l_spoilt.ok sc_l_spoilt (fun vs H Q E h => ?_) (fun cdv A outer s H vs Q E hr h => ?_)
  · obtain ⟨d, t, u, m, l, rfl, _⟩ := h
    rfl
  · obtain ⟨d, t, u, m, l, rfl, hd, hm, mo, hu, nn, q⟩ := h
    refine ⟨_, (pss_cons (ps_set (i := 3) sc_l_spoilt.nd rfl (.inl rfl) (pe_op op_mul (pe_ix ix_list (pe_lst (pa_cons pe_int (pa_cons (pe_un un_neg pe_int) pa_nil))) (pe_call (ok_l_take T) (hr.mono (by decide)) (by rfl) T.g_l_take T.F_l_take.kp T.b_l_take .nil pass0 (pa_cons (pv 0) (pa_cons pe_int pa_nil))) (fun _ _ => rfl)) (pe_ix ix_list (pe_lst (pa_cons pe_int (pa_cons pe_int (pa_cons pe_int (pa_cons pe_int pa_nil))))) (pe_call (ok_l_take T) (hr.mono (by decide)) (by rfl) T.g_l_take T.F_l_take.kp T.b_l_take .nil pass0 (pa_cons (pv 0) (pa_cons pe_int pa_nil))) (fun _ _ => rfl))))
      (pss_cons (ps_if (pt_cmpR op_eq (pe_ix ix_tup (pv 2) pe_int (fun _ _ => rfl)) pe_str (nomark _))
        (pss_one (ps_ret (pe_call (ok_l_spoilt_read T) (hr.mono (by decide)) (by rfl) T.g_l_spoilt_read T.F_l_spoilt_read.kp T.b_l_spoilt_read .nil pass0 (pa_cons (pv 0) (pa_cons (pv 1) (pa_cons (pv 2) pa_nil))))))
        pss_nil)
      (pss_cons (ps_if (pt_cmpR op_eq (pe_ix ix_tup (pv 2) pe_int (fun _ _ => rfl)) pe_str (nomark _))
        (pss_cons (ps_if (pt_cmpR op_eq (pe_call (ok_l_take T) (hr.mono (by decide)) (by rfl) T.g_l_take T.F_l_take.kp T.b_l_take .nil pass0 (pa_cons (pv 0) (pa_cons pe_int pa_nil))) pe_int (nomark _))
        (pss_one (ps_ret (pe_op TT.op_cat_t (pe_slice TT.sl_t (pv 2) po_none (po_some pe_int)) (pe_tup (pa_cons (pe_op op_add (pe_ix ix_tup (pv 2) pe_int (fun _ _ => rfl)) (pv 3)) (pa_cons (pe_ix ix_tup (pv 2) pe_int (fun _ _ => rfl)) pa_nil))))))
        pss_nil)
      (pss_one (ps_ret (pe_op TT.op_cat_t (pe_slice TT.sl_t (pv 2) po_none (po_some pe_int)) (pe_tup (pa_cons (pe_op op_add (pe_ix ix_tup (pv 2) pe_int (fun _ _ => rfl)) (pv 3)) pa_nil))))))
        pss_nil)
      (pss_cons (ps_set (i := 4) sc_l_spoilt.nd rfl (.inl rfl) (pe_call (ok_l_take T) (hr.mono (by decide)) (by rfl) T.g_l_take T.F_l_take.kp T.b_l_take .nil pass0 (pa_cons (pv 0) (pa_cons pe_int pa_nil))))
      (pss_cons (ps_if (pt_cmpR op_eq (pv 4) pe_int (nomark _))
        (pss_one (ps_ret (pe_op TT.op_cat_t (pe_op TT.op_cat_t (pe_slice TT.sl_t (pv 2) po_none (po_some pe_int)) (pe_tup (pa_cons (pe_callB (call_max2 rfl) (by rfl) T.m_max (by decide +kernel) (pa_cons pe_int (pa_cons (pe_op op_add (pe_ix ix_tup (pv 2) pe_int (fun _ _ => rfl)) (pv 3)) pa_nil))) pa_nil))) (pe_slice TT.sl_t (pv 2) (po_some pe_int) po_none))))
        pss_nil)
      (pss_cons (ps_if (pt_cmpR op_eq (pv 4) pe_int (nomark _))
        (pss_one (ps_ret (pe_op TT.op_cat_t (pe_slice TT.sl_t (pv 2) po_none (po_some pe_int)) (pe_tup (pa_cons (pe_op op_add (pe_ix ix_tup (pv 2) pe_int (fun _ _ => rfl)) (pv 3)) (pa_cons (pe_ix ix_tup (pv 2) pe_int (fun _ _ => rfl)) pa_nil))))))
        pss_nil)
      (pss_one (ps_ret (pe_op TT.op_cat_t (pe_slice TT.sl_t (pv 2) po_none (po_some pe_int)) (pe_tup (pa_cons (pe_callB (call_max2 rfl) (by rfl) T.m_max (by decide +kernel) (pa_cons pe_int (pa_cons (pe_op op_add (pe_ix ix_tup (pv 2) pe_int (fun _ _ => rfl)) (pv 3)) pa_nil))) pa_nil))))))))))), ?_⟩
    refine ⟨_, rfl, small' (n := 2) (by decide), fun E nE => ?_⟩
    have nEd := (Dr.refl hd).ne nE
    have q1 := (Dr.refl hd).then (same_new (o := .lst [.int 1, .int (-1)]) nE)
    refine ⟨.ref d, rfl, d, _, rfl, q1.at_, by decide, fun H2 y r2 y0 y1 => ?_⟩
    have hE : H2 E = some (.lst (([1, -1] : List Int).map V.int)) := r2.keep _ _ nEd upd_same
    obtain ⟨sg, sm, sa⟩ := pickI (xs := [1, -1]) (k := y) rfl y0 (by show y < 2; omega)
    refine ⟨E, _, y, _, rfl, rfl, .inl (.inl hE), sa, small' (n := 4) (by decide), fun E2 nE2 => ?_⟩
    have r02 := q1.trans r2
    have nE2d := r02.ne nE2
    have q2 := r02.then (same_new (o := .lst [.int 1, .int 1, .int 2, .int 9]) nE2)
    refine ⟨.ref d, rfl, d, _, rfl, q2.at_, by decide, fun H3 z r3 z0 z1 => ?_⟩
    have hE2 : H3 E2 = some (.lst (([1, 1, 2, 9] : List Int).map V.int)) := r3.keep _ _ nE2d upd_same
    obtain ⟨fac, fm, fa⟩ := pickI (xs := [1, 1, 2, 9]) (k := z) rfl z0 (by show z < 4; omega)
    have sB : -1 ≤ sg ∧ sg ≤ 1 := by
      simp only [List.mem_cons, List.not_mem_nil, or_false] at sm
      omega
    refine ⟨E2, _, z, _, rfl, rfl, .inl (.inl hE2), fa, _, _, rfl, rfl, .inl ⟨by omega, by omega⟩, ?_⟩
    dsimp only
    generalize sg * fac = step
    have r03 := q2.trans r3
    have hm3 : MtAt H3 t m := r03.tup hd hm
    cases l with
    | read n s v a x =>
      have hu3 : H3 u = some (.tup [.str "read", .str n, .int s, .int v, .int a, optV x]) := r03.tup hd hu
      have hU : SqT K H3 u [.str "read", .str n, .int s, .int v, .int a, optV x] := .inl (.inl hu3)
      refine ⟨.ref u, rfl, u, _, 0, _, rfl, rfl, hU, atI_nat (j := 0) rfl, rfl, _, rfl, ite2 (fun _ => ?_) (fun e => absurd (decide_eq_true rfl) e)⟩
      exact ⟨.ref d, rfl, .ref t, rfl, .ref u, rfl, d, t, u, m, n, s, v, a, x, rfl, r03.at_, hm3, mo, hu3, nn.1, nn.2, fun H4 p s' v' a' x' r4 h4 s1 v1 => q _ p (.read n s' v' a' x') (r03.trans r4) h4 ⟨⟨s1, v1⟩, rfl⟩⟩
    | clock n lo hi =>
      have hu3 : H3 u = some (.tup [.str "clock", .str n, .int lo, .int hi]) := r03.tup hd hu
      have hU : SqT K H3 u [.str "clock", .str n, .int lo, .int hi] := .inl (.inl hu3)
      refine ⟨.ref u, rfl, u, _, 0, _, rfl, rfl, hU, atI_nat (j := 0) rfl, rfl, _, rfl, ite2 (fun e => absurd e (by decide +kernel)) (fun _ => ?_)⟩
      refine ⟨.ref u, rfl, u, _, 0, _, rfl, rfl, hU, atI_nat (j := 0) rfl, rfl, _, rfl, ite2 (fun _ => ?_) (fun e => absurd (decide_eq_true rfl) e)⟩
      refine ⟨.ref d, rfl, d, _, rfl, r03.at_, by decide, fun H4 w r4 w0 w1 => ⟨rfl, _, rfl, ite2 (fun e => ?_) (fun e => ?_)⟩⟩
      · have r04 := r03.trans r4
        have hu4 : H4 u = some (.tup [.str "clock", .str n, .int lo, .int hi]) := r04.tup hd hu
        refine ⟨.ref u, rfl, 2, rfl, u, _, rfl, hu4, fun a1 H5 s5 h5 => ?_⟩
        have h5' : H5 a1 = some (.tup [.str "clock", .str n]) := h5
        have hU5 : SqT K H5 u [.str "clock", .str n, .int lo, .int hi] := .inl (.inl (s5 _ _ hu4))
        refine ⟨.ref u, rfl, u, _, 2, _, rfl, rfl, hU5, atI_nat (j := 2) rfl, .int step, rfl, _, _, rfl, rfl, .ref u, rfl, u, _, 3, _, rfl, rfl, hU5, atI_nat (j := 3) rfl, small' (n := 2) (by decide), fun t1 n1 => ?_⟩
        have k1 := same_new (o := .tup [.int (lo + step), .int hi]) n1
        exact ⟨a1, t1, _, _, rfl, rfl, k1 _ _ h5', upd_same, small' (n := 4) (by decide), fun p H6 s6 h6 => q _ p (.clock n (lo + step) hi) (r04.then ((s5.trans k1).trans s6)) h6 ⟨trivial, rfl⟩⟩
      · have r04 := r03.trans r4
        have hu4 : H4 u = some (.tup [.str "clock", .str n, .int lo, .int hi]) := r04.tup hd hu
        refine ⟨.ref u, rfl, 3, rfl, u, _, rfl, hu4, fun a1 H5 s5 h5 => ?_⟩
        have h5' : H5 a1 = some (.tup [.str "clock", .str n, .int lo]) := h5
        have hU5 : SqT K H5 u [.str "clock", .str n, .int lo, .int hi] := .inl (.inl (s5 _ _ hu4))
        refine ⟨.ref u, rfl, u, _, 3, _, rfl, rfl, hU5, atI_nat (j := 3) rfl, .int step, rfl, _, _, rfl, rfl, small' (n := 1) (by decide), fun t1 n1 => ?_⟩
        have k1 := same_new (o := .tup [.int (hi + step)]) n1
        exact ⟨a1, t1, _, _, rfl, rfl, k1 _ _ h5', upd_same, small' (n := 4) (by decide), fun p H6 s6 h6 => q _ p (.clock n lo (hi + step)) (r04.then ((s5.trans k1).trans s6)) h6 ⟨trivial, rfl⟩⟩
    | close n f a w =>
      have f0 : 0 ≤ f := nn
      have hu3 : H3 u = some (.tup [.str "close", .str n, .int f, .int a, .int w]) := r03.tup hd hu
      have hU : SqT K H3 u [.str "close", .str n, .int f, .int a, .int w] := .inl (.inl hu3)
      refine ⟨.ref u, rfl, u, _, 0, _, rfl, rfl, hU, atI_nat (j := 0) rfl, rfl, _, rfl, ite2 (fun e => absurd e (by decide +kernel)) (fun _ => ?_)⟩
      refine ⟨.ref u, rfl, u, _, 0, _, rfl, rfl, hU, atI_nat (j := 0) rfl, rfl, _, rfl, ite2 (fun e => absurd e (by decide +kernel)) (fun _ => ?_)⟩
      refine ⟨.ref d, rfl, d, _, rfl, r03.at_, by decide, fun H4 kd r4 w0 w1 => ?_⟩
      have r04 := r03.trans r4
      have hu4 : H4 u = some (.tup [.str "close", .str n, .int f, .int a, .int w]) := r04.tup hd hu
      refine ⟨.int kd, rfl, rfl, _, rfl, ite2 (fun e => ?_) (fun e => ?_)⟩
      · refine ⟨.ref u, rfl, 2, rfl, u, _, rfl, hu4, fun a1 H5 s5 h5 => ?_⟩
        have h5' : H5 a1 = some (.tup [.str "close", .str n]) := h5
        refine ⟨.ref u, rfl, u, _, 2, _, rfl, rfl, .inl (.inl (s5 _ _ hu4)), atI_nat (j := 2) rfl, .int step, rfl, _, _, rfl, rfl, _, _, rfl, small' (n := 1) (by decide), fun t1 n1 => ?_⟩
        have k1 := same_new (o := .tup [.int (if f + step > 0 then f + step else 0)]) n1
        refine ⟨a1, t1, _, _, rfl, rfl, k1 _ _ h5', upd_same, small' (n := 3) (by decide), fun a2 H6 s6 h6 => ?_⟩
        have sA := (s5.trans k1).trans s6
        refine ⟨.ref u, rfl, 3, rfl, u, _, rfl, sA _ _ hu4, fun a3 H7 s7 h7 => ?_⟩
        have h7' : H7 a3 = some (.tup [.int a, .int w]) := h7
        exact ⟨a2, a3, _, _, rfl, rfl, s7 _ _ h6, h7', small' (n := 5) (by decide), fun p H8 s8 h8 => q _ p (.close n (if f + step > 0 then f + step else 0) a w) (r04.then ((sA.trans s7).trans s8)) h8 ⟨(show (0 : Int) ≤ _ by split <;> omega), rfl⟩⟩
      refine ⟨.int kd, rfl, rfl, _, rfl, ite2 (fun e => ?_) (fun e => ?_)⟩
      · refine ⟨.ref u, rfl, 3, rfl, u, _, rfl, hu4, fun a1 H5 s5 h5 => ?_⟩
        have h5' : H5 a1 = some (.tup [.str "close", .str n, .int f]) := h5
        have hU5 : SqT K H5 u [.str "close", .str n, .int f, .int a, .int w] := .inl (.inl (s5 _ _ hu4))
        refine ⟨.ref u, rfl, u, _, 3, _, rfl, rfl, hU5, atI_nat (j := 3) rfl, .int step, rfl, _, _, rfl, rfl, .ref u, rfl, u, _, 4, _, rfl, rfl, hU5, atI_nat (j := 4) rfl, small' (n := 2) (by decide), fun t1 n1 => ?_⟩
        have k1 := same_new (o := .tup [.int (a + step), .int w]) n1
        exact ⟨a1, t1, _, _, rfl, rfl, k1 _ _ h5', upd_same, small' (n := 5) (by decide), fun p H6 s6 h6 => q _ p (.close n f (a + step) w) (r04.then ((s5.trans k1).trans s6)) h6 ⟨f0, rfl⟩⟩
      · refine ⟨.ref u, rfl, 4, rfl, u, _, rfl, hu4, fun a1 H5 s5 h5 => ?_⟩
        have h5' : H5 a1 = some (.tup [.str "close", .str n, .int f, .int a]) := h5
        have hU5 : SqT K H5 u [.str "close", .str n, .int f, .int a, .int w] := .inl (.inl (s5 _ _ hu4))
        refine ⟨.ref u, rfl, u, _, 4, _, rfl, rfl, hU5, atI_nat (j := 4) rfl, .int step, rfl, _, _, rfl, rfl, _, _, rfl, small' (n := 1) (by decide), fun t1 n1 => ?_⟩
        have k1 := same_new (o := .tup [.int (if w + step > 0 then w + step else 0)]) n1
        exact ⟨a1, t1, _, _, rfl, rfl, k1 _ _ h5', upd_same, small' (n := 5) (by decide), fun p H6 s6 h6 => q _ p (.close n f a (if w + step > 0 then w + step else 0)) (r04.then ((s5.trans k1).trans s6)) h6 ⟨f0, rfl⟩⟩
end
def sp_l_changed (K : PySem.W.Frag) : Sp := fun vs H Q _ => ∃ (d p tm F : Addr) (ts : List Addr) (P : Pl) (us : List Addr) (ls : List Lt) (most : Int), vs = [.ref d, .ref p, .ref F, .int most] ∧ DrA H d ∧ PlanAt H p tm ts P ∧ (∀ m ∈ P.ms, m.low ≤ m.high) ∧ P.ms.length ≤ 1000 ∧ H F = some (.lst (us.map V.ref)) ∧ Paired (LtAt H) us ls ∧ (∀ l ∈ ls, NamesG (P.ms.map Mt.name) l) ∧ us.length ≤ 100000 ∧ 0 ≤ most ∧ most ≤ 1000 ∧
  ∀ (H' : Hp) (G : Addr) (us' : List Addr) (ls' : List Lt), Dr d H H' → G ≠ d → H' G = some (.lst (us'.map V.ref)) → Paired (LtAt H') us' ls' → (∀ l ∈ ls', NamesG (P.ms.map Mt.name) l) → us'.length ≤ 102000 → Q (.ref G) H'
theorem paired_put {α β : Type} {R : α → β → Prop} {a : α} {b : β} (r : R a b) : ∀ {xs : List α} {ys : List β} (i : Nat), Paired R xs ys → Paired R (xs.set i a) (ys.set i b)
  | _, _, _, .nil => .nil
  | _, _, 0, .cons _ s => .cons r s
  | _, _, i + 1, .cons q s => .cons q (paired_put r i s)
section
variable {P : Program} {w : World} {K : PySem.W.Frag} {mg : Str → Option Value} {base : Heap}
set_option pp.maxSteps 300 in
set_option maxHeartbeats 2000000 in
theorem ok_l_changed (T : Ctx K mg) : FnOk P w K mg base CX0 5 T.f_l_changed T.fd_l_changed ["draws", "plan", "letters", "most"] (sp_l_changed K) := by
  refine T.F_l_changed.ok sc_l_changed (fun vs H Q E h => ?_) (fun cdv A outer s H vs Q E hr h => ?_)
  · obtain ⟨d, p, tm, F, ts, P, us, ls, most, rfl, _⟩ := h
    rfl
  · obtain ⟨d, p, tm, F, ts, P, us, ls, most, rfl, hd, pa, mo, few, hF, hus, good, ul, m0, m1, q⟩ := h
    refine ⟨_, (pss_cons (ps_set (i := 2) sc_l_changed.nd rfl (.inr rfl) (pe_callTy call_list_of (by rfl) T.m_list (by decide +kernel) (pa_cons (pv 2) pa_nil)))
      (pss_cons (ps_for PassesOwn.never rfl (pi_range1 (by rfl) T.m_range (pa_cons (pe_call (ok_l_take T) (hr.mono (by decide)) (by rfl) T.g_l_take T.F_l_take.kp T.b_l_take .nil pass0 (pa_cons (pv 0) (pa_cons (pe_op op_add (pv 3) pe_int) pa_nil))) pa_nil)) (pg_name (i := 4) sc_l_changed.nd rfl (.inl rfl))
        (pss_one (ps_if (pt_cmpR op_gt (pe_callB call_len_seq (by rfl) T.m_len (by decide +kernel) (pa_cons (pv 2) pa_nil)) pe_int (nomark _))
        (pss_cons (ps_set (i := 5) sc_l_changed.nd rfl (.inr rfl) (pe_call (ok_l_take T) (hr.mono (by decide)) (by rfl) T.g_l_take T.F_l_take.kp T.b_l_take .nil pass0 (pa_cons (pv 0) (pa_cons (pe_callB call_len_seq (by rfl) T.m_len (by decide +kernel) (pa_cons (pv 2) pa_nil)) pa_nil))))
      (pss_cons (ps_set (i := 6) sc_l_changed.nd rfl (.inl rfl) (pe_ix ix_list (pe_lc (own := [("meter", 6)]) (g := gName 6) (by rfl) sc_l_changed.nd (pi_tup (pe_ix ix_tup (pv 1) pe_int (fun _ _ => rfl))) (blkOk_by (own := [("meter", 6)]) (N := ["draws", "plan", "letters", "most", "k", "at", "meter", "spoilt"]) (sc := defScope s_l_changed) (by decide +kernel)) (fun _ _ _ _ _ => pg_name (i := 6) sc_l_changed.nd rfl (Or.inl rfl)) (fun _ _ _ _ _ => (pts_one (pt_cmpR op_eq (pe_ix (show IxR _ (rIxT K) from ix_tup) (pv 6) pe_int (fun _ _ => rfl)) (pe_ix (show IxR _ (rIxT K) from ix_tup) (pe_ix (show IxR _ (rIxL K) from ix_list) (pv 2) (pv 5) (fun _ _ => rfl)) pe_int (fun _ _ => rfl)) (nomark _)))) (fun _ _ _ _ _ => (pv 6))) pe_int (fun _ _ => rfl)))
      (pss_cons (ps_set (i := 7) sc_l_changed.nd rfl (.inl rfl) (pe_call (ok_l_spoilt T) (hr.mono (by decide)) (by rfl) T.g_l_spoilt T.F_l_spoilt.kp T.b_l_spoilt .nil pass0 (pa_cons (pv 0) (pa_cons (pv 6) (pa_cons (pe_ix ix_list (pv 2) (pv 5) (fun _ _ => rfl)) pa_nil)))))
      (pss_one (ps_if (pt_cmpR op_eq (pe_call (ok_l_take T) (hr.mono (by decide)) (by rfl) T.g_l_take T.F_l_take.kp T.b_l_take .nil pass0 (pa_cons (pv 0) (pa_cons pe_int pa_nil))) pe_int (nomark _))
        (pss_one (ps_asg (pv 7) (pg_sub (pv 2) (pv 5) set_list)))
        (pss_one (ps_expr (pe_bm PySem.F.plainAttrs_list PySem.F.slot_list_append PySem.F.type_list_append mt_append (pv 2) (pa_cons (pv 7) pa_nil)))))))))
        pss_nil)))
      (pss_one (ps_ret (pv 2))))), ?_⟩
    have tl : ts.length = P.ms.length := pa.low.length
    have big : (1000000 : Nat) < sizeLine := by rw [sizeLine_eq]; decide
    refine ⟨.ref F, rfl, F, _, rfl, .inl (.inl (.inl hF)), fun G nG => ?_⟩
    have nGd : G ≠ d := (Dr.refl hd).ne nG
    have kG := same_new (o := .lst (us.map V.ref)) nG
    have I0 : Grow d H G (NamesG (P.ms.map Mt.name)) (upd H G (.lst (us.map V.ref))) us ls := ⟨(Dr.refl hd).then kG, upd_same, same_lts kG hus, good⟩
    refine ⟨.ref d, rfl, .int most, rfl, _, _, rfl, rfl, d, _, rfl, I0.dr.at_, by omega, fun H1 n r1 n0 n1 => ⟨n, rfl, by omega, by omega, ?_⟩⟩
    have I1 := I0.draw r1 nGd
    refine for_range (lo := 0) (n := n.toNat) (fun k σ H' => ∃ (y4 y5 y6 y7 : Option V) (us : List Addr) (ls : List Lt), σ = [some (.ref d), some (.ref p), some (.ref G), some (.int most), y4, y5, y6, y7] ∧ Grow d H G (NamesG (P.ms.map Mt.name)) H' us ls ∧ us.length ≤ 100000 + k) ⟨none, none, none, none, us, ls, rfl, I1, by omega⟩ (fun k σ H2 hk z => ?_) (fun σ H2 z => ?_)
    · obtain ⟨y4, y5, y6, y7, us, ls, rfl, I2, ul2⟩ := z
      refine ⟨.ref G, rfl, G, _, rfl, .inl (.inl (.inl I2.lst)), _, _, rfl, rfl, _, rfl, ite2 (fun e => ?_) (fun e => ⟨_, _, _, _, us, ls, rfl, I2, by omega⟩)⟩
      have c0 : (0 : Int) < ((us.map V.ref).length : Nat) := of_decide_eq_true e
      refine ⟨.ref d, rfl, .ref G, rfl, G, _, rfl, .inl (.inl (.inl I2.lst)), d, _, rfl, I2.dr.at_, c0, fun H3 at_ r3 a0 a1 => ?_⟩
      rw [List.length_map] at a1
      have I3 := I2.draw r3 nGd
      have al : at_.toNat < us.length := by omega
      have atj : atI (us.map V.ref) at_ = some (.ref us[at_.toNat]) := atI_z (j := at_.toNat) (by omega) (by rw [List.getElem?_map, List.getElem?_eq_getElem al]; rfl)
      obtain ⟨l, hl, hla⟩ := lts_at I3.all (List.getElem?_eq_getElem al)
      generalize us[at_.toNat] = u at atj hla
      obtain ⟨nn, nm⟩ := I3.good l (List.mem_of_getElem? hl)
      have hla' : H3 u = some (.tup (.str l.kind :: .str l.name :: l.nums.map optV)) := by rw [← Lt.vals_eq]; exact hla
      have pa3 := I3.dr.plan hd pa
      -- the meter
      refine ⟨.ref p, rfl, p, _, 1, _, rfl, rfl, .inl (.inl pa3.top), atI_nat (j := 1) rfl, tm, rfl, ⟨_, .inl (.inl pa3.mid)⟩, fun C nC => lc_tup (K := K) (a := tm) (xs := ts.map V.ref) (fun i H' => Same H3 H' ∧ H' C = some (.lst (((ts.take i).filter (fun t => decide (V.str (mtOf H3 t).name = V.str l.name))).map V.ref))) ⟨same_new nC, by rw [upd_same, List.take_zero]; rfl⟩ (fun i H' _ z => .inl (.inl (z.1 _ _ pa3.mid))) (fun i x H' hx z => ?_) (fun H4 z => ?_)⟩
      · obtain ⟨s4, hC⟩ := z
        rw [List.getElem?_map] at hx
        obtain ⟨t, ht, rfl⟩ := Option.map_eq_some_iff.mp hx
        have il := (List.getElem?_eq_some_iff.mp ht).1
        obtain ⟨m, hm, hmt⟩ := mts_at pa3.low ht
        have em : mtOf H3 t = m := mtOf_at hmt
        have hM : SqT K H' t [.str m.name, .int m.low, .int m.high, .int m.err] := .inl (.inl (s4 _ _ hmt))
        have lf : ((ts.take i).filter (fun t => decide (V.str (mtOf H3 t).name = V.str l.name))).length ≤ 1000 := by
          have := List.length_filter_le (fun t => decide (V.str (mtOf H3 t).name = V.str l.name)) (ts.take i)
          rw [List.length_take] at this
          omega
        have es : (ts.take (i + 1)).filter (fun t => decide (V.str (mtOf H3 t).name = V.str l.name)) = (ts.take i).filter (fun t => decide (V.str (mtOf H3 t).name = V.str l.name)) ++ (if decide (V.str m.name = V.str l.name) = true then [t] else []) := by
          rw [List.take_add_one, ht, List.filter_append]
          congr 1
          show List.filter _ [t] = _
          rw [List.filter_cons, List.filter_nil, em]
        refine ⟨rfl, .ref t, rfl, t, _, 0, _, rfl, rfl, hM, atI_nat (j := 0) rfl, .ref G, rfl, .int at_, rfl, G, _, _, _, rfl, rfl, .inl (.inl (s4 _ _ I3.lst)), atj, u, _, 1, _, rfl, rfl, .inl (.inl (s4 _ _ hla')), atI_nat (j := 1) rfl, rfl, _, rfl, ite2 (fun e1 => ?_) (fun e1 => ?_)⟩
        · rw [if_pos e1] at es
          exact ⟨.ref t, rfl, _, hC, by rw [List.length_map]; omega, same_keep s4 nC, by rw [upd_same, es, List.map_append]; rfl⟩
        · rw [if_neg e1, List.append_nil] at es
          exact ⟨s4, by rw [es]; exact hC⟩
      obtain ⟨s4, hC⟩ := z
      rw [List.length_map, List.take_length] at hC
      obtain ⟨m0', hm0, en⟩ := List.mem_map.mp nm
      obtain ⟨j, hj⟩ := List.getElem?_of_mem hm0
      have jl : j < ts.length := by
        have := (List.getElem?_eq_some_iff.mp hj).1
        omega
      obtain ⟨m1', hm1', hmt1⟩ := mts_at pa3.low (List.getElem?_eq_getElem jl)
      rw [hj] at hm1'
      cases hm1'
      have tin : ts[j] ∈ ts.filter (fun t => decide (V.str (mtOf H3 t).name = V.str l.name)) := List.mem_filter.mpr ⟨List.getElem_mem _, decide_eq_true (by rw [mtOf_at hmt1, en])⟩
      obtain ⟨t, r, ef⟩ : ∃ t r, ts.filter (fun t => decide (V.str (mtOf H3 t).name = V.str l.name)) = t :: r := by
        cases hf : ts.filter (fun t => decide (V.str (mtOf H3 t).name = V.str l.name)) with
        | nil => rw [hf] at tin; cases tin
        | cons t r => exact ⟨t, r, rfl⟩
      have tmem : t ∈ ts := (List.mem_filter.mp (by rw [ef]; exact List.mem_cons_self)).1
      obtain ⟨i2, hi2⟩ := List.getElem?_of_mem tmem
      obtain ⟨m, hm, hmt⟩ := mts_at pa3.low hi2
      rw [ef] at hC
      refine ⟨C, _, 0, _, rfl, rfl, .inl (.inl hC), atI_nat (j := 0) rfl, ?_⟩
      have I4 := I3.same s4
      refine ⟨.ref d, rfl, .ref t, rfl, .ref G, rfl, .int at_, rfl, G, _, _, _, rfl, rfl, .inl (.inl I4.lst), atj, d, t, u, m, l, rfl, I4.dr.at_, s4 _ _ hmt, mo m (List.mem_of_getElem? hm), s4 _ _ hla, nn, fun H5 sp l' r5 hsp nl' => ?_⟩
      have I5 := I4.draw r5 nGd
      have gl' : NamesG (P.ms.map Mt.name) l' := ⟨nl'.1, by rw [nl'.2]; exact nm⟩
      refine ⟨.ref d, rfl, d, _, rfl, I5.dr.at_, by decide, fun H6 c r6 c0 c1 => ⟨rfl, _, rfl, ite2 (fun e => ?_) (fun e => ?_)⟩⟩
      · have I6 := I5.draw r6 nGd
        have hsp6 : LtAt H6 sp l' := r6.tup I5.dr.at_ hsp
        have hj : ixN (us.map V.ref).length at_ = some at_.toNat := by
          unfold ixN
          rw [if_pos a0, if_pos (by rw [List.length_map]; exact a1)]
        refine ⟨.ref sp, rfl, .ref G, rfl, .int at_, rfl, G, _, _, _, rfl, rfl, I6.lst, hj, _, _, _, _, us.set at_.toNat sp, ls.set at_.toNat l', rfl, ⟨I6.dr.keepNew nGd nG, by rw [upd_same, List.map_set], ?_, fun x hx => ?_⟩, by rw [List.length_set]; omega⟩
        · exact paired_put (R := LtAt (upd H6 G (.lst ((us.map V.ref).set at_.toNat (.ref sp))))) (a := sp) (b := l') (kt_lst I6.lst sp l'.vals hsp6) _ (lts_kept (kt_lst I6.lst) I6.all)
        · rcases List.mem_or_eq_of_mem_set hx with z | z
          · exact I6.good x z
          · rw [z]
            exact gl'
      · have I6 := I5.draw r6 nGd
        have hsp6 : LtAt H6 sp l' := r6.tup I5.dr.at_ hsp
        exact ⟨.ref G, rfl, .inl ⟨rfl, _, .inl (.inl I6.lst)⟩, .ref sp, rfl, G, _, _, rfl, rfl, I6.lst, by rw [List.length_map]; omega, _, _, _, _, us ++ [sp], ls ++ [l'], rfl, I6.add (l := l') (Same.refl _) hsp6 gl' nGd nG, by rw [List.length_append]; show us.length + 1 ≤ _; omega⟩
    · obtain ⟨y4, y5, y6, y7, us, ls, rfl, I2, ul2⟩ := z
      exact ⟨.ref G, rfl, q _ G us ls I2.dr nGd I2.lst I2.all I2.good (by omega)⟩
end
theorem one_log' : ∀ {ls : List Lg} {n : Str}, n ∈ ls.map Lg.name → ∃ g r, ls.filter (fun x => decide (V.str x.name = V.str n)) = g :: r := fun h => by
  obtain ⟨g, hg, e⟩ := List.mem_map.mp h
  exact hist_firstL hg e
theorem lt_layN {l : Lt} (w : IsW l.name) : (ltD l).canLay0 = true := by
  cases l with
  | read n s v a x => exact read_lay w
  | close n f a x =>
    have w' : PyData.strOk n = true := isW_ok w
    have k : PyData.strOk "close" = true := by decide +kernel
    simp [ltD, PyData.canLay0, PyData.canLayAll0, w', k]
  | clock n lo hi =>
    have w' : PyData.strOk n = true := isW_ok w
    have k : PyData.strOk "clock" = true := by decide +kernel
    simp [ltD, PyData.canLay0, PyData.canLayAll0, w', k]
theorem flat_bls (bs : List Bool) : (bs.map V.bl).all flatV = true := by
  rw [List.all_map, List.all_eq_true]
  exact fun _ _ => rfl
theorem in_bls : ∀ bs : List Bool, (!inV (.bl false) (bs.map V.bl)) = bs.all id
  | [] => rfl
  | b :: bs => by
    have ih := in_bls bs
    unfold inV at ih ⊢
    rw [List.map_cons, List.any_cons, List.all_cons, Bool.not_or, ih]
    cases b
    · rfl
    · rfl
theorem dues_shapedL {ds : List Lt} (h : ∀ l ∈ ds, (ltD l).canLay0 = true) : SeqAt.shaped (.list (ds.map ltD)) = true := by
  unfold SeqAt.shaped
  rw [Bool.and_eq_true]
  refine ⟨dues_lay h, decide_eq_true ?_⟩
  have := lts_deep ds
  show PyData.depthAll (ds.map ltD) + 1 ≤ 64
  omega
def sp_law (K : PySem.W.Frag) : Sp := fun vs H Q _ => ∃ (a : Addr) (ns : List Int), vs = [.ref a] ∧ SqL K H a (ns.map V.int) ∧ ns.length ≤ 63 ∧ ∀ H', Q (.bl true) H'
section
variable {P : Program} {w : World} {K : PySem.W.Frag} {mg : Str → Option Value} {base : Heap}
set_option pp.maxSteps 300 in
set_option maxHeartbeats 4000000 in
theorem ok_law (T : Ctx K mg) : FnOk P w K mg base CX0 6 T.f_law T.fd_law ["script"] (sp_law K) := by
  refine T.F_law.ok sc_law (fun vs H Q E h => ?_) (fun cdv A outer s H vs Q E hr h => ?_)
  · obtain ⟨a, ns, rfl, _⟩ := h
    rfl
  · obtain ⟨a, ns, rfl, hS, hlen, q⟩ := h
    refine ⟨_, (pss_cons (ps_set (i := 1) sc_law.nd rfl (.inl rfl) (pe_call (ok_l_draws T) (hr.mono (by decide)) (by rfl) T.g_l_draws T.F_l_draws.kp T.b_l_draws .nil pass0 (pa_cons (pv 0) (pa_cons pe_int pa_nil))))
      (pss_cons (ps_set (i := 2) sc_law.nd rfl (.inl rfl) (pe_call (ok_l_cell T) (hr.mono (by decide)) (by rfl) T.g_l_cell T.F_l_cell.kp T.b_l_cell .nil pass0 (pa_cons (pv 0) (pa_cons (pv 1) pa_nil))))
      (pss_cons (ps_set (i := 3) sc_law.nd rfl (.inl rfl) (pe_call (ok_l_plan T) (hr.mono (by decide)) (by rfl) T.g_l_plan T.F_l_plan.kp T.b_l_plan .nil pass0 (pa_cons (pv 1) (pa_cons (pv 2) pa_nil))))
      (pss_cons (ps_set (i := 4) sc_law.nd rfl (.inr rfl) (pe_call (ok_l_history T) (hr.mono (by decide)) (by rfl) T.g_l_history T.F_l_history.kp T.b_l_history .nil pass0 (pa_cons (pv 1) (pa_cons (pv 3) (pa_cons pe_int (pa_cons (pv 2) pa_nil))))))
      (pss_cons (ps_set (i := 5) sc_law.nd rfl (.inr rfl) (pe_call (ok_l_changed T) (hr.mono (by decide)) (by rfl) T.g_l_changed T.F_l_changed.kp T.b_l_changed .nil pass0 (pa_cons (pv 1) (pa_cons (pv 3) (pa_cons (pe_call (ok_l_bag T) (hr.mono (by decide)) (by rfl) T.g_l_bag T.F_l_bag.kp T.b_l_bag .nil pass0 (pa_cons (pv 1) (pa_cons (pv 4) pa_nil))) (pa_cons pe_int pa_nil))))))
      (pss_cons (ps_set (i := 6) sc_law.nd rfl (.inr rfl) (pe_lc (own := [("letter", 11)]) (g := gName 11) (by rfl) sc_law.nd (pi_list (pv 5)) (blkOk_by (own := [("letter", 11)]) (N := ["script", "draws", "cell", "plan", "history", "letters", "truths", "k", "due", "passed", "right", "letter"]) (sc := defScope s_law) (by decide +kernel)) (fun _ _ _ _ _ => pg_name (i := 11) sc_law.nd rfl (Or.inl rfl)) (fun _ _ _ _ _ => pts_nil) (fun _ _ _ _ _ => (pe_call (ok_l_is_true T) (hr.mono (by decide)) (by rfl) T.g_l_is_true T.F_l_is_true.kp T.b_l_is_true .nil pass0 (pa_cons (pv 11) (pa_cons (pv 4) pa_nil))))))
      (pss_cons (ps_for PassesOwn.never rfl (pi_range1 (by rfl) T.m_range (pa_cons (pe_callB call_len_seq (by rfl) T.m_len (by decide +kernel) (pa_cons (pv 5) pa_nil)) pa_nil)) (pg_name (i := 7) sc_law.nd rfl (.inl rfl))
        (pss_one (ps_if (pt_not (pt_val (pe_call (ok_l_is_truth T) (hr.mono (by decide)) (by rfl) T.g_l_is_truth T.F_l_is_truth.kp T.b_l_is_truth .nil pass0 (pa_cons (pe_call (ok_is_true T) (hr.mono (by decide)) (by rfl) T.g_is_true T.F_is_true.kp T.b_is_true .nil pass0 (pa_cons (pe_ix ix_list (pv 5) (pv 7) (fun _ _ => rfl)) (pa_cons (pv 4) pa_nil))) (pa_cons (pe_ix ix_list (pv 6) (pv 7) (fun _ _ => rfl)) pa_nil)))))
        (pss_one (ps_ret pe_bl))
        pss_nil)))
      (pss_cons (ps_set (i := 8) sc_law.nd rfl (.inl rfl) (pe_cmpR op_notIn_seq pe_bl (pv 6) rfl))
      (pss_cons (ps_set (i := 9) sc_law.nd rfl (.inl rfl) (pe_callTy call_list_of (by rfl) T.m_list (by decide +kernel) (pa_cons (pv 5) pa_nil)))
      (pss_cons (ps_if (PW.pt (pw_or (pt_not (pt_val (pe_call (ok_l_is_truth T) (hr.mono (by decide)) (by rfl) T.g_l_is_truth T.F_l_is_truth.kp T.b_l_is_truth .nil pass0 (pa_cons (pe_call (ok_agrees T) (hr.mono (by decide)) (by rfl) T.g_agrees T.F_agrees.kp T.b_agrees .nil pass0 (pa_cons (pv 4) (pa_cons (pv 9) pa_nil))) (pa_cons (pv 8) pa_nil))))) (pw_or1 (pt_cmpR (op_neD hr.units) (pv 9) (pv 5) (nomark _)))))
        (pss_one (ps_ret pe_bl))
        pss_nil)
      (pss_cons (ps_if (pt_not (pt_val (pe_call (ok_l_is_truth T) (hr.mono (by decide)) (by rfl) T.g_l_is_truth T.F_l_is_truth.kp T.b_l_is_truth .nil pass0 (pa_cons (pe_call (ok_agrees T) (hr.mono (by decide)) (by rfl) T.g_agrees T.F_agrees.kp T.b_agrees .nil pass0 (pa_cons (pv 4) (pa_cons (pe_callTy call_tuple_of (by rfl) T.m_tuple (by decide +kernel) (pa_cons (pe_revL (pv 5)) pa_nil)) pa_nil))) (pa_cons (pv 8) pa_nil)))))
        (pss_one (ps_ret pe_bl))
        pss_nil)
      (pss_cons (ps_if (pt_not (pt_val (pe_call (ok_l_is_truth T) (hr.mono (by decide)) (by rfl) T.g_l_is_truth T.F_l_is_truth.kp T.b_l_is_truth .nil pass0 (pa_cons (pe_call (ok_agrees T) (hr.mono (by decide)) (by rfl) T.g_agrees T.F_agrees.kp T.b_agrees .nil pass0 (pa_cons (pv 4) (pa_cons (pe_op op_cat (pv 5) (pv 5)) pa_nil))) (pa_cons (pv 8) pa_nil)))))
        (pss_one (ps_ret pe_bl))
        pss_nil)
      (pss_cons (ps_setLc (i := 10) (own := [("k", 7)]) (g := gName 7) (by rfl) sc_law.nd rfl rfl (sw_true rfl rfl rfl (by decide +kernel)) (pi_range1 (by rfl) T.m_range (pa_cons (pe_callB call_len_seq (by rfl) T.m_len (by decide +kernel) (pa_cons (pv 5) pa_nil)) pa_nil)) (blkOk_by (own := [("k", 7)]) (N := ["script", "draws", "cell", "plan", "history", "letters", "truths", "k", "due", "passed", "right", "letter"]) (sc := defScope s_law) (by decide +kernel)) (fun _ _ _ _ _ => pg_name (i := 7) sc_law.nd rfl (Or.inl rfl)) (fun _ _ _ _ _ => (pts_one (pt_val (pe_ix (show IxR _ (rIxL K) from ix_list) (pv 6) (pv 7) (fun _ _ => rfl))))) (fun _ _ _ _ _ => (pe_ix (show IxR _ (rIxL K) from ix_list) (pv 5) (pv 7) (fun _ _ => rfl))))
      (pss_one (ps_ret (pe_and (pe_cmpR op_is_bl (pe_call (ok_agrees T) (hr.mono (by decide)) (by rfl) T.g_agrees T.F_agrees.kp T.b_agrees .nil pass0 (pa_cons (pv 4) (pa_cons (pv 10) pa_nil))) pe_bl (nomark _)) (pe_one (pe_cmpR op_is_bl (pe_call (ok_agrees T) (hr.mono (by decide)) (by rfl) T.g_agrees T.F_agrees.kp T.b_agrees .nil pass0 (pa_cons (pv 4) (pa_cons (pe_tup pa_nil) pa_nil))) pe_bl (nomark _))))))))))))))))))), ?_⟩
    have big : (1000000 : Nat) < sizeLine := by rw [sizeLine_eq]; decide
    refine ⟨.ref a, rfl, a, ns, 820, rfl, hS, by omega, by decide, fun H1 d s1 nd hd => ?_⟩
    refine ⟨.ref a, rfl, .ref d, rfl, a, d, ns, rfl, fun H' r => r.script hS nd s1, hd, fun H2 cell r2 hc => ?_⟩
    refine ⟨.ref d, rfl, .int cell, rfl, d, cell, rfl, r2.at_, fun H3 p tm ts P r3 pa po iw => ?_⟩
    refine ⟨.ref d, rfl, .ref p, rfl, .int cell, rfl, d, p, tm, ts, P, 5, cell, rfl, r3.at_, pa, po, by decide, by decide, fun H4 h ls r4 hh hok => ?_⟩
    have few := hok.few (by have := po.few; omega)
    have fews : ∀ g ∈ ls, g.slots.length ≤ 1000 := fun g hg => by have := few.slots g hg; omega
    have pf := po.few
    have lfew := few.logs
    have pa4 := r4.plan r3.at_ pa
    have nmP : ls.map Lg.name = P.ms.map Mt.name := paired_mapN hok
    refine ⟨.ref d, rfl, .ref p, rfl, .ref d, rfl, .ref h, rfl, d, h, ls, rfl, r4.at_, hh, few, fun H5 F us0 ts0 r5 nFd hF hus0 good0 ul0 => ?_⟩
    refine ⟨d, p, tm, F, ts, P, us0, ts0, 2, rfl, r5.at_, r5.plan r4.at_ pa4, fun m hm => (po.each m hm).order, by omega, hF, hus0, fun l hl => by rw [← nmP]; exact good0 l hl, ul0, by decide, by decide, fun H6 G us bs r6 nGd hG hus good ul => ?_⟩
    have r46 := r5.trans r6
    have hh6 := hh.kept (r46.kt r4.at_)
    have bl := hus.length
    have kn : ∀ l ∈ bs, Known ls l := fun l hl => ⟨(good l hl).1, one_log' (by rw [nmP]; exact (good l hl).2)⟩
    have isw : ∀ l ∈ bs, IsW l.name := fun l hl => by
      obtain ⟨m, hm, e⟩ := List.mem_map.mp (good l hl).2
      rw [← e]
      exact iw m hm
    have lay : ∀ l ∈ bs, (ltD l).canLay0 = true := fun l hl => lt_layN (isw l hl)
    have tru : ∀ {l : Lt} {g : Lg} {r : List Lg}, ls.filter (fun x => decide (V.str x.name = V.str l.name)) = g :: r → trueOf ls l = trueIn g l := fun e => by
      unfold trueOf
      rw [e]
    -- truths
    refine ⟨.ref G, rfl, G, rfl, ⟨_, .inl (.inl hG)⟩, fun C nC => lc_list (K := K) (a := G) (xs := us.map V.ref) (fun i H' => Same H6 H' ∧ H' C = some (.lst (((bs.take i).map (trueOf ls)).map V.bl))) ⟨same_new nC, by rw [upd_same, List.take_zero]; rfl⟩ (fun i H' _ z => .inl (.inl (z.1 _ _ hG))) (fun i x H' hx z => ?_) (fun H7 z => ?_)⟩
    · obtain ⟨s7, hC⟩ := z
      rw [List.getElem?_map] at hx
      obtain ⟨u, hu, rfl⟩ := Option.map_eq_some_iff.mp hx
      have il := (List.getElem?_eq_some_iff.mp hu).1
      obtain ⟨l, hl, hla⟩ := lts_at hus hu
      obtain ⟨nn, g, r, ef⟩ := kn l (List.mem_of_getElem? hl)
      refine ⟨rfl, .ref u, rfl, .ref h, rfl, u, h, l, ls, g, r, rfl, s7 _ _ hla, hh6.kept (Same.kt s7), by omega, fews, ef, nn, fun H8 s8 => ⟨_, s8 _ _ hC, by rw [List.length_map, List.length_map, List.length_take]; omega, same_keep (s7.trans s8) nC, ?_⟩⟩
      rw [upd_same, List.take_add_one, hl, List.map_append, List.map_append, ← tru ef]
      rfl
    obtain ⟨s7, hC⟩ := z
    rw [List.length_map, bl, List.take_length] at hC
    have hh7 := hh6.kept (Same.kt s7)
    have hG7 := s7 _ _ hG
    have hus7 := same_lts s7 hus
    have nGC : True := trivial
    -- one by one
    refine ⟨.ref G, rfl, G, _, rfl, .inl (.inl (.inl hG7)), ((us.map V.ref).length : Int), rfl, by omega, by rw [List.length_map]; omega, ?_⟩
    refine for_range (lo := 0) (n := (us.map V.ref).length) (fun i σ H' => ∃ y7 y8 y9 y10 y11 : Option V, σ = [some (.ref a), some (.ref d), some (.int cell), some (.ref p), some (.ref h), some (.ref G), some (.ref C), y7, y8, y9, y10, y11] ∧ Same H7 H') ⟨none, none, none, none, none, rfl, Same.refl _⟩ (fun i σ H8 hi z => ?_) (fun σ H8 z => ?_)
    · obtain ⟨y7, y8, y9, y10, y11, rfl, s8⟩ := z
      rw [List.length_map] at hi
      have ati : atI (us.map V.ref) (0 + (i : Int)) = some (.ref us[i]) := atI_z (j := i) (by omega) (by rw [List.getElem?_map, List.getElem?_eq_getElem hi]; rfl)
      obtain ⟨l, hl, hla⟩ := lts_at hus7 (List.getElem?_eq_getElem hi)
      generalize us[i] = u at ati hla
      obtain ⟨nn, g, r, ef⟩ := kn l (List.mem_of_getElem? hl)
      have atb : atI ((bs.map (trueOf ls)).map V.bl) (0 + (i : Int)) = some (.bl (trueIn g l)) := atI_z (j := i) (by omega) (by rw [List.getElem?_map, List.getElem?_map, hl, ← tru ef]; rfl)
      refine ⟨.ref G, rfl, .int (0 + (i : Int)), rfl, G, _, _, _, rfl, rfl, .inl (.inl (s8 _ _ hG7)), ati, .ref h, rfl, u, h, l, ls, g, r, rfl, s8 _ _ hla, hh7.kept (Same.kt s8), fews, ef, nn, fun H9 s9 => ?_⟩
      have s89 := s8.trans s9
      exact ⟨.ref C, rfl, .int (0 + (i : Int)), rfl, C, _, _, _, rfl, rfl, .inl (.inl (s89 _ _ hC)), atb, trueIn g l, rfl, true, rfl, iteF ⟨_, _, _, _, _, rfl, s89⟩⟩
    obtain ⟨y7, y8, y9, y10, y11, rfl, s8⟩ := z
    -- due
    refine ⟨.ref C, rfl, C, _, rfl, .inl (.inl (.inl (s8 _ _ hC))), rfl, flat_bls _, ?_⟩
    have edue : (!inV (.bl false) ((bs.map (trueOf ls)).map V.bl)) = bs.all (trueOf ls) := by
      rw [in_bls, List.all_map]
      rfl
    show _
    dsimp only
    simp only [if_true]
    rw [edue]
    have hG8 := s8 _ _ hG7
    have hC8 := s8 _ _ hC
    refine ⟨.ref G, rfl, G, _, rfl, .inl (.inl (.inl hG8)), fun Z nZ => ?_⟩
    have kZ := same_new (o := .lst (us.map V.ref)) nZ
    have s9 := s8.trans kZ
    refine ⟨.ref h, rfl, .ref Z, rfl, h, Z, ls, us, bs, rfl, hh7.kept (Same.kt s9), fews, .inl (.inl (.inl upd_same)), same_lts s9 hus7, kn, fun HA sA => ?_⟩
    have s9A := s9.trans sA
    refine ⟨_, rfl, bs.all (trueOf ls), rfl, true, rfl, iteF ?_⟩
    refine ⟨.ref Z, rfl, .ref G, rfl, _, _, .lst (.inl (.inl (sA _ _ upd_same))) (lts_dp (same_lts s9A hus7)), .lst (.inl (.inl (s9A _ _ hG7))) (lts_dp (same_lts s9A hus7)), dues_shapedL lay, dues_shapedL lay, ?_⟩
    rw [SeqAt.eqv_refl (.list (bs.map ltD)) (dues_lay lay)]
    refine ⟨_, rfl, iteF ?_⟩
    -- the other way round
    refine ⟨.ref h, rfl, .ref G, rfl, G, _, rfl, .inl (.inl (s9A _ _ hG7)), fun R nR => ⟨R, _, rfl, .inl ⟨.inl (.inl upd_same), fun t nt => ?_⟩⟩⟩
    have kR := same_new (o := .lst (us.map V.ref).reverse) nR
    have kt := same_new (o := .tup (us.map V.ref).reverse) nt
    have s9B := (s9A.trans kR).trans kt
    have ht : upd (upd HA R (.lst (us.map V.ref).reverse)) t (.tup (us.map V.ref).reverse) t = some (.tup (us.reverse.map V.ref)) := by rw [upd_same, List.map_reverse]
    refine ⟨h, t, ls, us.reverse, bs.reverse, rfl, hh7.kept (Same.kt s9B), fews, .inr (.inl (.inl ht)), paired_rev (same_lts s9B hus7), fun l hl => kn l (List.mem_reverse.mp hl), fun HB sB => ?_⟩
    rw [List.all_reverse]
    refine ⟨_, rfl, bs.all (trueOf ls), rfl, true, rfl, iteF ?_⟩
    have s9C := s9B.trans sB
    -- twice
    refine ⟨.ref h, rfl, .ref G, rfl, .ref G, rfl, G, G, _, _, rfl, rfl, s9C _ _ hG7, s9C _ _ hG7, by rw [List.length_map]; omega, fun E nE => ?_⟩
    have kE := same_new (o := .lst (us.map V.ref ++ us.map V.ref)) nE
    have s9D := s9C.trans kE
    have hE : upd HB E (.lst (us.map V.ref ++ us.map V.ref)) E = some (.lst ((us ++ us).map V.ref)) := by rw [upd_same, List.map_append]
    refine ⟨h, E, ls, us ++ us, bs ++ bs, rfl, hh7.kept (Same.kt s9D), fews, .inl (.inl (.inl hE)), paired_app (same_lts s9D hus7) (same_lts s9D hus7), fun l hl => kn l ((List.mem_append.mp hl).elim id id), fun HD sD => ?_⟩
    rw [List.all_append, Bool.and_self]
    refine ⟨_, rfl, bs.all (trueOf ls), rfl, true, rfl, iteF ?_⟩
    have s9E := s9D.trans sD
    -- right
    refine ⟨.ref G, rfl, G, _, rfl, .inl (.inl (.inl (s9E _ _ hG7))), ((us.map V.ref).length : Int), rfl, by omega, by rw [List.length_map]; omega, fun W nW => lc_range (lo := 0) (n := (us.map V.ref).length) (fun i H' => Same HD H' ∧ ∃ (vs : List Addr) (ms : List Lt), H' W = some (.lst (vs.map V.ref)) ∧ Paired (LtAt H') vs ms ∧ (∀ l ∈ ms, l ∈ bs ∧ trueOf ls l = true) ∧ vs.length ≤ i) ⟨same_new nW, [], [], upd_same, .nil, (fun _ z => nomatch z), Nat.le_refl 0⟩ (fun i HF hi z => ?_) (fun HF z => ?_)⟩
    · obtain ⟨sF, vs, ms, hW, hvs, gm, vl⟩ := z
      rw [List.length_map] at hi
      have ati : atI (us.map V.ref) (0 + (i : Int)) = some (.ref us[i]) := atI_z (j := i) (by omega) (by rw [List.getElem?_map, List.getElem?_eq_getElem hi]; rfl)
      obtain ⟨l, hl, hla⟩ := lts_at hus7 (List.getElem?_eq_getElem hi)
      generalize us[i] = u at ati hla
      have atb : atI ((bs.map (trueOf ls)).map V.bl) (0 + (i : Int)) = some (.bl (trueOf ls l)) := atI_z (j := i) (by omega) (by rw [List.getElem?_map, List.getElem?_map, hl]; rfl)
      have s9F := s9E.trans sF
      refine ⟨rfl, .ref C, rfl, .int (0 + (i : Int)), rfl, C, _, _, _, rfl, rfl, .inl (.inl (s9F _ _ hC)), atb, trueOf ls l, rfl, ite2 (fun e => ?_) (fun e => ?_)⟩
      · have kW := kt_lst (ys := vs.map V.ref ++ [V.ref u]) hW
        refine ⟨.ref G, rfl, .int (0 + (i : Int)), rfl, G, _, _, _, rfl, rfl, .inl (.inl (s9F _ _ hG7)), ati, _, hW, by rw [List.length_map]; omega, same_keep sF nW, vs ++ [u], ms ++ [l], by rw [upd_same, map_snoc], (lts_kept kW hvs).snoc (b := l) (kW u l.vals (s9F _ _ hla)), fun x hx => ?_, by rw [List.length_append]; show vs.length + 1 ≤ _; omega⟩
        rcases List.mem_append.mp hx with m | m
        · exact gm x m
        · rw [List.mem_singleton.mp m]
          exact ⟨List.mem_of_getElem? hl, e⟩
      · exact ⟨sF, vs, ms, hW, hvs, gm, by omega⟩
    obtain ⟨sF, vs, ms, hW, hvs, gm, vl⟩ := z
    have s9F := s9E.trans sF
    have allT : ms.all (trueOf ls) = true := List.all_eq_true.mpr fun l hl => (gm l hl).2
    refine ⟨.ref h, rfl, .ref W, rfl, h, W, ls, vs, ms, rfl, hh7.kept (Same.kt s9F), fews, .inl (.inl (.inl hW)), hvs, fun l hl => kn l (gm l hl).1, fun HG sG => ?_⟩
    rw [allT]
    refine ⟨true, true, rfl, rfl, _, rfl, iteT ?_⟩
    have s9G := s9F.trans sG
    refine ⟨.ref h, rfl, small' (n := 0) (by decide), fun te nte => ?_⟩
    have kte := same_new (o := .tup []) nte
    have s9H := s9G.trans kte
    exact ⟨h, te, ls, [], [], rfl, hh7.kept (Same.kt s9H), fews, .inr (.inl (.inl upd_same)), .nil, (fun _ z => nomatch z), fun HH sH => ⟨true, true, rfl, rfl, q _⟩⟩
end
theorem all_mk {l : PySem.W.OpenLaw} {w : World} {K : PySem.W.Frag} {h : Heap} {mg : Str → Option Value} {fa : Addr} (X : K.In h) (G : h.Ns mainGlobals mg) (hfa : mg "law" = some (.ref fa)) 
    {f1 : Addr} {od1 an1 : Option Addr} {sl1 : Array (Option Value)} {oc1 kV1 dc1 pm1 cd1 ct1 : Value}
    {f2 : Addr} {od2 an2 : Option Addr} {sl2 : Array (Option Value)} {oc2 kV2 dc2 pm2 cd2 ct2 : Value}
    {f3 : Addr} {od3 an3 : Option Addr} {sl3 : Array (Option Value)} {oc3 kV3 dc3 pm3 cd3 ct3 : Value}
    {f4 : Addr} {od4 an4 : Option Addr} {sl4 : Array (Option Value)} {oc4 kV4 dc4 pm4 cd4 ct4 : Value}
    {f5 : Addr} {od5 an5 : Option Addr} {sl5 : Array (Option Value)} {oc5 kV5 dc5 pm5 cd5 ct5 : Value}
    {f6 : Addr} {od6 an6 : Option Addr} {sl6 : Array (Option Value)} {oc6 kV6 dc6 pm6 cd6 ct6 : Value}
    {f7 : Addr} {od7 an7 : Option Addr} {sl7 : Array (Option Value)} {oc7 kV7 dc7 pm7 cd7 ct7 : Value}
    {f8 : Addr} {od8 an8 : Option Addr} {sl8 : Array (Option Value)} {oc8 kV8 dc8 pm8 cd8 ct8 : Value}
    {f9 : Addr} {od9 an9 : Option Addr} {sl9 : Array (Option Value)} {oc9 kV9 dc9 pm9 cd9 ct9 : Value}
    {f10 : Addr} {od10 an10 : Option Addr} {sl10 : Array (Option Value)} {oc10 kV10 dc10 pm10 cd10 ct10 : Value}
    {f11 : Addr} {od11 an11 : Option Addr} {sl11 : Array (Option Value)} {oc11 kV11 dc11 pm11 cd11 ct11 : Value}
    {f12 : Addr} {od12 an12 : Option Addr} {sl12 : Array (Option Value)} {oc12 kV12 dc12 pm12 cd12 ct12 : Value}
    {f13 : Addr} {od13 an13 : Option Addr} {sl13 : Array (Option Value)} {oc13 kV13 dc13 pm13 cd13 ct13 : Value}
    {f14 : Addr} {od14 an14 : Option Addr} {sl14 : Array (Option Value)} {oc14 kV14 dc14 pm14 cd14 ct14 : Value}
    {f15 : Addr} {od15 an15 : Option Addr} {sl15 : Array (Option Value)} {oc15 kV15 dc15 pm15 cd15 ct15 : Value}
    {f16 : Addr} {od16 an16 : Option Addr} {sl16 : Array (Option Value)} {oc16 kV16 dc16 pm16 cd16 ct16 : Value}
    {f17 : Addr} {od17 an17 : Option Addr} {sl17 : Array (Option Value)} {oc17 kV17 dc17 pm17 cd17 ct17 : Value}
    {f18 : Addr} {od18 an18 : Option Addr} {sl18 : Array (Option Value)} {oc18 kV18 dc18 pm18 cd18 ct18 : Value}
    {f19 : Addr} {od19 an19 : Option Addr} {sl19 : Array (Option Value)} {oc19 kV19 dc19 pm19 cd19 ct19 : Value}
    {f20 : Addr} {od20 an20 : Option Addr} {sl20 : Array (Option Value)} {oc20 kV20 dc20 pm20 cd20 ct20 : Value}
    {f21 : Addr} {od21 an21 : Option Addr} {sl21 : Array (Option Value)} {oc21 kV21 dc21 pm21 cd21 ct21 : Value}
    {f22 : Addr} {od22 an22 : Option Addr} {sl22 : Array (Option Value)} {oc22 kV22 dc22 pm22 cd22 ct22 : Value}
    {f23 : Addr} {od23 an23 : Option Addr} {sl23 : Array (Option Value)} {oc23 kV23 dc23 pm23 cd23 ct23 : Value}
    {f24 : Addr} {od24 an24 : Option Addr} {sl24 : Array (Option Value)} {oc24 kV24 dc24 pm24 cd24 ct24 : Value}
    {f25 : Addr} {od25 an25 : Option Addr} {sl25 : Array (Option Value)} {oc25 kV25 dc25 pm25 cd25 ct25 : Value}
    {f26 : Addr} {od26 an26 : Option Addr} {sl26 : Array (Option Value)} {oc26 kV26 dc26 pm26 cd26 ct26 : Value}
    (a1 : PySem.W.nsIn K mainGlobals "is_true" = some (some (.ref f1))) (l1 : K.lookup f1 = some ⟨oc1, od1, .func (PySem.W.fnOf "is_true" "is_true" (defArgs s_is_true) (defBody s_is_true) (defScope s_is_true) .none kV1 dc1 pm1 an1 cd1 ct1), sl1⟩) (c1 : PySem.W.codeIn K cd1 "is_true" = true) (k1 : PySem.W.keepIn K (.ref f1) = true)
    (a2 : PySem.W.nsIn K mainGlobals "_log_of" = some (some (.ref f2))) (l2 : K.lookup f2 = some ⟨oc2, od2, .func (PySem.W.fnOf "_log_of" "_log_of" (defArgs s_log_of) (defBody s_log_of) (defScope s_log_of) .none kV2 dc2 pm2 an2 cd2 ct2), sl2⟩) (c2 : PySem.W.codeIn K cd2 "_log_of" = true) (k2 : PySem.W.keepIn K (.ref f2) = true)
    (a3 : PySem.W.nsIn K mainGlobals "_is_read_true" = some (some (.ref f3))) (l3 : K.lookup f3 = some ⟨oc3, od3, .func (PySem.W.fnOf "_is_read_true" "_is_read_true" (defArgs s_is_read_true) (defBody s_is_read_true) (defScope s_is_read_true) .none kV3 dc3 pm3 an3 cd3 ct3), sl3⟩) (c3 : PySem.W.codeIn K cd3 "_is_read_true" = true) (k3 : PySem.W.keepIn K (.ref f3) = true)
    (a4 : PySem.W.nsIn K mainGlobals "_is_close_true" = some (some (.ref f4))) (l4 : K.lookup f4 = some ⟨oc4, od4, .func (PySem.W.fnOf "_is_close_true" "_is_close_true" (defArgs s_is_close_true) (defBody s_is_close_true) (defScope s_is_close_true) .none kV4 dc4 pm4 an4 cd4 ct4), sl4⟩) (c4 : PySem.W.codeIn K cd4 "_is_close_true" = true) (k4 : PySem.W.keepIn K (.ref f4) = true)
    (a5 : PySem.W.nsIn K mainGlobals "agrees" = some (some (.ref f5))) (l5 : K.lookup f5 = some ⟨oc5, od5, .func (PySem.W.fnOf "agrees" "agrees" (defArgs s_agrees) (defBody s_agrees) (defScope s_agrees) .none kV5 dc5 pm5 an5 cd5 ct5), sl5⟩) (c5 : PySem.W.codeIn K cd5 "agrees" = true) (k5 : PySem.W.keepIn K (.ref f5) = true)
    (a6 : PySem.W.nsIn K mainGlobals "_law_is_truth" = some (some (.ref f6))) (l6 : K.lookup f6 = some ⟨oc6, od6, .func (PySem.W.fnOf "_law_is_truth" "_law_is_truth" (defArgs s_l_is_truth) (defBody s_l_is_truth) (defScope s_l_is_truth) .none kV6 dc6 pm6 an6 cd6 ct6), sl6⟩) (c6 : PySem.W.codeIn K cd6 "_law_is_truth" = true) (k6 : PySem.W.keepIn K (.ref f6) = true)
    (a7 : PySem.W.nsIn K mainGlobals "_law_draws" = some (some (.ref f7))) (l7 : K.lookup f7 = some ⟨oc7, od7, .func (PySem.W.fnOf "_law_draws" "_law_draws" (defArgs s_l_draws) (defBody s_l_draws) (defScope s_l_draws) .none kV7 dc7 pm7 an7 cd7 ct7), sl7⟩) (c7 : PySem.W.codeIn K cd7 "_law_draws" = true) (k7 : PySem.W.keepIn K (.ref f7) = true)
    (a8 : PySem.W.nsIn K mainGlobals "_law_take" = some (some (.ref f8))) (l8 : K.lookup f8 = some ⟨oc8, od8, .func (PySem.W.fnOf "_law_take" "_law_take" (defArgs s_l_take) (defBody s_l_take) (defScope s_l_take) .none kV8 dc8 pm8 an8 cd8 ct8), sl8⟩) (c8 : PySem.W.codeIn K cd8 "_law_take" = true) (k8 : PySem.W.keepIn K (.ref f8) = true)
    (a9 : PySem.W.nsIn K mainGlobals "_law_cell" = some (some (.ref f9))) (l9 : K.lookup f9 = some ⟨oc9, od9, .func (PySem.W.fnOf "_law_cell" "_law_cell" (defArgs s_l_cell) (defBody s_l_cell) (defScope s_l_cell) .none kV9 dc9 pm9 an9 cd9 ct9), sl9⟩) (c9 : PySem.W.codeIn K cd9 "_law_cell" = true) (k9 : PySem.W.keepIn K (.ref f9) = true)
    (a10 : PySem.W.nsIn K mainGlobals "_law_word" = some (some (.ref f10))) (l10 : K.lookup f10 = some ⟨oc10, od10, .func (PySem.W.fnOf "_law_word" "_law_word" (defArgs s_l_word) (defBody s_l_word) (defScope s_l_word) .none kV10 dc10 pm10 an10 cd10 ct10), sl10⟩) (c10 : PySem.W.codeIn K cd10 "_law_word" = true) (k10 : PySem.W.keepIn K (.ref f10) = true)
    (a11 : PySem.W.nsIn K mainGlobals "_law_some_word" = some (some (.ref f11))) (l11 : K.lookup f11 = some ⟨oc11, od11, .func (PySem.W.fnOf "_law_some_word" "_law_some_word" (defArgs s_l_some_word) (defBody s_l_some_word) (defScope s_l_some_word) .none kV11 dc11 pm11 an11 cd11 ct11), sl11⟩) (c11 : PySem.W.codeIn K cd11 "_law_some_word" = true) (k11 : PySem.W.keepIn K (.ref f11) = true)
    (a12 : PySem.W.nsIn K mainGlobals "_law_reading" = some (some (.ref f12))) (l12 : K.lookup f12 = some ⟨oc12, od12, .func (PySem.W.fnOf "_law_reading" "_law_reading" (defArgs s_l_reading) (defBody s_l_reading) (defScope s_l_reading) .none kV12 dc12 pm12 an12 cd12 ct12), sl12⟩) (c12 : PySem.W.codeIn K cd12 "_law_reading" = true) (k12 : PySem.W.keepIn K (.ref f12) = true)
    (a13 : PySem.W.nsIn K mainGlobals "_law_plan" = some (some (.ref f13))) (l13 : K.lookup f13 = some ⟨oc13, od13, .func (PySem.W.fnOf "_law_plan" "_law_plan" (defArgs s_l_plan) (defBody s_l_plan) (defScope s_l_plan) .none kV13 dc13 pm13 an13 cd13 ct13), sl13⟩) (c13 : PySem.W.codeIn K cd13 "_law_plan" = true) (k13 : PySem.W.keepIn K (.ref f13) = true)
    (a14 : PySem.W.nsIn K mainGlobals "_law_versions" = some (some (.ref f14))) (l14 : K.lookup f14 = some ⟨oc14, od14, .func (PySem.W.fnOf "_law_versions" "_law_versions" (defArgs s_l_versions) (defBody s_l_versions) (defScope s_l_versions) .none kV14 dc14 pm14 an14 cd14 ct14), sl14⟩) (c14 : PySem.W.codeIn K cd14 "_law_versions" = true) (k14 : PySem.W.keepIn K (.ref f14) = true)
    (a15 : PySem.W.nsIn K mainGlobals "_law_slots" = some (some (.ref f15))) (l15 : K.lookup f15 = some ⟨oc15, od15, .func (PySem.W.fnOf "_law_slots" "_law_slots" (defArgs s_l_slots) (defBody s_l_slots) (defScope s_l_slots) .none kV15 dc15 pm15 an15 cd15 ct15), sl15⟩) (c15 : PySem.W.codeIn K cd15 "_law_slots" = true) (k15 : PySem.W.keepIn K (.ref f15) = true)
    (a16 : PySem.W.nsIn K mainGlobals "_law_history" = some (some (.ref f16))) (l16 : K.lookup f16 = some ⟨oc16, od16, .func (PySem.W.fnOf "_law_history" "_law_history" (defArgs s_l_history) (defBody s_l_history) (defScope s_l_history) .none kV16 dc16 pm16 an16 cd16 ct16), sl16⟩) (c16 : PySem.W.codeIn K cd16 "_law_history" = true) (k16 : PySem.W.keepIn K (.ref f16) = true)
    (a17 : PySem.W.nsIn K mainGlobals "_law_log" = some (some (.ref f17))) (l17 : K.lookup f17 = some ⟨oc17, od17, .func (PySem.W.fnOf "_law_log" "_law_log" (defArgs s_l_log) (defBody s_l_log) (defScope s_l_log) .none kV17 dc17 pm17 an17 cd17 ct17), sl17⟩) (c17 : PySem.W.codeIn K cd17 "_law_log" = true) (k17 : PySem.W.keepIn K (.ref f17) = true)
    (a18 : PySem.W.nsIn K mainGlobals "_law_is_true" = some (some (.ref f18))) (l18 : K.lookup f18 = some ⟨oc18, od18, .func (PySem.W.fnOf "_law_is_true" "_law_is_true" (defArgs s_l_is_true) (defBody s_l_is_true) (defScope s_l_is_true) .none kV18 dc18 pm18 an18 cd18 ct18), sl18⟩) (c18 : PySem.W.codeIn K cd18 "_law_is_true" = true) (k18 : PySem.W.keepIn K (.ref f18) = true)
    (a19 : PySem.W.nsIn K mainGlobals "_law_close" = some (some (.ref f19))) (l19 : K.lookup f19 = some ⟨oc19, od19, .func (PySem.W.fnOf "_law_close" "_law_close" (defArgs s_l_close) (defBody s_l_close) (defScope s_l_close) .none kV19 dc19 pm19 an19 cd19 ct19), sl19⟩) (c19 : PySem.W.codeIn K cd19 "_law_close" = true) (k19 : PySem.W.keepIn K (.ref f19) = true)
    (a20 : PySem.W.nsIn K mainGlobals "_law_reads" = some (some (.ref f20))) (l20 : K.lookup f20 = some ⟨oc20, od20, .func (PySem.W.fnOf "_law_reads" "_law_reads" (defArgs s_l_reads) (defBody s_l_reads) (defScope s_l_reads) .none kV20 dc20 pm20 an20 cd20 ct20), sl20⟩) (c20 : PySem.W.codeIn K cd20 "_law_reads" = true) (k20 : PySem.W.keepIn K (.ref f20) = true)
    (a21 : PySem.W.nsIn K mainGlobals "_law_every_close" = some (some (.ref f21))) (l21 : K.lookup f21 = some ⟨oc21, od21, .func (PySem.W.fnOf "_law_every_close" "_law_every_close" (defArgs s_l_every_close) (defBody s_l_every_close) (defScope s_l_every_close) .none kV21 dc21 pm21 an21 cd21 ct21), sl21⟩) (c21 : PySem.W.codeIn K cd21 "_law_every_close" = true) (k21 : PySem.W.keepIn K (.ref f21) = true)
    (a22 : PySem.W.nsIn K mainGlobals "_law_bag" = some (some (.ref f22))) (l22 : K.lookup f22 = some ⟨oc22, od22, .func (PySem.W.fnOf "_law_bag" "_law_bag" (defArgs s_l_bag) (defBody s_l_bag) (defScope s_l_bag) .none kV22 dc22 pm22 an22 cd22 ct22), sl22⟩) (c22 : PySem.W.codeIn K cd22 "_law_bag" = true) (k22 : PySem.W.keepIn K (.ref f22) = true)
    (a23 : PySem.W.nsIn K mainGlobals "_law_spoilt_read" = some (some (.ref f23))) (l23 : K.lookup f23 = some ⟨oc23, od23, .func (PySem.W.fnOf "_law_spoilt_read" "_law_spoilt_read" (defArgs s_l_spoilt_read) (defBody s_l_spoilt_read) (defScope s_l_spoilt_read) .none kV23 dc23 pm23 an23 cd23 ct23), sl23⟩) (c23 : PySem.W.codeIn K cd23 "_law_spoilt_read" = true) (k23 : PySem.W.keepIn K (.ref f23) = true)
    (a24 : PySem.W.nsIn K mainGlobals "_law_spoilt" = some (some (.ref f24))) (l24 : K.lookup f24 = some ⟨oc24, od24, .func (PySem.W.fnOf "_law_spoilt" "_law_spoilt" (defArgs s_l_spoilt) (defBody s_l_spoilt) (defScope s_l_spoilt) .none kV24 dc24 pm24 an24 cd24 ct24), sl24⟩) (c24 : PySem.W.codeIn K cd24 "_law_spoilt" = true) (k24 : PySem.W.keepIn K (.ref f24) = true)
    (a25 : PySem.W.nsIn K mainGlobals "_law_changed" = some (some (.ref f25))) (l25 : K.lookup f25 = some ⟨oc25, od25, .func (PySem.W.fnOf "_law_changed" "_law_changed" (defArgs s_l_changed) (defBody s_l_changed) (defScope s_l_changed) .none kV25 dc25 pm25 an25 cd25 ct25), sl25⟩) (c25 : PySem.W.codeIn K cd25 "_law_changed" = true) (k25 : PySem.W.keepIn K (.ref f25) = true)
    (a26 : PySem.W.nsIn K mainGlobals "law" = some (some (.ref f26))) (l26 : K.lookup f26 = some ⟨oc26, od26, .func (PySem.W.fnOf "law" "law" (defArgs s_law) (defBody s_law) (defScope s_law) .none kV26 dc26 pm26 an26 cd26 ct26), sl26⟩) (c26 : PySem.W.codeIn K cd26 "law" = true) (k26 : PySem.W.keepIn K (.ref f26) = true)
    (z27 : PySem.W.nsIn K mainGlobals "abs" = some none)
    (z28 : PySem.W.nsIn K mainGlobals "all" = some none)
    (z29 : PySem.W.nsIn K mainGlobals "bool" = some none)
    (z30 : PySem.W.nsIn K mainGlobals "int" = some none)
    (z31 : PySem.W.nsIn K mainGlobals "isinstance" = some none)
    (z32 : PySem.W.nsIn K mainGlobals "len" = some none)
    (z33 : PySem.W.nsIn K mainGlobals "list" = some none)
    (z34 : PySem.W.nsIn K mainGlobals "max" = some none)
    (z35 : PySem.W.nsIn K mainGlobals "min" = some none)
    (z36 : PySem.W.nsIn K mainGlobals "range" = some none)
    (z37 : PySem.W.nsIn K mainGlobals "set" = some none)
    (z38 : PySem.W.nsIn K mainGlobals "sorted" = some none)
    (z39 : PySem.W.nsIn K mainGlobals "sum" = some none)
    (z40 : PySem.W.nsIn K mainGlobals "tuple" = some none) :
    ∃ fd : FuncData, (∀ (s : Shared) (v : Value), BindsTo s fd ⟨[v], []⟩ [("script", v)]) ∧ ∀ base : Heap, K.In base → base.Ns mainGlobals mg →  FnOk l.prog w K mg base CX0 6 fa fd ["script"] (sp_law K) := by
  have e := hfa.symm.trans (PySem.W.mg_of X G a26)
  cases e
  have F1 := fun_mk (st := s_is_true) l1 c1 k1
  have B1 := F1.binds (ps := ["letter", "history"]) (fun _ _ _ _ _ _ us hl => match us, hl with | [_, _], _ => rfl)
  have F2 := fun_mk (st := s_log_of) l2 c2 k2
  have B2 := F2.binds (ps := ["history", "name"]) (fun _ _ _ _ _ _ us hl => match us, hl with | [_, _], _ => rfl)
  have F3 := fun_mk (st := s_is_read_true) l3 c3 k3
  have B3 := F3.binds (ps := ["slots", "slot", "version", "stamp", "value"]) (fun _ _ _ _ _ _ us hl => match us, hl with | [_, _, _, _, _], _ => rfl)
  have F4 := fun_mk (st := s_is_close_true) l4 c4 k4
  have B4 := F4.binds (ps := ["slots", "many", "stamp", "versions"]) (fun _ _ _ _ _ _ us hl => match us, hl with | [_, _, _, _], _ => rfl)
  have F5 := fun_mk (st := s_agrees) l5 c5 k5
  have B5 := F5.binds (ps := ["history", "letters"]) (fun _ _ _ _ _ _ us hl => match us, hl with | [_, _], _ => rfl)
  have F6 := fun_mk (st := s_l_is_truth) l6 c6 k6
  have B6 := F6.binds (ps := ["actual", "due"]) (fun _ _ _ _ _ _ us hl => match us, hl with | [_, _], _ => rfl)
  have F7 := fun_mk (st := s_l_draws) l7 c7 k7
  have B7 := F7.binds (ps := ["script", "many"]) (fun _ _ _ _ _ _ us hl => match us, hl with | [_, _], _ => rfl)
  have F8 := fun_mk (st := s_l_take) l8 c8 k8
  have B8 := F8.binds (ps := ["draws", "many"]) (fun _ _ _ _ _ _ us hl => match us, hl with | [_, _], _ => rfl)
  have F9 := fun_mk (st := s_l_cell) l9 c9 k9
  have B9 := F9.binds (ps := ["script", "draws"]) (fun _ _ _ _ _ _ us hl => match us, hl with | [_, _], _ => rfl)
  have F10 := fun_mk (st := s_l_word) l10 c10 k10
  have B10 := F10.binds (ps := ["number"]) (fun _ _ _ _ _ _ us hl => match us, hl with | [_], _ => rfl)
  have F11 := fun_mk (st := s_l_some_word) l11 c11 k11
  have B11 := F11.binds (ps := ["draws"]) (fun _ _ _ _ _ _ us hl => match us, hl with | [_], _ => rfl)
  have F12 := fun_mk (st := s_l_reading) l12 c12 k12
  have B12 := F12.binds (ps := ["draws", "meter"]) (fun _ _ _ _ _ _ us hl => match us, hl with | [_, _], _ => rfl)
  have F13 := fun_mk (st := s_l_plan) l13 c13 k13
  have B13 := F13.binds (ps := ["draws", "cell"]) (fun _ _ _ _ _ _ us hl => match us, hl with | [_, _], _ => rfl)
  have F14 := fun_mk (st := s_l_versions) l14 c14 k14
  have B14 := F14.binds (ps := ["draws", "meter"]) (fun _ _ _ _ _ _ us hl => match us, hl with | [_, _], _ => rfl)
  have F15 := fun_mk (st := s_l_slots) l15 c15 k15
  have B15 := F15.binds (ps := ["draws", "meter", "most", "cell"]) (fun _ _ _ _ _ _ us hl => match us, hl with | [_, _, _, _], _ => rfl)
  have F16 := fun_mk (st := s_l_history) l16 c16 k16
  have B16 := F16.binds (ps := ["draws", "plan", "most", "cell"]) (fun _ _ _ _ _ _ us hl => match us, hl with | [_, _, _, _], _ => rfl)
  have F17 := fun_mk (st := s_l_log) l17 c17 k17
  have B17 := F17.binds (ps := ["history", "name"]) (fun _ _ _ _ _ _ us hl => match us, hl with | [_, _], _ => rfl)
  have F18 := fun_mk (st := s_l_is_true) l18 c18 k18
  have B18 := F18.binds (ps := ["letter", "history"]) (fun _ _ _ _ _ _ us hl => match us, hl with | [_, _], _ => rfl)
  have F19 := fun_mk (st := s_l_close) l19 c19 k19
  have B19 := F19.binds (ps := ["draws", "log"]) (fun _ _ _ _ _ _ us hl => match us, hl with | [_, _], _ => rfl)
  have F20 := fun_mk (st := s_l_reads) l20 c20 k20
  have B20 := F20.binds (ps := ["draws", "log", "share"]) (fun _ _ _ _ _ _ us hl => match us, hl with | [_, _, _], _ => rfl)
  have F21 := fun_mk (st := s_l_every_close) l21 c21 k21
  have B21 := F21.binds (ps := ["log"]) (fun _ _ _ _ _ _ us hl => match us, hl with | [_], _ => rfl)
  have F22 := fun_mk (st := s_l_bag) l22 c22 k22
  have B22 := F22.binds (ps := ["draws", "history"]) (fun _ _ _ _ _ _ us hl => match us, hl with | [_, _], _ => rfl)
  have F23 := fun_mk (st := s_l_spoilt_read) l23 c23 k23
  have B23 := F23.binds (ps := ["draws", "meter", "letter"]) (fun _ _ _ _ _ _ us hl => match us, hl with | [_, _, _], _ => rfl)
  have F24 := fun_mk (st := s_l_spoilt) l24 c24 k24
  have B24 := F24.binds (ps := ["draws", "meter", "letter"]) (fun _ _ _ _ _ _ us hl => match us, hl with | [_, _, _], _ => rfl)
  have F25 := fun_mk (st := s_l_changed) l25 c25 k25
  have B25 := F25.binds (ps := ["draws", "plan", "letters", "most"]) (fun _ _ _ _ _ _ us hl => match us, hl with | [_, _, _, _], _ => rfl)
  have F26 := fun_mk (st := s_law) l26 c26 k26
  have B26 := F26.binds (ps := ["script"]) (fun _ _ _ _ _ _ us hl => match us, hl with | [_], _ => rfl)
  let T : Ctx K mg := { f_is_true := f1, fd_is_true := _, F_is_true := F1, b_is_true := B1, g_is_true := PySem.W.mg_of X G a1, f_log_of := f2, fd_log_of := _, F_log_of := F2, b_log_of := B2, g_log_of := PySem.W.mg_of X G a2, f_is_read_true := f3, fd_is_read_true := _, F_is_read_true := F3, b_is_read_true := B3, g_is_read_true := PySem.W.mg_of X G a3, f_is_close_true := f4, fd_is_close_true := _, F_is_close_true := F4, b_is_close_true := B4, g_is_close_true := PySem.W.mg_of X G a4, f_agrees := f5, fd_agrees := _, F_agrees := F5, b_agrees := B5, g_agrees := PySem.W.mg_of X G a5, f_l_is_truth := f6, fd_l_is_truth := _, F_l_is_truth := F6, b_l_is_truth := B6, g_l_is_truth := PySem.W.mg_of X G a6, f_l_draws := f7, fd_l_draws := _, F_l_draws := F7, b_l_draws := B7, g_l_draws := PySem.W.mg_of X G a7, f_l_take := f8, fd_l_take := _, F_l_take := F8, b_l_take := B8, g_l_take := PySem.W.mg_of X G a8, f_l_cell := f9, fd_l_cell := _, F_l_cell := F9, b_l_cell := B9, g_l_cell := PySem.W.mg_of X G a9, f_l_word := f10, fd_l_word := _, F_l_word := F10, b_l_word := B10, g_l_word := PySem.W.mg_of X G a10, f_l_some_word := f11, fd_l_some_word := _, F_l_some_word := F11, b_l_some_word := B11, g_l_some_word := PySem.W.mg_of X G a11, f_l_reading := f12, fd_l_reading := _, F_l_reading := F12, b_l_reading := B12, g_l_reading := PySem.W.mg_of X G a12, f_l_plan := f13, fd_l_plan := _, F_l_plan := F13, b_l_plan := B13, g_l_plan := PySem.W.mg_of X G a13, f_l_versions := f14, fd_l_versions := _, F_l_versions := F14, b_l_versions := B14, g_l_versions := PySem.W.mg_of X G a14, f_l_slots := f15, fd_l_slots := _, F_l_slots := F15, b_l_slots := B15, g_l_slots := PySem.W.mg_of X G a15, f_l_history := f16, fd_l_history := _, F_l_history := F16, b_l_history := B16, g_l_history := PySem.W.mg_of X G a16, f_l_log := f17, fd_l_log := _, F_l_log := F17, b_l_log := B17, g_l_log := PySem.W.mg_of X G a17, f_l_is_true := f18, fd_l_is_true := _, F_l_is_true := F18, b_l_is_true := B18, g_l_is_true := PySem.W.mg_of X G a18, f_l_close := f19, fd_l_close := _, F_l_close := F19, b_l_close := B19, g_l_close := PySem.W.mg_of X G a19, f_l_reads := f20, fd_l_reads := _, F_l_reads := F20, b_l_reads := B20, g_l_reads := PySem.W.mg_of X G a20, f_l_every_close := f21, fd_l_every_close := _, F_l_every_close := F21, b_l_every_close := B21, g_l_every_close := PySem.W.mg_of X G a21, f_l_bag := f22, fd_l_bag := _, F_l_bag := F22, b_l_bag := B22, g_l_bag := PySem.W.mg_of X G a22, f_l_spoilt_read := f23, fd_l_spoilt_read := _, F_l_spoilt_read := F23, b_l_spoilt_read := B23, g_l_spoilt_read := PySem.W.mg_of X G a23, f_l_spoilt := f24, fd_l_spoilt := _, F_l_spoilt := F24, b_l_spoilt := B24, g_l_spoilt := PySem.W.mg_of X G a24, f_l_changed := f25, fd_l_changed := _, F_l_changed := F25, b_l_changed := B25, g_l_changed := PySem.W.mg_of X G a25, f_law := fa, fd_law := _, F_law := F26, b_law := B26, g_law := PySem.W.mg_of X G a26, m_abs := PySem.W.mg_none_of X G z27, m_all := PySem.W.mg_none_of X G z28, m_bool := PySem.W.mg_none_of X G z29, m_int := PySem.W.mg_none_of X G z30, m_isinstance := PySem.W.mg_none_of X G z31, m_len := PySem.W.mg_none_of X G z32, m_list := PySem.W.mg_none_of X G z33, m_max := PySem.W.mg_none_of X G z34, m_min := PySem.W.mg_none_of X G z35, m_range := PySem.W.mg_none_of X G z36, m_set := PySem.W.mg_none_of X G z37, m_sorted := PySem.W.mg_none_of X G z38, m_sum := PySem.W.mg_none_of X G z39, m_tuple := PySem.W.mg_none_of X G z40 }
  exact ⟨PySem.W.fnOf "law" "law" (defArgs s_law) (defBody s_law) (defScope s_law) .none kV26 dc26 pm26 an26 cd26 ct26, fun s v => .of_eq rfl, fun base _ _  => ok_law T ⟩
end Tw
open PySem PySem.W PyProof.Rows
set_option maxHeartbeats 0 in
theorem PySem.Challenge.cw_toldwhensure_k13_bags_and_histories_holds : PySem.Challenge.rw_toldwhensure_k13_bags_and_histories.Holds := by
  w_on; o_law; k_head; (case hw => w_witness2)
  k_fill
  refine L2.walk_of (l := PySem.Challenge.rw_toldwhensure_k13_bags_and_histories) (n := 63) (k := 6) (x := "script") (CX := fun _ => L2.CX0) (sp := fun w => Tw.sp_law _) rfl (by decide) rfl ⟨rfl, by decide, by decide⟩ (fun w h Y => PySem.W.kIn_of Y) ?F
    (fun _ _ a ns hl _ hS => ⟨a, ns, rfl, hS, hl, fun _ => rfl⟩) (fun _ _ _ _ _ h => h)
  case F =>
    intro w mg fa h KX G hmg
    refine' Tw.all_mk KX G hmg  ?a1 ?l1 ?c1 ?k1 ?a2 ?l2 ?c2 ?k2 ?a3 ?l3 ?c3 ?k3 ?a4 ?l4 ?c4 ?k4 ?a5 ?l5 ?c5 ?k5 ?a6 ?l6 ?c6 ?k6 ?a7 ?l7 ?c7 ?k7 ?a8 ?l8 ?c8 ?k8 ?a9 ?l9 ?c9 ?k9 ?a10 ?l10 ?c10 ?k10 ?a11 ?l11 ?c11 ?k11 ?a12 ?l12 ?c12 ?k12 ?a13 ?l13 ?c13 ?k13 ?a14 ?l14 ?c14 ?k14 ?a15 ?l15 ?c15 ?k15 ?a16 ?l16 ?c16 ?k16 ?a17 ?l17 ?c17 ?k17 ?a18 ?l18 ?c18 ?k18 ?a19 ?l19 ?c19 ?k19 ?a20 ?l20 ?c20 ?k20 ?a21 ?l21 ?c21 ?k21 ?a22 ?l22 ?c22 ?k22 ?a23 ?l23 ?c23 ?k23 ?a24 ?l24 ?c24 ?k24 ?a25 ?l25 ?c25 ?k25 ?a26 ?l26 ?c26 ?k26 ?z27 ?z28 ?z29 ?z30 ?z31 ?z32 ?z33 ?z34 ?z35 ?z36 ?z37 ?z38 ?z39 ?z40
    (case a1 => k_is); (case l1 => k_is); (case c1 => k_is); (case k1 => k_is); (case a2 => k_is); (case l2 => k_is); (case c2 => k_is); (case k2 => k_is); (case a3 => k_is); (case l3 => k_is); (case c3 => k_is); (case k3 => k_is); (case a4 => k_is); (case l4 => k_is); (case c4 => k_is); (case k4 => k_is); (case a5 => k_is); (case l5 => k_is); (case c5 => k_is); (case k5 => k_is); (case a6 => k_is); (case l6 => k_is); (case c6 => k_is); (case k6 => k_is); (case a7 => k_is); (case l7 => k_is); (case c7 => k_is); (case k7 => k_is); (case a8 => k_is); (case l8 => k_is); (case c8 => k_is); (case k8 => k_is); (case a9 => k_is); (case l9 => k_is); (case c9 => k_is); (case k9 => k_is); (case a10 => k_is); (case l10 => k_is); (case c10 => k_is); (case k10 => k_is); (case a11 => k_is); (case l11 => k_is); (case c11 => k_is); (case k11 => k_is); (case a12 => k_is); (case l12 => k_is); (case c12 => k_is); (case k12 => k_is); (case a13 => k_is); (case l13 => k_is); (case c13 => k_is); (case k13 => k_is); (case a14 => k_is); (case l14 => k_is); (case c14 => k_is); (case k14 => k_is); (case a15 => k_is); (case l15 => k_is); (case c15 => k_is); (case k15 => k_is); (case a16 => k_is); (case l16 => k_is); (case c16 => k_is); (case k16 => k_is); (case a17 => k_is); (case l17 => k_is); (case c17 => k_is); (case k17 => k_is); (case a18 => k_is); (case l18 => k_is); (case c18 => k_is); (case k18 => k_is); (case a19 => k_is); (case l19 => k_is); (case c19 => k_is); (case k19 => k_is); (case a20 => k_is); (case l20 => k_is); (case c20 => k_is); (case k20 => k_is); (case a21 => k_is); (case l21 => k_is); (case c21 => k_is); (case k21 => k_is); (case a22 => k_is); (case l22 => k_is); (case c22 => k_is); (case k22 => k_is); (case a23 => k_is); (case l23 => k_is); (case c23 => k_is); (case k23 => k_is); (case a24 => k_is); (case l24 => k_is); (case c24 => k_is); (case k24 => k_is); (case a25 => k_is); (case l25 => k_is); (case c25 => k_is); (case k25 => k_is); (case a26 => k_is); (case l26 => k_is); (case c26 => k_is); (case k26 => k_is); (case z27 => k_is); (case z28 => k_is); (case z29 => k_is); (case z30 => k_is); (case z31 => k_is); (case z32 => k_is); (case z33 => k_is); (case z34 => k_is); (case z35 => k_is); (case z36 => k_is); (case z37 => k_is); (case z38 => k_is); (case z39 => k_is); (case z40 => k_is)
