import PyProof.Rows.All
import Wide.All
import OpenK.AllK
import Wide.FinOn
import PyProof.Rows.ReprOcc
import HandS.ForMost
import HandS.Wide
import HandS.WideBits
import HandS.TupAny
import HandS.IsInst
import HandS.SetFor
import HandS.SetTxt0
import HandS.Strs
import HandS.More
import HandS.EndBits
import HandS.Zip
import HandS.FStr
import HandS.Walk
import HandS.TryOnly
import HandS.Star
import HandS.SortInts
import HandS.Comp
import HandS.Exc
import HandS.StrMore
import HandS.Sort
import KE.GoesEnumKw
import HandS.TupLe
import KE.KTupSum
import PySem.Challenge.RW_toldwhensure_k20_whole_plain_values
set_option Elab.async false
set_option linter.all false
set_option maxRecDepth 100000
/-! sets of texts: set(list of texts), sorted(such a set). The members are told as a list without duplicates. -/
namespace Tset
open PySem PySem.Spec PyProof.Rows L2 PySem.Froz
/-- the payload D has the texts l, can be walked and can be read in order -/
structure Pay (P : Program) (w : World) (D : SD) (l : List Str) : Prop where
  tx : TxOk P w D l
  ris : Ris D.2.2.place.toList
  led : w.params.followText "set-order" = true ∨ D.2.2.led = true
  nd : l.Nodup
def Holds (P : Program) (w : World) (h : Heap) (a : Addr) (l : List Str) : Prop := ∃ D : SD, h.get? a = some (sObj "set" D) ∧ Pay P w D l
section
variable {P : Program} {w : World} {A : Around} {E : Value → Shared → Prop} {s : Shared}
theorem Holds.kept {h h' : Heap} {a : Addr} {l : List Str} (x : Holds P w h a l) (k : ∀ o, h.get? a = some o → h'.get? a = some o) : Holds P w h' a l :=
  let ⟨D, e, r⟩ := x
  ⟨D, k _ e, r⟩
theorem Pay.tail {es : Array (Int × Value)} {t : SetTable} {l : List Str} (ep : Nat) (dm : Bool) (tx : TxOk P w (tailTx ep es t dm) l) (nd : l.Nodup) (r : Ris t.place.toList) (g : w.params.followText "set-order" = true ∨ t.led = true) :
    Pay P w (tailTx ep es t dm) l := by
  refine ⟨tx, ?_, ?_, nd⟩ <;> unfold tailTx <;> split
  · exact relayAll_ris _ _ _
  · exact r
  · rcases g with g | g
    · exact .inl g
    · exact .inr ((relayAll_led _ _ _).trans g)
  · exact g
theorem Pay.add {D : SD} {l : List Str} {k : Str} (u : Tok) (x : Pay P w D l) (hk : k ∉ l) : Pay P w (addTx (hashStr w k) (.str k u) D) (k :: l) := by
  have tx := add_ok (k := k) u x.tx
  unfold addTx at tx ⊢
  have r1 := layNew_ris D.2.2 D.1 (hashStr w k) (.str k u) x.ris
  have l1 := layNew_led D.2.2 D.1 (hashStr w k) (.str k u)
  refine Pay.tail _ _ tx (List.nodup_cons.mpr ⟨hk, x.nd⟩) ?_ ?_
  · split <;> exact r1
  · rcases x.led with g | g
    · exact .inl g
    · right
      split
      · exact l1.trans g
      · exact l1.trans g
/-- a text that is there already is not added -/
theorem add_there {a : Addr} {D : SD} {l : List Str} {k : Str} {u : Tok} {Q : Bool → Shared → Prop} (ho : s.heap.get? a = some (sObj "set" D)) (x : TxOk P w D l) (hk : k ∈ l) (hb : l.length < scanBound) (q : Q false s) :
    wpAny (model P w) A (setAddHashed a (.str k u) (hashStr w k)) Q E s := by
  obtain ⟨es, ep, t⟩ := D
  have hy : (strKind P w).is k (.str k u) = true := is_str k u
  have hsz : es.size = l.length := x.sz
  have fits : t.fits es.size = true := x.fit
  have elems : ElemsOf (strKind P w) es.toList := x.el
  have few : es.size < scanBound := by rw [hsz]; exact hb
  obtain ⟨e, he, hz⟩ := (x.mem k).mp hk
  unfold setAddHashed setAddHashedIn
  refine wpAny_holding (wpAny_bind (wpAny_setState_of ho rfl fits ?_))
  dsimp only
  rw [byScan_of rfl few elems]
  simp only [↓reduceIte]
  unfold setAddByScan
  refine wpAny_bind (wpAny_bind (wpAny_rule ?_))
  refine wpAny_bind (wpAny_setScan_of (knd := strKind P w) (k := k) hy ho rfl fits elems ?_)
  cases hf : List.findIdx? (fun e => (strKind P w).is k e.2) es.toList with
  | some j => exact wpAny_pure (wpAny_pure q)
  | none =>
    have no := List.findIdx?_eq_none_iff.mp hf e he
    rw [hz] at no
    cases no
/-- one text more: it is there behind it -/
theorem add_one {a : Addr} {l : List Str} {k : Str} {u : Tok} {Q : Bool → Shared → Prop} (x : Holds P w s.heap a l) (hb : l.length + 1 < scanBound)
    (q : ∀ b h' l', Heap.SameBut a s.heap h' → Holds P w h' a l' → (∀ z, z ∈ l' ↔ z = k ∨ z ∈ l) → l'.length ≤ l.length + 1 → Q b { s with heap := h' }) :
    wpAny (model P w) A (setAddHashed a (.str k u) (hashStr w k)) Q E s := by
  obtain ⟨D, ho, p⟩ := x
  by_cases hk : k ∈ l
  · exact add_there ho p.tx hk (by omega) (q false s.heap l (Heap.SameBut.refl a s.heap) ⟨D, ho, p⟩ (fun z => ⟨.inr, fun h => h.elim (fun e => e ▸ hk) id⟩) (by omega))
  · refine add_x ho p.tx hk hb (q true _ (k :: l) (Heap.SameBut.update s.heap a _) ⟨_, get_upd _ ho rfl, p.add u hk⟩ (fun z => List.mem_cons) (by simp))
/-- the fresh set -/
theorem fresh {h : Heap} {a : Addr} (ho : h.get? a = some { cls := .type "set", dict := none, data := .set #[] 0 (.fresh 0 0 (!w.params.followText "set-order")) }) : Holds P w h a [] := by
  refine ⟨(#[], 0, .fresh 0 0 (!w.params.followText "set-order")), ho, TxOk.nil rfl, List.Pairwise.nil, ?_, List.nodup_nil⟩
  show _ ∨ (!w.params.followText "set-order") = true
  cases w.params.followText "set-order"
  · exact .inr rfl
  · exact .inl rfl
/-- the loop that puts the items in -/
theorem fill {I S : Addr} {fp wr : List Addr} {G : Array GenState → Array GenState → Prop} {n : Nat} {Pv : Nat → Value → Prop} {Sx : Nat → Shared → Prop} {R : Result → Shared → Prop} (W : WalksS P w A.in1 I fp wr G n Pv Sx)
    (nS : S ∉ fp) (ks : List Str) (hn : n = ks.length) (hb : ks.length + 1 < scanBound) (val : ∀ i v, Pv i v → ∃ k t, ks[i]? = some k ∧ v = .str k t) :
    ∀ (left i : Nat) (s : Shared), n - i = left → i ≤ n → Sx i s → (∃ l, Holds P w s.heap S l ∧ (∀ z, z ∈ l ↔ z ∈ ks.take i) ∧ l.length ≤ i) →
      (∀ s' l, Moved (S :: wr) G s s' → Holds P w s'.heap S l → (∀ z, z ∈ l ↔ z ∈ ks) → l.length ≤ n → R (.ok (.ret .none)) s') → codeAny (model P w) A (.builtin "set.update.loop" ⟨[.ref S, .ref I], []⟩) R s := by
  have nSw : S ∉ wr := fun z => nS (W.sub _ z)
  have up : ∀ b ∈ wr, b ∈ S :: wr := fun b z => List.mem_cons_of_mem _ z
  intro left
  induction left with
  | zero =>
    intro i s e hi st ⟨l, hl, hm, hll⟩ hR
    obtain rfl : i = n := by omega
    refine codeAny_builtin F.entry_set_update_loop ?_
    rw [Around.under_plainId F.plain_set_update_loop _]
    refine wpAny_bind (m := pyNext (.ref I)) (W.done s _ _ st fun s' mv => ?_)
    rw [List.take_of_length_le (by omega)] at hm
    exact wpAny_pure (hR s' l (mv.mono up) (hl.kept fun o z => mv.heap S o nSw z) hm hll)
  | succ left ih =>
    intro i s e hi st ⟨l, hl, hm, hll⟩ hR
    have lt : i < n := by omega
    refine codeAny_builtin F.entry_set_update_loop ?_
    rw [Around.under_plainId F.plain_set_update_loop _]
    refine wpAny_bind (m := pyNext (.ref I)) (W.item i s _ _ lt st fun v s1 hv st1 mv => ?_)
    obtain ⟨k, t, hk, rfl⟩ := val i v hv
    refine wpAny_bind (m := holding [Value.str k t] (setAdd S (.str k t))) (wpAny_holding ?_)
    unfold setAdd
    refine wpAny_holding (wpAny_bind ((strKind P w).pyHash (is_str k t) ?_))
    refine add_one (s := { s1 with toks := s1.toks + 1 }) (l := l) (hl.kept fun o z => mv.heap S o nSw z) (by omega) fun b h2 l2 sb hl2 hm2 hll2 => ?_
    refine wpAny_pure ⟨plainId_quiet F.plain_set_update_loop _, ih (i + 1) _ (by omega) lt (W.frame _ s1 _ _ st1 (Nat.le_succ _) fun b hb o z => ?_) ⟨l2, hl2, fun z => ?_, by omega⟩ fun s3 l3 mv3 hl3 hm3 hll3 => ?_⟩
    · rw [sb.2 b fun x => nS (x ▸ hb)]
      exact z
    · rw [hm2, hm, List.take_add_one, hk]
      simp only [Option.toList_some, List.mem_append, List.mem_singleton]
      exact Or.comm
    · refine hR s3 l3 (Moved.trans W.gtrans ((mv.mono up).then_heap (Nat.le_succ _) fun b o hb z => ?_) mv3) hl3 hm3 hll3
      rw [sb.2 b fun x => hb (x ▸ List.mem_cons_self)]
      exact z
theorem at_text : ∀ {us : List Value} {ks : List Str}, StrsAre us ks → ∀ (i : Nat) (v : Value), us[i]? = some v → ∃ k t, ks[i]? = some k ∧ v = .str k t
  | _, _, .nil, i, v, h => by simp at h
  | _, _, .cons k t r, 0, v, h => ⟨k, t, rfl, (Option.some.inj h).symm⟩
  | _, _, .cons k t r, i + 1, v, h => at_text r i v h
set_option maxHeartbeats 3200000 in
theorem made {l : Addr} {items : Array Value} (ks : List Str) {Q : Value → Shared → Prop} (hh : A.handled = none) (hl : s.heap.IsList l items) (hit : StrsAre items.toList ks) (hb : ks.length + 1 < scanBound)
    (q : ∀ (h' : Heap) (tk : Nat) (ls : List Str), Holds P w h' s.heap.objs.size ls → (∀ z, z ∈ ls ↔ z ∈ ks) → ls.length ≤ ks.length → (∀ b o, s.heap.get? b = some o → h'.get? b = some o) → Q (.ref s.heap.objs.size) { s with heap := h', toks := tk }) :
    wpAny (model P w) A (call (.type "set") [.ref l]) Q E s := by
  have sz : items.size = ks.length := by rw [← Array.length_toList]; exact StrsAre.length hit
  obtain ⟨_, _, hmro⟩ := F.called_set.mro
  have hmade := F.called_set.made
  have hsub := F.called_set.sub
  have h1 := F.called_set.notType
  have h2 := F.called_set.canCreate
  have h3 := F.typeCall_set_1 (.ref l)
  refine wpAny_call (codeAny_of_tree ?_)
  show wpAny _ _ (callAny (.type "set") _) _ _ _
  refine wpAny_pure ⟨Code.quiet_builtin _ (by decide +kernel), codeAny_builtin F.entry_type_call ?_⟩
  rw [Around.under_plain (weight_type_call_type "set" [.ref l] []) rfl]
  repeat (any_goals (first | assumption | wp_step))
  generalize eo : ({ cls := .type "set", dict := none, data := .set #[] 0 (.fresh 0 0 (!w.params.followText "set-order")) } : Obj) = ob
  refine codeAny_mono (code_set_led1 (.ref l) (E := E) (Q₁ := fun r s' => r = .ref s.heap.objs.size ∧ s' = { s with heap := s.heap.push ob }) (by subst eo; exact ⟨rfl, rfl⟩)) fun r s' hr => ?_
  rcases r with e | fl
  · exact hr
  cases fl with
  | ret r =>
    obtain ⟨rfl, rfl⟩ := hr
    have at0 : (s.heap.push ob).get? s.heap.objs.size = some ob := Heap.get?_push_size _ (by subst eo; rfl)
    have ty0 : Shared.TypeIs { s with heap := s.heap.push ob } (.ref s.heap.objs.size) "set" := ⟨ob, at0, by subst eo; rfl⟩
    have hli := F.called_set.init.lookup
    have hbi := F.called_set.init.bind (.ref s.heap.objs.size)
    repeat (any_goals (first | assumption | wp_step))
    refine codeAny_mono (codeAny_call_builtin (R := wants (fun r s2 => r = .none ∧ ∃ h' tk ls, s2 = { s with heap := h', toks := tk } ∧ Holds P w h' s.heap.objs.size ls ∧ (∀ z, z ∈ ls ↔ z ∈ ks) ∧ ls.length ≤ ks.length ∧ (∀ b o, s.heap.get? b = some o → h'.get? b = some o)) E)
      F.called_set.init.plain F.entry_set_init (check_set_init_1 ty0 ?_)) fun r s2 hr => ?_
    · obtain ⟨⟨oc, od, oD, os⟩, hol, hc, nl, hd⟩ := hl
      simp only at hc hd
      subst hc; subst hd
      have lst1 : (s.heap.push ob).IsList l items := ⟨_, Heap.get?_push_of_some _ hol, rfl, nl, rfl⟩
      have hol' := Heap.get?_push_of_some ob hol
      have neI : l ≠ (s.heap.push ob).objs.size := by
        rw [Heap.size_push]
        exact Nat.ne_of_lt (Nat.lt_succ_of_lt (Heap.lt_size hol))
      subst eo
      have a1 := F.sub_list_set
      have a2 := F.sub_list_frozenset
      have a3 : (Value.type "list" == Value.type "dict") = false := by decide
      unfold Builtin.«set.__init__» noKeywords Builtin.Frozenset.updateFrom
      generalize hPI : pyIter = PI
      wp_walk
      subst hPI
      refine wpAny_pyIter_list lst1 ?_
      refine wpAny_bind (wpAny_runValue ?_)
      have ltl : l < s.heap.objs.size := Heap.lt_size hol
      have hd3 : A.in1.in1.in1.handled = none := by simp [hh]
      have val : ∀ (i : Nat) (v : Value), items[i]? = some v → ∃ k t, ks[i]? = some k ∧ v = .str k t := fun i v hv => at_text hit i v (by rw [Array.getElem?_toList]; exact hv)
      refine fill ((Walks.list hd3 _ l neI items).toS) (S := s.heap.objs.size) ?nS ks sz hb val (items.size - 0) 0 _ (by omega) (Nat.zero_le _) ⟨⟨_, Heap.get?_push_size _ rfl, rfl, rfl⟩, (lst1.push _)⟩ ⟨[], ?f, by simp, Nat.le_refl 0⟩ ?R
      case nS =>
        rw [Heap.size_push]
        simp only [List.mem_cons, List.mem_singleton, List.not_mem_nil, or_false, not_or]
        exact ⟨Nat.ne_of_lt (Nat.lt_succ_self _), Nat.ne_of_gt ltl⟩
      case f =>
        have z := Heap.get?_push_of_some ({ cls := .type "list_iterator", data := .fields #[.ref l, .int 0 0] } : Obj) at0
        exact fresh z
      case R =>
        rintro ⟨h', g2, d2, t2, o2⟩ ls mv hH hm hll
        obtain rfl : g2 = s.gens := mv.gens
        obtain rfl : d2 = s.drawn := mv.drawn
        obtain rfl : o2 = s.os := mv.os
        show wpAny _ _ _ _ _ _
        refine wpAny_pure ?_
        show wpAny _ _ (ret Value.none) _ _ _
        refine wpAny_pure ⟨rfl, h', t2, ls, rfl, hH, hm, by rw [← sz]; exact hll, fun b o e => ?_⟩
        have b0 : b < s.heap.objs.size := Heap.lt_size e
        refine mv.heap b o ?_ (Heap.get?_push_of_some _ (Heap.get?_push_of_some _ e))
        simp only [List.mem_cons, List.mem_singleton, List.not_mem_nil, or_false, not_or]
        refine ⟨Nat.ne_of_lt b0, ?_⟩
        rw [Heap.size_push]
        exact Nat.ne_of_lt (Nat.lt_succ_of_lt b0)
    · rcases r with e | fl
      · exact hr
      cases fl with
      | ret r =>
        obtain ⟨rfl, h', tk, ls, rfl, hH, hm, hll, hk⟩ := hr
        repeat (any_goals (first | assumption | wp_step))
        exact q _ _ _ hH hm hll hk
      | _ => exact hr.elim
  | _ => exact hr.elim
/-- as many items as members, each member among them: the members in another order -/
theorem perm_of : ∀ (l ls : List Str), l.Nodup → (∀ z ∈ l, z ∈ ls) → ls.length ≤ l.length → ls.Perm l
  | [], ls, _, _, h => by
    have e : ls = [] := List.length_eq_zero_iff.mp (by simpa using h)
    rw [e]
  | x :: l, ls, nd, sub, h => by
    obtain ⟨nx, nd⟩ := List.nodup_cons.mp nd
    have hx : x ∈ ls := sub x List.mem_cons_self
    have p := List.perm_cons_erase hx
    have e1 : (ls.erase x).length ≤ l.length := by
      rw [List.length_erase_of_mem hx]
      simp only [List.length_cons] at h
      omega
    refine p.trans (List.Perm.cons x (perm_of l (ls.erase x) nd (fun z hz => ?_) e1))
    rcases List.mem_cons.mp (p.mem_iff.mp (sub z (List.mem_cons_of_mem _ hz))) with e | m
    · exact absurd (e ▸ hz) nx
    · exact m
theorem texts : ∀ (es : List (Int × Value)), ElemsOf (strKind P w) es → ∃ ls : List Str, StrsAre (es.map (·.2)) ls ∧ ∀ z, z ∈ ls ↔ ∃ e ∈ es, (strKind P w).is z e.2 = true
  | [], _ => ⟨[], .nil, fun z => by simp⟩
  | e :: es, h => by
    obtain ⟨ls, r, m⟩ := texts es fun x hx => h x (List.mem_cons_of_mem _ hx)
    obtain ⟨⟨k, hk, _⟩, _⟩ := h e List.mem_cons_self
    obtain ⟨t, ek⟩ := Value.isStrOf_shape (x := k) (v := e.2) hk
    refine ⟨k :: ls, ?_, fun z => ?_⟩
    · show StrsAre (e.2 :: es.map (·.2)) (k :: ls)
      rw [ek]
      exact .cons k t r
    · rw [List.mem_cons, m]
      constructor
      · rintro (rfl | ⟨x, hx, y⟩)
        · exact ⟨e, List.mem_cons_self, hk⟩
        · exact ⟨x, List.mem_cons_of_mem _ hx, y⟩
      · rintro ⟨x, hx, y⟩
        rcases List.mem_cons.mp hx with rfl | hx
        · exact .inl ((strKind P w).inj x.2 z k y hk)
        · exact .inr ⟨x, hx, y⟩
/-- the values of the payload, whatever their order, are the members, whatever theirs -/
theorem values {D : SD} {l : List Str} {vs : List Value} (p : Pay P w D l) (pm : vs.Perm (D.1.toList.map (·.2))) : ∃ ls : List Str, StrsAre vs ls ∧ ls.Perm l := by
  obtain ⟨l1, r1, m1⟩ := texts D.1.toList p.tx.el
  have e1 : l1.length = l.length := by rw [← StrsAre.length r1, List.length_map, Array.length_toList, p.tx.sz]
  have p1 : l1.Perm l := perm_of l l1 p.nd (fun z hz => (m1 z).mpr ((p.tx.mem z).mp hz)) (by omega)
  have all : ∀ v ∈ vs, ∃ x t, v = .str x t := fun v hv => r1.all v (pm.mem_iff.mp hv)
  refine ⟨vs.map strOf, strsAre_map vs all, ?_⟩
  have e2 := pm.map strOf
  rw [r1.strs] at e2
  exact e2.trans p1
/-- sorted(the set), fewer than 64 members -/
theorem inOrder {a : Addr} {l : List Str} {Q : Value → Shared → Prop} (x : Holds P w s.heap a l) (hh : A.handled = none) (few : l.length < 64)
    (q : ∀ s' p (out : Array Value) (c : Nat) (ls : List Str), (∀ b o, s.heap.get? b = some o → s'.heap.get? b = some o) → s'.gens = s.gens → s'.os = s.os → s.heap.objs.size ≤ p → s'.heap.get? p = some (seqObj "list" out c) →
      StrsAre out.toList ls → ls.Perm l → sortedS ls = true → Q (.ref p) s') : wpAny (model P w) A (call (.builtin "sorted") [.ref a]) Q E s := by
  obtain ⟨⟨es, ep, t⟩, ho, p⟩ := x
  have sz : es.size = l.length := p.tx.sz
  refine Calls.call_function_entry kind_sorted plain_sorted entry_sorted (args_sorted1 _) ?_
  unfold Builtin.«sorted»
  refine wpAny_bind (m := checkCount "sorted" 1 1 _) (wpAny_pure ?_)
  refine wpAny_bind (collect_set (A := A.in1) hh ⟨_, ho, rfl, rfl⟩ p.tx.fit (by show es.size < scanBound; unfold scanBound; omega) p.ris p.led fun s1 vs k1 z1 g1 o1 pm => ?_)
  obtain ⟨ls, r, pl⟩ := values p pm
  have hv : vs.length = l.length := by rw [StrsAre.length r, pl.length_eq]
  refine wpAny_bind (wpAny_newList ?_ (by rw [hv, sizeLine_eq]; omega))
  have at1 : (s1.heap.push (seqObj "list" vs.toArray 0)).get? s1.heap.objs.size = some (seqObj "list" vs.toArray 0) := Heap.get?_push_size _ rfl
  refine wpAny_bind (wpAny_holding (wpAny_call_entry slot_list_sort ⟨_, at1, rfl⟩ entry_list_sort
    (list_sort_treeK strKind_oneLt at1 r.keysOf (fun v1 v2 rest e => keyKind_strs (by rw [← e]; exact r)) (by rw [hv]; exact few) fun st' hp hs => ?_) (args_list_sort _)))
  obtain ⟨ys, b1, b2, b3⟩ := sorted_out_str r hp hs
  obtain ⟨c, hc⟩ := sortedHeap_at (vs := vs) (out := (arrOf st').map (·.2)) at1
  refine ⟨_, rfl, wpAny_pure ⟨_, rfl, q _ s1.heap.objs.size _ c ys (fun b u e => ?_) g1 o1 z1 hc b1 (b2.trans pl) b3⟩⟩
  have e1 := k1 b u e
  have lt := Heap.lt_size e1
  show (sortedHeap (s1.heap.push (seqObj "list" vs.toArray 0)) s1.heap.objs.size vs _).get? b = some u
  rw [sortedHeap_old (Nat.ne_of_lt lt) (by rw [size_push']; exact Nat.lt_succ_of_lt lt)]
  exact Heap.get?_push_of_some _ e1
end
/-- what stands at a: a set of the texts l -/
def SetS (P : Program) (w : World) (a : Addr) (l : List Str) : HO := .ext fun h => Holds P w h a l
section
variable {X : Cx}
def rSetOfS (K : PySem.W.Frag) (P : Program) (w : World) : List V → Hp → VK → Prop := fun xs H Q => ∃ (l : Addr) (ks : List Str), xs = [V.ref l] ∧ SqL K H l (ks.map V.str) ∧ ks.length ≤ 1000 ∧
  ∀ a ls, H a = none → (∀ z, z ∈ ls ↔ z ∈ ks) → ls.length ≤ ks.length → Q (.ref a) (upd H a (SetS P w a ls))
theorem cr_setOfS (hc : X.calm = true) : CallR X (.type "set") (rSetOfS X.K X.prog X.w) := by
  intro pins s σ H xs us Q I r h
  obtain ⟨l, ks, rfl, hl, hk, q⟩ := h
  rw [Vals.ref1 r]
  obtain ⟨its, rv, pl, hz⟩ := I.list hl
  have hn : H s.heap.objs.size = none := I.hok.fresh (Nat.le_refl _)
  refine made (P := X.prog) (w := X.w) ks (I.ok.hd hc) pl.isList (by simpa using rv.strs) (by unfold scanBound; omega) fun h' tk ls hh hm hl k => ?_
  have new : ObjOk X.prog X.w (upd H s.heap.objs.size (SetS X.prog X.w s.heap.objs.size ls)) h' s.heap.objs.size (SetS X.prog X.w s.heap.objs.size ls) :=
    ⟨hh, let ⟨_, e, _⟩ := hh; ⟨_, e⟩, fun h1 h2 x kk => x.kept kk⟩
  exact ⟨.ref s.heap.objs.size, upd H s.heap.objs.size (SetS X.prog X.w s.heap.objs.size ls), I.laid (t' := tk) k (Nat.le_refl _) new, rfl, q _ ls hn hm hl⟩
def rSortedS (P : Program) (w : World) : List V → Hp → VK → Prop := fun vs H Q => ∃ (a : Addr) (l : List Str), vs = [V.ref a] ∧ H a = some (SetS P w a l) ∧ l.length < 64 ∧
  ∀ (ls : List Str) (p : Addr), ls.Perm l → ls.Nodup → sortedS ls = true → H p = none → Q (.ref p) (upd H p (.lst (ls.map V.str)))
theorem cr_sortedSetS (hc : X.calm = true) : CallR X (.builtin "sorted") (rSortedS X.prog X.w) := by
  intro pins s σ H vs us Q I r h
  obtain ⟨a, l, rfl, ha, few, q⟩ := h
  have R : Holds X.prog X.w s.heap a l := (I.hok a _ ha).1
  have nd : l.Nodup := let ⟨_, _, p⟩ := R; p.nd
  rw [Vals.ref1 r]
  refine inOrder R (I.ok.hd hc) few fun s' p out c ls k g o hp hg hi pm so => ?_
  have hlen : (ls.map V.str).length ≤ sizeLine := by rw [List.length_map, pm.length_eq, sizeLine_eq]; omega
  have hn : H p = none := I.hok.fresh hp
  have J : Inv X pins σ (upd H p (.lst (ls.map V.str))) { s with heap := s'.heap, gens := s'.gens, drawn := s'.drawn, toks := s'.toks } :=
    I.call (ch := []) (Un.laid k hp hn) (I.hok.laid k hp ⟨hlen, out.toList, c, vals_of_strs hi, hg⟩) (by rw [g]; exact I.bare) (fun _ z => nomatch z)
  have e : s' = { s with heap := s'.heap, gens := s'.gens, drawn := s'.drawn, toks := s'.toks } := by
    cases s'
    cases s
    cases o
    rfl
  rw [e]
  exact ⟨.ref p, _, J, rfl, q ls p pm (pm.nodup_iff.mpr nd) so hn⟩
end
end Tset

/-! sets of whole numbers: set(list of ints), sorted(such a set), any number of members -/
namespace Iset
open PySem PySem.Spec PyProof.Rows L2
section
variable {P : Program} {w : World} {A : Around} {E : Value → Shared → Prop} {s : Shared}
set_option maxHeartbeats 3200000 in
theorem made {l : Addr} {items : Array Value} (ks : List Int) {Q : Value → Shared → Prop} (hh : A.handled = none) (hl : s.heap.IsList l items) (hit : IntsAre items.toList ks) (hb : ks.length + 1 < scanBound)
    (q : ∀ (h' : Heap) (tk c : Nat), SetR w h' s.heap.objs.size (fun j => decide (j ∈ ks)) c → c ≤ ks.length → (∀ b o, s.heap.get? b = some o → h'.get? b = some o) → Q (.ref s.heap.objs.size) { s with heap := h', toks := tk }) :
    wpAny (model P w) A (call (.type "set") [.ref l]) Q E s := by
  have sz : items.size = ks.length := by rw [← Array.length_toList]; exact IntsAre.length hit
  obtain ⟨_, _, hmro⟩ := F.called_set.mro
  have hmade := F.called_set.made
  have hsub := F.called_set.sub
  have h1 := F.called_set.notType
  have h2 := F.called_set.canCreate
  have h3 := F.typeCall_set_1 (.ref l)
  refine wpAny_call (codeAny_of_tree ?_)
  show wpAny _ _ (callAny (.type "set") _) _ _ _
  refine wpAny_pure ⟨Code.quiet_builtin _ (by decide +kernel), codeAny_builtin F.entry_type_call ?_⟩
  rw [Around.under_plain (weight_type_call_type "set" [.ref l] []) rfl]
  repeat (any_goals (first | assumption | wp_step))
  generalize eo : ({ cls := .type "set", dict := none, data := .set #[] 0 (.fresh 0 0 (!w.params.followText "set-order")) } : Obj) = ob
  refine codeAny_mono (code_set_led1 (.ref l) (E := E) (Q₁ := fun r s' => r = .ref s.heap.objs.size ∧ s' = { s with heap := s.heap.push ob }) (by subst eo; exact ⟨rfl, rfl⟩)) fun r s' hr => ?_
  rcases r with e | fl
  · exact hr
  cases fl with
  | ret r =>
    obtain ⟨rfl, rfl⟩ := hr
    have at0 : (s.heap.push ob).get? s.heap.objs.size = some ob := Heap.get?_push_size _ (by subst eo; rfl)
    have ty0 : Shared.TypeIs { s with heap := s.heap.push ob } (.ref s.heap.objs.size) "set" := ⟨ob, at0, by subst eo; rfl⟩
    have hli := F.called_set.init.lookup
    have hbi := F.called_set.init.bind (.ref s.heap.objs.size)
    repeat (any_goals (first | assumption | wp_step))
    refine codeAny_mono (codeAny_call_builtin (R := wants (fun r s2 => r = .none ∧ ∃ h' tk c, s2 = { s with heap := h', toks := tk } ∧ SetR w h' s.heap.objs.size (fun j => decide (j ∈ ks)) c ∧ c ≤ ks.length ∧ (∀ b o, s.heap.get? b = some o → h'.get? b = some o)) E)
      F.called_set.init.plain F.entry_set_init (check_set_init_1 ty0 ?_)) fun r s2 hr => ?_
    · obtain ⟨⟨oc, od, oD, os⟩, hol, hc, nl, hd⟩ := hl
      simp only at hc hd
      subst hc; subst hd
      have lst1 : (s.heap.push ob).IsList l items := ⟨_, Heap.get?_push_of_some _ hol, rfl, nl, rfl⟩
      have hol' := Heap.get?_push_of_some ob hol
      have neI : l ≠ (s.heap.push ob).objs.size := by
        rw [Heap.size_push]
        exact Nat.ne_of_lt (Nat.lt_succ_of_lt (Heap.lt_size hol))
      subst eo
      have a1 := F.sub_list_set
      have a2 := F.sub_list_frozenset
      have a3 : (Value.type "list" == Value.type "dict") = false := by decide
      unfold Builtin.«set.__init__» noKeywords Builtin.Frozenset.updateFrom
      generalize hPI : pyIter = PI
      wp_walk
      subst hPI
      refine wpAny_pyIter_list lst1 ?_
      refine wpAny_bind (wpAny_runValue ?_)
      have ltl : l < s.heap.objs.size := Heap.lt_size hol
      have hd3 : A.in1.in1.in1.handled = none := by simp [hh]
      have val : ∀ (i : Nat) (v : Value), items[i]? = some v → ∃ k t, ks[i]? = some k ∧ v = .int k t := fun i v hv => by
        have il : i < ks.length := by rw [← sz]; exact (Array.getElem?_eq_some_iff.mp hv).1
        obtain ⟨t, e⟩ := PyProof.Rows.IntsAre.int_at hit i v (by rw [Array.getElem?_toList]; exact hv)
        refine ⟨ks[i], t, List.getElem?_eq_getElem il, ?_⟩
        rw [e, List.getD_eq_getElem?_getD, List.getElem?_eq_getElem il]
        rfl
      refine set_update_ints ((Walks.list hd3 _ l neI items).toS) s.heap.objs.size ?nS ks sz hb val (items.size - 0) 0 _ (by omega) (Nat.zero_le _) ⟨⟨_, Heap.get?_push_size _ rfl, rfl, rfl⟩, (lst1.push _)⟩ ⟨0, Nat.le_refl 0, ?f⟩ ?R
      case nS =>
        rw [Heap.size_push]
        simp only [List.mem_cons, List.mem_singleton, List.not_mem_nil, or_false, not_or]
        exact ⟨Nat.ne_of_lt (Nat.lt_succ_self _), Nat.ne_of_gt ltl⟩
      case f =>
        exact setR_new_at (Heap.get?_push_of_some ({ cls := .type "list_iterator", data := .fields #[.ref l, .int 0 0] } : Obj) at0)
      case R =>
        rintro ⟨h', g2, d2, t2, o2⟩ c mv hm hH
        obtain rfl : g2 = s.gens := mv.gens
        obtain rfl : d2 = s.drawn := mv.drawn
        obtain rfl : o2 = s.os := mv.os
        show wpAny _ _ _ _ _ _
        refine wpAny_pure ?_
        show wpAny _ _ (ret Value.none) _ _ _
        refine wpAny_pure ⟨rfl, h', t2, c, rfl, hH, by rw [← sz]; exact hm, fun b o e => ?_⟩
        have b0 : b < s.heap.objs.size := Heap.lt_size e
        refine mv.heap b o ?_ (Heap.get?_push_of_some _ (Heap.get?_push_of_some _ e))
        simp only [List.mem_cons, List.mem_singleton, List.not_mem_nil, or_false, not_or]
        refine ⟨Nat.ne_of_lt b0, ?_⟩
        rw [Heap.size_push]
        exact Nat.ne_of_lt (Nat.lt_succ_of_lt b0)
    · rcases r with e | fl
      · exact hr
      cases fl with
      | ret r =>
        obtain ⟨rfl, h', tk, c, rfl, hH, hm, hk⟩ := hr
        repeat (any_goals (first | assumption | wp_step))
        exact q _ _ _ hH hm hk
      | _ => exact hr.elim
  | _ => exact hr.elim
/-- sorted(the set), any number of members -/
theorem inOrder {a : Addr} {S : Int → Bool} {n : Nat} {Q : Value → Shared → Prop} (x : SetR w s.heap a S n) (hh : A.handled = none)
    (q : ∀ s' p (out : List Value) (c : Nat) (ns : List Int), (∀ b o, s.heap.get? b = some o → s'.heap.get? b = some o) → s'.gens = s.gens → s'.os = s.os → s.heap.objs.size ≤ p → s'.heap.get? p = some (seqObj "list" out.toArray c) →
      IntsAre out ns → ns.Pairwise (· < ·) → (∀ k, k ∈ ns ↔ S k = true) → ns.length = n → n ≤ sizeLine → Q (.ref p) s') : wpAny (model P w) A (call (.builtin "sorted") [.ref a]) Q E s := by
  obtain ⟨o, es, ep, t, ho, hex, hd, good, nd, hm, few, hf, hn, hr, hl⟩ := x
  have n1 : n ≤ sizeLine := by unfold scanBound at few; rw [sizeLine_eq]; omega
  refine Calls.call_function_entry kind_sorted plain_sorted entry_sorted (args_sorted1 _) ?_
  unfold Builtin.«sorted»
  refine wpAny_bind (m := checkCount "sorted" 1 1 _) (wpAny_pure ?_)
  refine wpAny_bind (collect_set (A := A.in1) hh ⟨o, ho, hex.1, hd⟩ hf few hr hl fun s1 vs k1 z1 g1 o1 pm => ?_)
  have hv : vs.length = n := by rw [pm.length_eq, List.length_map, Array.length_toList]; exact hn
  have all : ∀ v ∈ vs, ∃ i t, v = Value.int i t := fun v hv => by
    obtain ⟨e, he, r⟩ := List.mem_map.mp (pm.mem_iff.mp hv)
    obtain ⟨k, tk, h1, _⟩ := good e he
    exact ⟨k, tk, by rw [← r]; exact h1⟩
  have hI := SrtO.ints_iv all
  have pk : (vs.map SrtO.iv).Perm (es.toList.map keyOf) := by
    have r := pm.map SrtO.iv
    rw [List.map_map] at r
    refine r.trans (List.Perm.of_eq (List.map_congr_left fun e he => ?_))
    obtain ⟨k, tk, h1, _⟩ := good e he
    show SrtO.iv e.2 = keyOf e
    unfold keyOf
    rw [h1]
    rfl
  refine wpAny_bind (wpAny_newList ?_ (by rw [hv]; exact n1))
  have at1 : (s1.heap.push (seqObj "list" vs.toArray 0)).get? s1.heap.objs.size = some (seqObj "list" vs.toArray 0) := Heap.get?_push_size _ rfl
  refine wpAny_bind (wpAny_holding (wpAny_call_entry slot_list_sort ⟨_, at1, rfl⟩ entry_list_sort
    (SrtO.list_sort_ord SrtO.swo_int at1 (by rw [hv]; exact n1) (fun h2 => SrtO.ints_sortable hI h2) fun out h1 h2 => ⟨_, rfl, ?_⟩) (args_list_sort _)))
  obtain ⟨b1, b2, b3⟩ := SrtO.ints_out hI h1 h2
  obtain ⟨c, hc⟩ := PyProof.Rows.sortedHeap_at (vs := vs) (out := out.toArray) at1
  have pn := b2.trans pk
  refine wpAny_pure ⟨_, rfl, q _ s1.heap.objs.size out c _ (fun b u e => ?_) g1 o1 z1 hc b1 (lt_of_le_nodup _ b3 (pn.nodup_iff.mpr nd)) (fun k => by rw [pn.mem_iff, ← hm k]) (by rw [pn.length_eq, List.length_map, Array.length_toList]; exact hn) n1⟩
  have e1 := k1 b u e
  have lt := Heap.lt_size e1
  show (sortedHeap (s1.heap.push (seqObj "list" vs.toArray 0)) s1.heap.objs.size vs _).get? b = some u
  rw [sortedHeap_old (Nat.ne_of_lt lt) (by rw [size_push']; exact Nat.lt_succ_of_lt lt)]
  exact Heap.get?_push_of_some _ e1
end
section
variable {X : Cx}
def rSetOfI (K : PySem.W.Frag) (w : World) : List V → Hp → VK → Prop := fun xs H Q => ∃ (l : Addr) (ks : List Int), xs = [V.ref l] ∧ SqL K H l (ks.map V.int) ∧ ks.length ≤ 4000 ∧
  ∀ a c, H a = none → c ≤ ks.length → Q (.ref a) (upd H a (SetO w a (fun j => decide (j ∈ ks)) c))
theorem cr_setOfI (hc : X.calm = true) : CallR X (.type "set") (rSetOfI X.K X.w) := by
  intro pins s σ H xs us Q I r h
  obtain ⟨l, ks, rfl, hl, hk, q⟩ := h
  rw [Vals.ref1 r]
  obtain ⟨its, rv, pl, hz⟩ := I.list hl
  have hn : H s.heap.objs.size = none := I.hok.fresh (Nat.le_refl _)
  refine made (P := X.prog) (w := X.w) ks (I.ok.hd hc) pl.isList (by simpa using rv.ints) (by unfold scanBound; omega) fun h' tk c hh hl k => ?_
  exact ⟨.ref s.heap.objs.size, upd H s.heap.objs.size (SetO X.w s.heap.objs.size (fun j => decide (j ∈ ks)) c), I.laid (t' := tk) k (Nat.le_refl _) (setO_new hh), rfl, q _ c hn hl⟩
def rSortedSetI (w : World) : List V → Hp → VK → Prop := fun vs H Q => ∃ (a : Addr) (S : Int → Bool) (n : Nat), vs = [V.ref a] ∧ H a = some (SetO w a S n) ∧
  ∀ (ns : List Int) (p : Addr), ns.Pairwise (· < ·) → (∀ k : Int, k ∈ ns ↔ S k = true) → ns.length = n → H p = none → Q (.ref p) (upd H p (.lst (ns.map V.int)))
theorem cr_sortedSetI (hc : X.calm = true) : CallR X (.builtin "sorted") (rSortedSetI X.w) := by
  intro pins s σ H vs us Q I r h
  obtain ⟨a, S, n, rfl, ha, q⟩ := h
  rw [Vals.ref1 r]
  refine inOrder (setO_get I ha) (I.ok.hd hc) fun s' p out c ns k g o hp hg hi hs hm hl n1 => ?_
  have hlen : (ns.map V.int).length ≤ sizeLine := by rw [List.length_map, hl]; exact n1
  have hn : H p = none := I.hok.fresh hp
  have J : Inv X pins σ (upd H p (.lst (ns.map V.int))) { s with heap := s'.heap, gens := s'.gens, drawn := s'.drawn, toks := s'.toks } :=
    I.call (ch := []) (Un.laid k hp hn) (I.hok.laid k hp ⟨hlen, out, c, vals_of_ints hi, hg⟩) (by rw [g]; exact I.bare) (fun _ z => nomatch z)
  have e : s' = { s with heap := s'.heap, gens := s'.gens, drawn := s'.drawn, toks := s'.toks } := by
    cases s'
    cases s
    cases o
    rfl
  rw [e]
  exact ⟨.ref p, _, J, rfl, q ns p hs hm hl hn⟩
end
end Iset

/-! a, b, *rest = t, t a tuple: the names ahead of the star, the rest as a new list -/
namespace Star2
open PySem PySem.Spec PyProof.Rows L2
theorem nolen_ti : typeLookup (.type "tuple_iterator") "__len__" = pure none := by rw [typeLookup_type, builtinLookup_eq_fast]; kernel_rfl
theorem hint_ti : typeLookup (.type "tuple_iterator") "__length_hint__" = pure (some (.builtin "tuple_iterator.__length_hint__")) := by rw [typeLookup_type, builtinLookup_eq_fast]; kernel_rfl
section
variable {prog : Program} {w : World} {A : Around} {E : Value → Shared → Prop} {s : Shared}
/-- the walk of a tuple from its k-th item on -/
theorem from_ {I ax : Addr} {items : Array Value} {k : Nat} (W : Walks prog w A I [I, ax] [I] items.size (fun i v => items[i]? = some v) (fun i h => h.IsTupleIter I ax i ∧ h.IsTuple ax items)) (hk : k ≤ items.size) :
    Walks prog w A I [I, ax] [I] (items.size - k) (fun i v => items[i + k]? = some v) (fun i h => h.IsTupleIter I ax (i + k) ∧ h.IsTuple ax items) where
  sub := W.sub
  frame := fun i => W.frame (i + k)
  item := fun i s Q E hi st q => W.item (i + k) s Q E (by omega) st fun v h' tk pv st' kk => q v h' tk pv ((show i + k + 1 = i + 1 + k by omega) ▸ st') kk
  done := fun s Q E st q => W.done s Q E ((show items.size - k + k = items.size by omega) ▸ st) q
  self := fun i => W.self (i + k)
/-- what is left of the walk, gathered -/
theorem rest {it t : Addr} {items : Array Value} {k : Nat} {Q : List Value → Shared → Prop} (hh : A.handled = none) (hit : s.heap.IsTupleIter it t k) (ht : s.heap.IsTuple t items) (ne : t ≠ it) (hk : k ≤ items.size) (hz : items.size ≤ sizeLine)
    (q : ∀ (h' : Heap) (tk : Nat), (∀ b o, b ≠ it → s.heap.get? b = some o → h'.get? b = some o) → s.heap.objs.size ≤ h'.objs.size → Q (items.toList.drop k) { s with heap := h', toks := tk }) : wpAny (model prog w) A (collect (.ref it)) Q E s := by
  have W := (from_ (Walks.tuple (prog := prog) (w := w) (A := A.in1) hh it t ne items) hk).toS
  obtain ⟨oi, hoi, _⟩ := id hit
  obtain ⟨ot, hot, _⟩ := id ht
  have n1 : s.heap.objs.size ≠ it := Nat.ne_of_gt (Heap.lt_size hoi)
  have n2 : s.heap.objs.size ≠ t := Nat.ne_of_gt (Heap.lt_size hot)
  have nS : s.heap.objs.size ∉ [it, t] := by simp only [List.mem_cons, List.not_mem_nil, or_false, not_or]; exact ⟨n1, n2⟩
  unfold collect
  refine wpAny_bind (wpAny_runValue (codeAny_builtin F.entry_proto_collect ?_))
  rw [Around.under_plainId F.plain_proto_collect _]
  refine wpAny_bind (m := newList []) (wpAny_newObj_type ?_)
  refine wpAny_pure ⟨plainId_quiet F.plain_list_iadd _, codeAny_builtin F.entry_list_iadd ?_⟩
  rw [Around.under_plainId F.plain_list_iadd _]
  generalize eo : ({ cls := .type "list", data := .seq ([] : List Value).toArray } : Obj) = ob
  have at1 : (s.heap.push ob).get? s.heap.objs.size = some ob := Heap.get?_push_size _ (by subst eo; rfl)
  have it1 : (s.heap.push ob).IsTupleIter it t (0 + k) := by rw [Nat.zero_add]; exact hit.at fun o e => Heap.get?_push_of_some _ e
  have ht1 : (s.heap.push ob).IsTuple t items := ht.push _
  have ty : ({ s with heap := s.heap.push ob } : Shared).TypeIs (.ref it) "tuple_iterator" := Heap.IsTupleIter.typeIs (s := { s with heap := s.heap.push ob }) it1
  have other : Builtin.List.listSameRef (.ref s.heap.objs.size) (.ref it) = false := by simp [Builtin.List.listSameRef, n1]
  subst eo
  show wpAny _ A.in1 (Builtin.List.listExtendWith (.ref s.heap.objs.size) (.ref it) (.ref s.heap.objs.size)) _ _ _
  unfold Builtin.List.listExtendWith
  refine wpAny_bind (wpAny_typeOf ty ?_)
  rw [if_neg (by rw [other]; decide)]
  refine wpAny_bind (wpAny_pyIter_tupleiter (s := { s with heap := s.heap.push _ }) it1 ?_)
  refine wpAny_bind (wpAny_holding ?_)
  unfold Builtin.List.listLengthHint
  refine wpAny_bind (wpAny_specialOf ty nolen_ti ?_)
  show wpAny _ A.in1 (specialOf (Value.ref it) (Str.ofString "__length_hint__") >>= _) _ _ _
  refine wpAny_bind (wpAny_specialOf ty hint_ti ?_)
  generalize hid : ("tuple_iterator.__length_hint__" : String) = id0
  wp_delta
  rw [show splitId id0 = some ("tuple_iterator", "__length_hint__") from by subst hid; decide +kernel]
  subst hid
  refine wpAny_bind (wpAny_isInstance (b := true) ty (by rw [isSubtype_type]; kernel_rfl) ?_)
  refine wpAny_pure ?_
  rw [if_neg (by decide)]
  refine wpAny_pure ⟨plainId_quiet F.plain_extend_loop _, codeAny_extend_loopS W (by omega) _ nS _ (items.size - k) 0 _ _ _ rfl (Nat.zero_le _) ⟨it1, ht1⟩ at1 (ItemsOf.nil _) fun s' acc c mv at2 got => ?_⟩
  show wpAny _ A (load s.heap.objs.size >>= _) _ _ s'
  refine wpAny_bind (wpAny_load at2 (wpAny_pure ?_))
  have ea : acc.toList = items.toList.drop k := by
    refine List.ext_getElem? fun i => ?_
    rw [List.getElem?_drop, Array.getElem?_toList, Array.getElem?_toList]
    have hs : acc.size = items.size - k := got.1
    by_cases hi : i < acc.size
    · have z := got.2 i acc[i] (Array.getElem?_eq_getElem hi)
      rw [Array.getElem?_eq_getElem hi, Nat.add_comm k i]
      exact z.symm
    · rw [Array.getElem?_eq_none (by omega), Array.getElem?_eq_none (by omega)]
  show Q acc.toList s'
  rw [ea, Moved.eq_with mv]
  refine q s'.heap s'.toks (fun b o hb e => mv.heap b o (fun hm => ?_) (Heap.get?_push_of_some _ e)) (Nat.le_of_lt (Heap.lt_size at2))
  rcases List.mem_cons.mp hm with z | hm
  · exact absurd (Heap.lt_size e) (by rw [z]; exact Nat.lt_irrefl _)
  · exact hb (List.mem_singleton.mp hm)
theorem items_star {t : Addr} {items : Array Value} {i n : Nat} {Q : List Value → Shared → Prop} (hh : A.handled = none) (ht : IsTup s.heap t items) (hi : i + 1 = n) (hl : i ≤ items.size) (hz : items.size ≤ sizeLine)
    (q : ∀ (h' : Heap) (tk : Nat), (∀ b o, s.heap.get? b = some o → h'.get? b = some o) → s.heap.objs.size ≤ h'.objs.size →
      Q (items.toList.take i ++ [.ref h'.objs.size]) { s with heap := h'.push { cls := .type "list", data := .seq (items.toList.drop i).toArray }, toks := tk }) :
    wpAny (model prog w) A (unpackItems (.ref t) n (some i)) Q E s := by
  have nt : t ≠ s.heap.objs.size := by obtain ⟨o, ho, _⟩ := ht; exact Nat.ne_of_lt (Heap.lt_size ho)
  unfold unpackItems
  refine wpAny_bind ?_
  unfold notIterableAtAll
  refine wpAny_bind (wpAny_specialOf ht.typeIs slot_tuple_iter.lookup (wpAny_pure ?_))
  simp only [Bool.false_eq_true, if_false]
  refine wpAny_bind (wpAny_holding (iter_tuple ht ?_))
  refine wpAny_bind (wpAny_holding (draw_tuple nt i 0 _ _ ⟨_, Heap.get?_push_size _ rfl, rfl, rfl⟩ (ht.push _) (by omega) fun h1 it1 sb => ?_))
  have e1 : List.take i (List.drop 0 items.toList) = items.toList.take i := by rw [List.drop_zero]
  rw [e1]
  have len1 : (items.toList.take i).length = i := by rw [List.length_take, Array.length_toList]; omega
  rw [if_neg (by rw [len1]; omega)]
  have ht1 : IsTup h1 t items := (ht.push _).extBut sb.extBut nt
  obtain ⟨ot, hot, hoc, hod⟩ := id ht1
  obtain ⟨oi, hoi, hic, hid⟩ := id it1
  refine wpAny_bind (wpAny_holding (rest (k := i) hh (by rw [Nat.zero_add] at it1; exact it1) ht1 nt hl hz fun h2 tk k2 z2 => ?_))
  have ea : n - 1 - i = 0 := by omega
  rw [ea]
  try dsimp only
  rw [if_neg (by omega)]
  have em : (items.toList.drop i).length - 0 = (items.toList.drop i).length := rfl
  rw [em, List.take_length, List.drop_length]
  refine wpAny_bind (wpAny_newList ?_ (by rw [List.length_drop, Array.length_toList]; omega))
  refine wpAny_pure ?_
  rw [List.append_nil]
  refine q h2 tk (fun b o e => ?_) ?_
  · have hb : b ≠ s.heap.objs.size := Nat.ne_of_lt (Heap.lt_size e)
    exact k2 b o hb (sb.extBut b o hb (Heap.get?_push_of_some _ e))
  · exact Nat.le_trans (Nat.le_of_lt (Heap.lt_size hoi)) z2
end
section
variable {X : Cx}
/-- names ahead of the star: their targets' readings; then the starred one's -/
def gStar (K : PySem.W.Frag) (i : Nat) (t : TGs) : TG := fun v σ H Q => ∃ a xs, v = .ref a ∧ SqT K H a xs ∧ i ≤ xs.length ∧ ∀ p, H p = none → t (xs.take i ++ [.ref p]) σ (upd H p (.lst (xs.drop i))) Q
theorem pgs_star {e : Expr} {pos : Pos} {t : TG} (h1 : PG X e t) (hs : (assignEach [.Starred e pos] X.env).map (·.2) = [assign e X.env] := by rfl) : PGs X [.Starred e pos] (gCons t gNil) := by
  refine ⟨fun pins s σ H vs us Q I r h => ?_⟩
  obtain ⟨v, vr, rfl, h⟩ := h
  cases r with
  | cons r rr =>
    rw [hs]
    refine assignInOrder_cons (thn (h1.run pins s σ H _ _ _ I r h) fun _ s1 ⟨σ1, H1, I1, e1, q1⟩ => ?_)
    subst e1
    cases rr
    exact assignInOrder_nil ⟨σ1, H1, I1, q1⟩
theorem pg_star {es : List Expr} {k : Nat} {t : TGs} {i : Nat} {pos : Pos} (hc : X.calm = true) (h : PGs X es t) (hn : (assignEach es X.env).length = i + 1 := by rfl) (hst : (assignEach es X.env).findIdx? (·.1) = some i := by rfl) : PG X (.Tuple es k pos) (gStar X.K i t) := by
  refine ⟨fun pins s σ H v u Q I r hw => ?_⟩
  obtain ⟨a, xs, rfl, hq, hl, hw⟩ := hw
  cases r
  obtain ⟨its, rv, ht, hz⟩ := I.tuple hq
  have el := rv.length
  rw [assign_Tuple]
  refine wpAny_bind (wpAny_standAt ?_)
  unfold unpack
  rw [hn, hst]
  refine wpAny_bind (wpAny_holding (items_star (I.ok.hd hc) ht rfl (by simp; omega) (by simp; omega) fun h' tk kk hs => ?_))
  have keep : ∀ b o, s.heap.get? b = some o → (h'.push { cls := .type "list", data := .seq (its.toArray.toList.drop i).toArray }).get? b = some o := fun b o e => Heap.get?_push_of_some _ (kk b o e)
  have hp : H h'.objs.size = none := I.hok.fresh hs
  have new : ObjOk X.prog X.w (upd H h'.objs.size (.lst (xs.drop i))) (h'.push { cls := .type "list", data := .seq (its.toArray.toList.drop i).toArray }) h'.objs.size (.lst (xs.drop i)) :=
    ⟨by rw [List.length_drop]; omega, its.drop i, 0, rv.drop i, by rw [Heap.get?_push_size _ rfl]⟩
  have J : Inv X pins σ (upd H h'.objs.size (.lst (xs.drop i))) { s with heap := h'.push { cls := .type "list", data := .seq (its.toArray.toList.drop i).toArray }, toks := tk } := I.laid keep hs new
  exact h.run pins _ σ _ _ _ Q J (Vals.append (by simpa using rv.take i) (.cons (show RelV (V.ref h'.objs.size) (Value.ref h'.objs.size) from rfl) .nil)) (hw _ hp)
end
end Star2

/-! zip of a tuple and a list: two walks of different kinds side by side -/
namespace Zmix
open PySem PySem.Spec PyProof.Rows L2
/-- what a walk at i over l needs to stand, and stands on -/
def Looks (i l : Addr) (P : Heap → Prop) : Prop := ∀ h h' : Heap, P h → (∀ b o, b = i ∨ b = l → h.get? b = some o → h'.get? b = some o) → P h'
/-- the walk's next item: only the walk's own object moves -/
def Gives (prog : Program) (w : World) (i : Addr) (x : Value) (P P' : Heap → Prop) : Prop :=
  ∀ (A : Around) (E : Value → Shared → Prop) (s : Shared) (Q : Value → Shared → Prop), P s.heap → (∀ h', P' h' → Heap.SameBut i s.heap h' → Q x { s with heap := h' }) → wpAny (model prog w) A (Builtin.SmallTypes.nextOf (.ref i)) Q E s
def Halts (prog : Program) (w : World) (i : Addr) (P : Heap → Prop) : Prop :=
  ∀ (A : Around) (E : Value → Shared → Prop) (s : Shared) (Q : Value → Shared → Prop), A.handled = none → P s.heap → (∀ h' e, Heap.ExtBut i s.heap h' → (∃ o, h'.get? e = some o ∧ o.cls = .type "StopIteration") → E (.ref e) { s with heap := h' }) → wpAny (model prog w) A (Builtin.SmallTypes.nextOf (.ref i)) Q E s
abbrev TW (i l : Addr) (k : Nat) (xs : Array Value) (h : Heap) : Prop := h.IsTupleIter i l k ∧ h.IsTuple l xs
abbrev LW (i l : Addr) (k : Nat) (xs : Array Value) (h : Heap) : Prop := h.IsListIter i l k ∧ h.IsList l xs
theorem looksT (i l : Addr) (k : Nat) (xs : Array Value) : Looks i l (TW i l k xs) := fun h h' p q => ⟨p.1.at fun o e => q i o (.inl rfl) e, by
  obtain ⟨o, ho, r⟩ := p.2
  exact ⟨o, q l o (.inr rfl) ho, r⟩⟩
theorem looksL (i l : Addr) (k : Nat) (xs : Array Value) : Looks i l (LW i l k xs) := fun h h' p q => ⟨p.1.at fun o e => q i o (.inl rfl) e, by
  obtain ⟨o, ho, r⟩ := p.2
  exact ⟨o, q l o (.inr rfl) ho, r⟩⟩
section
variable {prog : Program} {w : World} {A : Around} {E : Value → Shared → Prop} {s : Shared}
theorem givesT {i l : Addr} {k : Nat} {xs : Array Value} {x : Value} (ne : l ≠ i) (hx : xs[k]? = some x) : Gives prog w i x (TW i l k xs) (TW i l (k + 1) xs) := fun A E s Q p q =>
  RZ.nextOf_tuple_item p.1 p.2 hx fun h' a b => q h' ⟨a, p.2.extBut b.extBut ne⟩ b
theorem givesL {i l : Addr} {k : Nat} {xs : Array Value} {x : Value} (ne : l ≠ i) (hx : xs[k]? = some x) : Gives prog w i x (LW i l k xs) (LW i l (k + 1) xs) := fun A E s Q p q =>
  wpAny_nextOf_list_item p.1 p.2 hx fun h' a b => q h' ⟨a, p.2.extBut b.extBut ne⟩ b
theorem haltsT {i l : Addr} {k : Nat} {xs : Array Value} (hx : xs[k]? = none) : Halts prog w i (TW i l k xs) := fun A E s Q hh p q => RZ.nextOf_tuple_end hh p.1 p.2 hx q
/-- the next pair of two walks -/
theorem pair_next {z TI TO i1 i2 l1 l2 : Addr} {P1 P1' P2 P2' : Heap → Prop} {x y a b : Value} {Q : Option Value → Shared → Prop} (D : ZipApart z TI TO i1 i2 l1 l2)
    (k1 : Looks i1 l1 P1) (k1' : Looks i1 l1 P1') (k2 : Looks i2 l2 P2) (k2' : Looks i2 l2 P2') (g1 : Gives prog w i1 x P1 P1') (g2 : Gives prog w i2 y P2 P2')
    (hz : IsZip s.heap z TI TO .none) (hTI : IsPair s.heap TI (.ref i1) (.ref i2)) (hTO : IsPair s.heap TO a b) (p1 : P1 s.heap) (p2 : P2 s.heap)
    (q : ∀ h', IsZip h' z TI TO (rawInt s.heap.objs.size) → IsPair h' TO x y → P1' h' → P2' h' → IsPair h' s.heap.objs.size x y →
      (∀ c o, c ≠ z → c ≠ TO → c ≠ i1 → c ≠ i2 → s.heap.get? c = some o → h'.get? c = some o) → Q (some (.ref s.heap.objs.size)) { s with heap := h' }) :
    wpAny (model prog w) A (pyNext (.ref z)) Q E s := by
  have hT : s.TypeIs (.ref z) "zip" := ⟨_, hz, rfl⟩
  unfold pyNext
  refine wpAny_bind (wpAny_attempt (wpAny_callSpecial?_slot (name := Str.ofString "__next__") hT F.slot_zip_next (wpAny_call_entry F.slot_zip_next hT F.entry_zip_next ?_ (F.args_zip_next_1 _))))
  show wpAny _ _ (field (.ref z) 2 >>= _) _ _ _
  refine wpAny_bind (wpAny_field hz rfl (x := .bool false) rfl ?_)
  show wpAny _ _ (field (.ref z) 3 >>= _) _ _ _
  refine wpAny_bind (wpAny_field hz rfl (x := .ref TI) rfl (wpAny_bind (wpAny_seqItems hTI rfl ?_)))
  show wpAny _ _ (Builtin.SmallTypes.ownedTupleIsFree (.ref z) >>= _) _ _ _
  unfold Builtin.SmallTypes.ownedTupleIsFree
  refine wpAny_bind (wpAny_bind (wpAny_field hz rfl (x := .none) rfl (wpAny_pure ?_)))
  simp only [if_true]
  refine wpAny_bind (wpAny_rule (wpAny_bind (wpAny_field hz rfl (x := .ref TO) rfl ?_)))
  refine wpAny_bind (wpAny_setField_rec hz (by simp) fun hA zA sA => ?_)
  simp only [List.zipIdx_cons, List.zipIdx_nil, List.forIn_cons, List.forIn_nil]
  have uA : ∀ c o, c ≠ z → s.heap.get? c = some o → hA.get? c = some o := fun c o n e => sA.extBut _ _ n e
  refine wpAny_bind (wpAny_bind (wpAny_bind (wpAny_onRaise ?_)))
  refine wpAny_bind (g1 _ _ _ _ (k1 _ _ p1 fun c o hc e => uA c o (by rcases hc with r | r <;> rw [r]; exact D.i1z; exact D.l1z) e) fun hB pB sB => wpAny_pure ?_)
  have uB : ∀ c o, c ≠ z → c ≠ i1 → s.heap.get? c = some o → hB.get? c = some o := fun c o n m e => sB.extBut _ _ m (uA c o n e)
  have tB : IsPair hB TO a b := uB _ _ D.TOz D.TOi1 hTO
  refine wpAny_bind (wpAny_seqItems tB rfl (wpAny_bind (wpAny_updateSeq_pair tB fun hC tC sC => wpAny_bind (wpAny_letGo (wpAny_pure ?_)))))
  have uC : ∀ c o, c ≠ z → c ≠ i1 → c ≠ TO → s.heap.get? c = some o → hC.get? c = some o := fun c o n m k e => sC.extBut _ _ k (uB c o n m e)
  replace tC : IsPair hC TO x b := tC
  refine wpAny_bind (wpAny_bind (wpAny_onRaise ?_))
  refine wpAny_bind (g2 _ _ _ _ (k2 _ _ p2 fun c o hc e => uC c o (by rcases hc with r | r <;> rw [r]; exact D.i2z; exact D.l2z) (by rcases hc with r | r <;> rw [r]; exact D.i12.symm; exact D.l2i1) (by rcases hc with r | r <;> rw [r]; exact D.TOi2.symm; exact D.l2TO) e) fun hD pD sD => wpAny_pure ?_)
  have tD : IsPair hD TO x b := sD.extBut _ _ D.TOi2 tC
  refine wpAny_bind (wpAny_seqItems tD rfl (wpAny_bind (wpAny_updateSeq_pair tD fun hF tF sF => wpAny_bind (wpAny_letGo (wpAny_pure (wpAny_pure ?_))))))
  replace tF : IsPair hF TO x y := tF
  have uF : ∀ c o, c ≠ z → c ≠ i1 → c ≠ TO → c ≠ i2 → s.heap.get? c = some o → hF.get? c = some o := fun c o n m k j e => sF.extBut _ _ k (sD.extBut _ _ j (uC c o n m k e))
  have same : hF.objs.size = s.heap.objs.size := by rw [sF.1, sD.1, sC.1, sB.1, sA.1]
  have zF := sF.extBut _ _ D.TOz.symm (sD.extBut _ _ D.i2z.symm (sC.extBut _ _ D.TOz.symm (sB.extBut _ _ D.i1z.symm zA)))
  have f1 : P1' hF := k1' hB hF pB fun c o hc e => sF.extBut _ _ (by rcases hc with r | r <;> rw [r]; exact D.TOi1.symm; exact D.l1TO) (sD.extBut _ _ (by rcases hc with r | r <;> rw [r]; exact D.i12; exact D.l1i2) (sC.extBut _ _ (by rcases hc with r | r <;> rw [r]; exact D.TOi1.symm; exact D.l1TO) e))
  have f2 : P2' hF := k2' hD hF pD fun c o hc e => sF.extBut _ _ (by rcases hc with r | r <;> rw [r]; exact D.TOi2.symm; exact D.l2TO) e
  refine wpAny_bind (wpAny_seqItems tF rfl (wpAny_bind (wpAny_newTuple ?_)))
  show wpAny _ _ (Builtin.SmallTypes.ownedTupleHandOut (.ref z) (.ref hF.objs.size) >>= _) _ _ _
  unfold Builtin.SmallTypes.ownedTupleHandOut
  refine wpAny_bind (wpAny_bind (wpAny_setField_rec (Heap.get?_push_of_some _ zF) (by simp) fun hG zG sG => wpAny_setField_rec zG (by simp) fun hI zI sI => wpAny_pure ?_))
  have zlt : z < hF.objs.size := Heap.lt_size zF
  have up : ∀ c o, c ≠ z → hF.get? c = some o → hI.get? c = some o := fun c o n e => sI.extBut _ _ n (sG.extBut _ _ n (Heap.get?_push_of_some _ e))
  have new : IsPair hI hF.objs.size x y := sI.extBut _ _ (Nat.ne_of_gt zlt) (sG.extBut _ _ (Nat.ne_of_gt zlt) (Heap.get?_push_size _ rfl))
  have zE : IsZip hI z TI TO (rawInt hF.objs.size) := zI
  rw [same] at new zE
  refine ⟨_, rfl, wpAny_pure ?_⟩
  show Q (some (.ref hF.objs.size)) _
  rw [same]
  exact q hI zE (up _ _ D.TOz tF) (k1' _ _ f1 fun c o hc e => up c o (by rcases hc with r | r <;> rw [r]; exact D.i1z; exact D.l1z) e) (k2' _ _ f2 fun c o hc e => up c o (by rcases hc with r | r <;> rw [r]; exact D.i2z; exact D.l2z) e) new
    fun c o n m j k e => up c o n (uF c o n j m k e)
/-- the first walk is at its end -/
theorem pair_end {z TI TO i1 i2 l1 l2 : Addr} {P1 : Heap → Prop} {a b : Value} {Q : Option Value → Shared → Prop} (hh : A.handled = none) (D : ZipApart z TI TO i1 i2 l1 l2)
    (k1 : Looks i1 l1 P1) (g1 : Halts prog w i1 P1) (hz : IsZip s.heap z TI TO .none) (hTI : IsPair s.heap TI (.ref i1) (.ref i2)) (hTO : IsPair s.heap TO a b) (p1 : P1 s.heap)
    (q : ∀ h', (∀ c o, c ≠ z → c ≠ TO → c ≠ i1 → c ≠ i2 → s.heap.get? c = some o → h'.get? c = some o) → Q none { s with heap := h' }) : wpAny (model prog w) A (pyNext (.ref z)) Q E s := by
  have hT : s.TypeIs (.ref z) "zip" := ⟨_, hz, rfl⟩
  unfold pyNext
  refine wpAny_bind (wpAny_attempt (wpAny_callSpecial?_slot (name := Str.ofString "__next__") hT F.slot_zip_next (wpAny_call_entry F.slot_zip_next hT F.entry_zip_next ?_ (F.args_zip_next_1 _))))
  show wpAny _ _ (field (.ref z) 2 >>= _) _ _ _
  refine wpAny_bind (wpAny_field hz rfl (x := .bool false) rfl ?_)
  show wpAny _ _ (field (.ref z) 3 >>= _) _ _ _
  refine wpAny_bind (wpAny_field hz rfl (x := .ref TI) rfl (wpAny_bind (wpAny_seqItems hTI rfl ?_)))
  show wpAny _ _ (Builtin.SmallTypes.ownedTupleIsFree (.ref z) >>= _) _ _ _
  unfold Builtin.SmallTypes.ownedTupleIsFree
  refine wpAny_bind (wpAny_bind (wpAny_field hz rfl (x := .none) rfl (wpAny_pure ?_)))
  simp only [if_true]
  refine wpAny_bind (wpAny_rule (wpAny_bind (wpAny_field hz rfl (x := .ref TO) rfl ?_)))
  refine wpAny_bind (wpAny_setField_rec hz (by simp) fun hA zA sA => ?_)
  simp only [List.zipIdx_cons, List.zipIdx_nil, List.forIn_cons, List.forIn_nil]
  have uA : ∀ c o, c ≠ z → s.heap.get? c = some o → hA.get? c = some o := fun c o n e => sA.extBut _ _ n e
  refine wpAny_bind (wpAny_bind (wpAny_bind (wpAny_onRaise ?_)))
  refine wpAny_bind (g1 _ _ _ _ hh (k1 _ _ p1 fun c o hc e => uA c o (by rcases hc with r | r <;> rw [r]; exact D.i1z; exact D.l1z) e) fun hB e sB he => ?_)
  obtain ⟨oe, hoe, hce⟩ := he
  have zB := sB _ _ D.i1z.symm zA
  have ne : e ≠ z := fun r => by
    subst r
    rw [zB] at hoe
    cases hoe
    simp at hce
  refine wpAny_setField_rec zB (by simp) fun hC zC sC => ?_
  refine wpAny_bind (wpAny_isInstance (T := "StopIteration") (b := true) ⟨oe, sC.extBut _ _ ne hoe, hce⟩ isSubtype_stop ?_)
  exact wpAny_pure (q _ fun c o n m j k r => sC.extBut _ _ n (sB _ _ j (uA c o n r)))
end
abbrev hp1 (h : Heap) (l1 : Addr) : Heap := h.push { cls := .type "tuple_iterator", data := .fields #[.ref l1, .int 0 0] }
abbrev hp2 (h : Heap) (l1 l2 : Addr) : Heap := (hp1 h l1).push { cls := .type "list_iterator", data := .fields #[.ref l2, .int 0 0] }
abbrev hp3 (h : Heap) (l1 l2 : Addr) : Heap := (hp2 h l1 l2).push { cls := .type "tuple", data := .seq #[.ref h.objs.size, .ref (hp1 h l1).objs.size] }
abbrev hp4 (h : Heap) (l1 l2 : Addr) : Heap := (hp3 h l1 l2).push { cls := .type "tuple", data := .seq #[.none, .none] }
abbrev hp5 (h : Heap) (l1 l2 : Addr) : Heap := (hp4 h l1 l2).push { cls := .type "zip", data := .fields #[.none, .bool false, .bool false, .ref (hp2 h l1 l2).objs.size, .ref (hp3 h l1 l2).objs.size] }
theorem made (l1 l2 : Addr) (xs ys : Array Value) : Meets (Builtin.«zip.__new__» ⟨[.type "zip", .ref l1, .ref l2], []⟩) (fun _ R s => s.heap.IsTuple l1 xs ∧ s.heap.IsList l2 ys ∧ R (.ok (.ret (.ref (hp4 s.heap l1 l2).objs.size))) { s with heap := hp5 s.heap l1 l2 }) :=
  .of_wp fun prog w A R s q => by
    obtain ⟨hp, g, d, tk, os⟩ := s
    obtain ⟨t1, t2, q⟩ := q
    have hsub := sub_zip
    have w1 : Heap.IsTuple (Shared.heap ⟨hp, g, d, tk, os⟩) l1 xs := t1
    have w2 : Heap.IsList (Shared.heap ⟨hp.push { cls := .type "tuple_iterator", data := .fields #[.ref l1, .int 0 0] }, g, d, tk, os⟩) l2 ys := Heap.IsList.push t2 _
    wp_walk using wpAny_pyIter_tuple w1, wpAny_pyIter_list w2
    exact ⟨_, rfl, q⟩
theorem call_mix {prog : Program} {w : World} {A : Around} {E : Value → Shared → Prop} {s : Shared} {l1 l2 : Addr} {xs ys : Array Value} {Q : Value → Shared → Prop} (t1 : s.heap.IsTuple l1 xs) (t2 : s.heap.IsList l2 ys)
    (q : ∀ h', IsZip h' (s.heap.objs.size + 4) (s.heap.objs.size + 2) (s.heap.objs.size + 3) .none → IsPair h' (s.heap.objs.size + 2) (.ref s.heap.objs.size) (.ref (s.heap.objs.size + 1)) →
      IsPair h' (s.heap.objs.size + 3) .none .none → h'.IsTupleIter s.heap.objs.size l1 0 → h'.IsListIter (s.heap.objs.size + 1) l2 0 → (∀ c o, s.heap.get? c = some o → h'.get? c = some o) → Q (.ref (s.heap.objs.size + 4)) { s with heap := h' }) :
    wpAny (model prog w) A (call (.type "zip") [.ref l1, .ref l2]) Q E s := by
  refine callType_new F.called_zip (by decide) (F.typeCall_zip_2 _ _) (F.newCall_zip_2 _ _) (fun obj => F.args_object_init_3 obj _ _) F.entry_zip_new (made l1 l2 xs ys) ⟨t1, t2, ?_⟩
  have e1 : (hp1 s.heap l1).objs.size = s.heap.objs.size + 1 := Heap.size_push ..
  have e2 : (hp2 s.heap l1 l2).objs.size = s.heap.objs.size + 2 := by rw [Heap.size_push, e1]
  have e3 : (hp3 s.heap l1 l2).objs.size = s.heap.objs.size + 3 := by rw [Heap.size_push, e2]
  have e4 : (hp4 s.heap l1 l2).objs.size = s.heap.objs.size + 4 := by rw [Heap.size_push, e3]
  have a5 : (hp5 s.heap l1 l2).get? (hp4 s.heap l1 l2).objs.size = some _ := Heap.get?_push_size _ rfl
  have a4 : (hp5 s.heap l1 l2).get? (hp3 s.heap l1 l2).objs.size = some _ := Heap.get?_push_of_some _ (Heap.get?_push_size _ rfl)
  have a3 : (hp5 s.heap l1 l2).get? (hp2 s.heap l1 l2).objs.size = some _ := Heap.get?_push_of_some _ (Heap.get?_push_of_some _ (Heap.get?_push_size _ rfl))
  have a2 : (hp5 s.heap l1 l2).get? (hp1 s.heap l1).objs.size = some _ := Heap.get?_push_of_some _ (Heap.get?_push_of_some _ (Heap.get?_push_of_some _ (Heap.get?_push_size _ rfl)))
  have a1 : (hp5 s.heap l1 l2).get? s.heap.objs.size = some _ := Heap.get?_push_of_some _ (Heap.get?_push_of_some _ (Heap.get?_push_of_some _ (Heap.get?_push_of_some _ (Heap.get?_push_size _ rfl))))
  show _ ∧ _
  rw [e2, e3, e4] at a5
  rw [e1, e2] at a3
  rw [e3] at a4
  rw [e1] at a2
  rw [e4]
  exact ⟨⟨_, a5, rfl⟩, q _ a5 a3 a4 ⟨_, a1, rfl, rfl⟩ ⟨_, a2, rfl, rfl⟩ fun c o z => Heap.get?_push_of_some _ (Heap.get?_push_of_some _ (Heap.get?_push_of_some _ (Heap.get?_push_of_some _ (Heap.get?_push_of_some _ z))))⟩
/-- the tuple at a and the list at b as they stand at each turn -/
def ItM (K : PySem.W.Frag) (a b : Addr) : It :=
  ⟨fun i H => ∃ (xs ys : List V) (x y : V), SqT K H a xs ∧ SqL K H b ys ∧ xs[i]? = some x ∧ ys[i]? = some y,
    fun i H v H' => ∃ T x y, v = .ref T ∧ H T = none ∧ H' = upd H T (.tup [x, y]) ∧ (∀ xs, SqT K H a xs → xs[i]? = some x) ∧ ∀ ys, SqL K H b ys → ys[i]? = some y,
    fun i H => ∃ xs : List V, SqT K H a xs ∧ xs.length ≤ i⟩
theorem five {a b c d e : Addr} {x : Addr} (h : x ∈ [a, b, c, d, e]) : x = a ∨ x = b ∨ x = c ∨ x = d ∨ x = e := by simpa using h
theorem turn_mix {P : Program} {w : World} {K : PySem.W.Frag} {elts : List Expr} {kk : Nat} {tpos : Pos} {a b z TI TO i1 i2 : Addr} (D : ZipApart z TI TO i1 i2 a b) :
    Turn P w K (.Tuple elts kk tpos) (ItM K a b) [z, TI, TO, i1, i2] z (fun i h => IsZip h z TI TO .none ∧ IsPair h TI (.ref i1) (.ref i2) ∧ (∃ x y, IsPair h TO x y) ∧ h.IsTupleIter i1 a i ∧ h.IsListIter i2 b i) where
  mem := List.mem_cons_self
  obj := fun i h st c hc => by
    obtain ⟨hz, hTI, ⟨x, y, hTO⟩, ⟨o1, e1, _, d1⟩, ⟨o2, e2, _, d2⟩⟩ := st
    rcases five hc with r | r | r | r | r <;> rw [r]
    · exact ⟨_, hz, fun v q => nomatch q⟩
    · exact ⟨_, hTI, fun v q => nomatch q⟩
    · exact ⟨_, hTO, fun v q => nomatch q⟩
    · exact ⟨o1, e1, fun v q => by rw [d1] at q; cases q⟩
    · exact ⟨o2, e2, fun v q => by rw [d2] at q; cases q⟩
  keep := fun i h h' st k => by
    obtain ⟨hz, hTI, ⟨x, y, hTO⟩, h1, h2⟩ := st
    exact ⟨k z (by simp) _ hz, k TI (by simp) _ hTI, ⟨x, y, k TO (by simp) _ hTO⟩, h1.at fun o q => k i1 (by simp) o q, h2.at fun o q => k i2 (by simp) o q⟩
  item := by
    intro X hP hw hK hc i pins s σ H E I hf st hg
    subst hP hw hK
    obtain ⟨hz, hTI, ⟨x0, y0, hTO⟩, h1, h2⟩ := st
    obtain ⟨xs, ys, x, y, hqx, hqy, hx, hy⟩ := hg
    obtain ⟨its, rv, p, _⟩ := I.tuple hqx
    obtain ⟨its2, rv2, p2, _⟩ := I.list hqy
    obtain ⟨u, hu, ru⟩ := rv.get hx
    obtain ⟨u2, hu2, ru2⟩ := rv2.get hy
    have hzl : z < s.heap.objs.size := Heap.lt_size hz
    refine pair_next D (looksT i1 a i its.toArray) (looksT i1 a (i + 1) its.toArray) (looksL i2 b i its2.toArray) (looksL i2 b (i + 1) its2.toArray) (givesT (x := u) D.l1i1 (by simpa using hu)) (givesL (x := u2) D.l2i2 (by simpa using hu2)) hz hTI hTO ⟨h1, p⟩ ⟨h2, p2.isList⟩ fun h' z' TO' h1' h2' hT hk => ?_
    refine ⟨_, rfl, wpAny_letOwnedTupleGo_zip (s := { s with heap := h' }) z' fun h'' z'' sb => ?_⟩
    have hT2 : h''.get? s.heap.objs.size = some { cls := .type "tuple", data := .seq #[u, u2] } := (sb.2 _ (Nat.ne_of_gt hzl)).trans hT
    have new : ObjOk X.prog X.w (upd H s.heap.objs.size (.tup [x, y])) h'' s.heap.objs.size (.tup [x, y]) := ⟨by show 2 ≤ sizeLine; decide, [u, u2], .cons ru (.cons ru2 .nil), ⟨_, hT2, rfl, _, rfl⟩⟩
    have I1 : Inv X pins σ (upd H s.heap.objs.size (.tup [x, y])) { s with heap := h'' } := I.turnedNew (t' := s.toks) (ch := [z, TI, TO, i1, i2])
      (fun c o hb q => (sb.2 c (fun r => hb (by simp [r]))).trans (hk c o (fun r => hb (by simp [r])) (fun r => hb (by simp [r])) (fun r => hb (by simp [r])) (fun r => hb (by simp [r])) q)) hf (Nat.le_refl _) new
    refine ⟨.ref s.heap.objs.size, _, I1, rfl, ⟨_, x, y, rfl, I.hok.fresh (Nat.le_refl _), rfl, fun l hl => by rw [I.tuple_inj hl hqx]; exact hx, fun l hl => by rw [I.list_inj hl hqy]; exact hy⟩, ⟨z'', (sb.2 _ D.TIz).trans (hk _ _ D.TIz D.TITO D.TIi1 D.TIi2 hTI), ⟨u, u2, (sb.2 _ D.TOz).trans TO'⟩, h1'.1.at fun o q => (sb.2 _ D.i1z).trans q, h2'.1.at fun o q => (sb.2 _ D.i2z).trans q⟩, fun c hcm => ?_⟩
    have hlt : c < s.heap.objs.size := by
      rcases five hcm with r | r | r | r | r <;> rw [r]
      · exact hzl
      · exact Heap.lt_size hTI
      · exact Heap.lt_size hTO
      · obtain ⟨_, e1, _⟩ := h1
        exact Heap.lt_size e1
      · obtain ⟨_, e2, _⟩ := h2
        exact Heap.lt_size e2
    rw [upd_ne (Nat.ne_of_lt hlt)]
    exact (hf c hcm).1
  done := by
    intro X hP hw hK hc i pins s σ H E I hf st hg
    subst hP hw hK
    obtain ⟨hz, hTI, ⟨x0, y0, hTO⟩, h1, h2⟩ := st
    obtain ⟨xs, hqx, hend⟩ := hg
    obtain ⟨its, rv, p, _⟩ := I.tuple hqx
    have e := rv.length
    exact pair_end (I.ok.hd hc) D (looksT i1 a i its.toArray) (haltsT (by simp; omega)) hz hTI hTO ⟨h1, p⟩ fun h' hk => ⟨rfl, I.turnedL (t' := s.toks) (ch := [z, TI, TO, i1, i2])
      (fun c o hb q => hk c o (fun r => hb (by simp [r])) (fun r => hb (by simp [r])) (fun r => hb (by simp [r])) (fun r => hb (by simp [r])) q) hf⟩
  self := fun A i s Q E st h => wpAny_pyIter_zip st.1 h
def iZipM (K : PySem.W.Frag) (ta : TA) : TI := fun σ H R => ta σ H fun vs H1 => ∃ a b xs ys, vs = [.ref a, .ref b] ∧ SqT K H1 a xs ∧ SqL K H1 b ys ∧ R (ItM K a b) H1
theorem pi_zipM {X : Cx} {e e2 : Expr} {ta : TA} {p pos tpos : Pos} {elts : List Expr} {kk : Nat} (hg : Gl X "zip") (hm : X.mg "zip" = none) (ha : PA X [e, e2] ta)
    (hs : starEach [e, e2] X.env = (false, eval e X.env) :: starEach [e2] X.env := by rfl) (hpl : (backTo pos (starEach [e2] X.env)).any (·.1) = false := by rfl) :
    PI X (.Tuple elts kk tpos) (.Call (.Name "zip" p) [e, e2] [] pos) (iZipM X.K ta) := by
  refine ⟨fun pins s σ H R I h => Call_ (ld_blt I hg hm PyProof.Rows.boot_zip (PyProof.Rows.callWith_type1 (thn (ha.run pos pins s σ H _ I h) fun us s1 ⟨vs, H1, I1, r1, q1⟩ => ?_) hs hpl))⟩
  obtain ⟨a, b, xs, ys, ex, hqx, hqy, q⟩ := q1
  subst ex
  cases r1 with
  | cons r rr =>
    cases rr with
    | cons r' rr =>
      cases rr
      cases r
      cases r'
      obtain ⟨its, rv, p1, _⟩ := I1.tuple hqx
      obtain ⟨its2, rv2, p2, _⟩ := I1.list hqy
      obtain ⟨o1, ho1, _⟩ := id p1
      refine call_mix (show s1.heap.IsTuple a its.toArray from p1) p2.isList fun h' hz hTI hTO h1 h2 hk => wpAny_pyIter_zip hz ?_
      have I2 : Inv X pins σ H1 { s1 with heap := h' } := I1.kept (t' := s1.toks) hk
      refine ⟨s1.heap.objs.size + 4, [s1.heap.objs.size + 4, s1.heap.objs.size + 2, s1.heap.objs.size + 3, s1.heap.objs.size, s1.heap.objs.size + 1], _, _, H1, rfl, I2, turn_mix (PySem.W.ktu_apart s1.heap.objs.size a b (Heap.lt_size ho1) p2.lt), ⟨hz, hTI, ⟨_, _, hTO⟩, h1, h2⟩, fun c hcm => ?_, q⟩
      have hle : s1.heap.objs.size ≤ c := by
        rcases five hcm with z | z | z | z | z <;> rw [z]
        · exact Nat.le_add_right _ _
        · exact Nat.le_add_right _ _
        · exact Nat.le_add_right _ _
        · exact Nat.le_refl _
        · exact Nat.le_add_right _ _
      exact I1.fpOk hle (I1.hok.fresh hle)
/-- a loop over the two, of one length -/
theorem for_mix {K : PySem.W.Frag} {a b : Addr} {xs ys : List V} {g : TG} {tb : TS} {D : Ends} {σ : L2.St} {H : Hp} (hl : xs.length = ys.length) (Pv : Nat → L2.St → Hp → Prop) (h0 : Pv 0 σ H) (hq : ∀ i σ H, Pv i σ H → SqT K H a xs ∧ SqL K H b ys)
    (hs : ∀ (i : Nat) (x y : V) (T : Addr) (σ : L2.St) (H : Hp), xs[i]? = some x → ys[i]? = some y → Pv i σ H → H T = none → g (.ref T) σ (upd H T (.tup [x, y])) fun σ2 H2 => tb { D with nx := Pv (i + 1), ct := Pv (i + 1), bk := D.nx } σ2 H2) (hd : ∀ σ H, Pv xs.length σ H → D.nx σ H) :
    ∃ W : Nat → Nat → L2.St → Hp → Prop, (∃ m, W 0 m σ H) ∧ ∀ i m σ H, W i m σ H →
      ((ItM K a b).stop i H ∧ D.nx σ H) ∨ ((ItM K a b).go i H ∧ ∃ N : L2.St → Hp → Prop, (∀ σ' H', N σ' H' → ∃ m', m' < m ∧ W (i + 1) m' σ' H') ∧ ∀ v H', (ItM K a b).yld i H v H' → g v σ H' fun σ2 H2 => tb { D with nx := N, ct := N, bk := D.nx } σ2 H2) := by
  refine ⟨fun i m σ H => m + i = xs.length ∧ Pv i σ H, ⟨xs.length, Nat.add_zero _, h0⟩, fun i m σ H => ?_⟩
  rintro ⟨hm, p⟩
  obtain ⟨qx, qy⟩ := hq i σ H p
  cases m with
  | zero =>
    have e : i = xs.length := by omega
    subst e
    exact .inl ⟨⟨xs, qx, Nat.le_refl _⟩, hd σ H p⟩
  | succ m =>
    have l1 : i < xs.length := by omega
    have l2 : i < ys.length := by omega
    refine .inr ⟨⟨xs, ys, _, _, qx, qy, List.getElem?_eq_getElem l1, List.getElem?_eq_getElem l2⟩, Pv (i + 1), fun σ' H' p' => ⟨m, Nat.lt_succ_self _, by omega, p'⟩, fun v H' y => ?_⟩
    obtain ⟨T, x', y', rfl, hT, rfl, f1, f2⟩ := y
    exact hs i x' y' T σ H (f1 xs qx) (f2 ys qy) p hT
end Zmix

namespace TX
open PySem PySem.Spec PyProof.Rows L2
variable {X : Cx}
theorem cut_whole {xs : List V} {lo hi : Option Int} (h : HT.sIx xs.length 0 lo = 0 ∧ HT.sIx xs.length xs.length hi = xs.length) : cutV xs lo hi = xs := by
  unfold cutV
  rw [h.1, h.2, List.drop_zero, Nat.sub_zero, List.take_length]
/-- t[lo:hi], whole or not -/
def rSlX (K : PySem.W.Frag) : V → Option Int → Option Int → Hp → VK → Prop := fun x lo hi H Q => ∃ a xs, x = .ref a ∧ SqT K H a xs ∧ ∀ (p : Addr) (H' : Hp), Same H H' → SqT K H' p (cutV xs lo hi) → Q (.ref p) H'
theorem sl_any : SlR X (rSlX X.K) := by
  intro pins s σ H x v vl vu lo hi sl Q I rx hs pl pu ⟨a, xs, ex, hx, q⟩
  refine sl_tupA pins s σ H x v vl vu lo hi sl Q I rx hs pl pu ⟨a, xs, ex, hx, fun hw => q a H (Same.refl H) (by rw [cut_whole hw]; exact hx), fun _ p np => q p _ (fun b o e => ?_) (.inl (.inl upd_same))⟩
  rw [upd_ne (ne_of_none e np)]
  exact e
/-- t + u, none of them empty -/
def rCatX (K : PySem.W.Frag) : R2 := fun x y H Q => ∃ a b xs ys, x = .ref a ∧ y = .ref b ∧ SqT K H a xs ∧ SqT K H b ys ∧ xs ≠ [] ∧ ys ≠ [] ∧ xs.length + ys.length ≤ sizeLine ∧ ∀ p, H p = none → Q (.ref p) (upd H p (.tup (xs ++ ys)))
theorem op_cat2 : OpR X (binaryOp .Add) (rCatX X.K) := by
  intro pins s σ H x y v u Q I rx ry ⟨a, b, xs, ys, ex, ey, ha, hb, nx, ny, hz, q⟩
  exact op_catA pins s σ H x y v u Q I rx ry ⟨a, b, xs, ys, ex, ey, ha, hb, hz, fun e => absurd e nx, fun _ e => absurd e ny, fun _ _ => q⟩
end TX

namespace TT
open PySem PySem.Spec PyProof.Rows L2
variable {X : Cx}
/-- t[lo:hi] of a tuple that is told: a told tuple -/
def rSlT2 (K : PySem.W.Frag) : V → Option Int → Option Int → Hp → VK → Prop := fun x lo hi H Q => ∃ a xs, x = .ref a ∧ H a = some (.tup xs) ∧ ∀ (p : Addr) (H' : Hp), Same H H' → H' p = some (.tup (cutV xs lo hi)) → Q (.ref p) H'
theorem sl_t : SlR X (rSlT2 X.K) := by
  intro pins s σ H x v vl vu lo hi sl Q I rx hs pl pu ⟨a, xs, ex, hx, q⟩
  refine sl_tupA pins s σ H x v vl vu lo hi sl Q I rx hs pl pu ⟨a, xs, ex, .inl (.inl hx), fun hw => q a H (Same.refl H) (by rw [TX.cut_whole hw]; exact hx), fun _ p np => q p _ (fun b o e => ?_) upd_same⟩
  rw [upd_ne (ne_of_none e np)]
  exact e
/-- t + u of told tuples -/
def rCatT2 (K : PySem.W.Frag) : R2 := fun x y H Q => ∃ a b xs ys, x = .ref a ∧ y = .ref b ∧ H a = some (.tup xs) ∧ H b = some (.tup ys) ∧ xs.length + ys.length ≤ sizeLine ∧ ∀ (p : Addr) (H' : Hp), Same H H' → H' p = some (.tup (xs ++ ys)) → Q (.ref p) H'
theorem op_cat_t : OpR X (binaryOp .Add) (rCatT2 X.K) := by
  intro pins s σ H x y v u Q I rx ry ⟨a, b, xs, ys, ex, ey, ha, hb, hz, q⟩
  refine op_catA pins s σ H x y v u Q I rx ry ⟨a, b, xs, ys, ex, ey, .inl (.inl ha), .inl (.inl hb), hz, fun e => q b H (Same.refl H) (by rw [e]; exact hb), fun _ e => q a H (Same.refl H) (by rw [e, List.append_nil]; exact ha), fun _ _ p np => q p _ (fun b o e => ?_) upd_same⟩
  rw [upd_ne (ne_of_none e np)]
  exact e
end TT

/-! // by a divisor of any size. CPython may hand such a division to _pylong: that nothing of the program stands in its way is known of the heap behind the top. -/
namespace Big
open PySem PySem.Spec PyProof.Rows L2
section
variable {X : Cx}
theorem op_fdivP (hN : X.base.NoSeer) (ht : X.prog.given.tree = none) (hs : X.stack = X.env :: X.outer) (hg : X.env.scope.isGenerator = false) (hc : X.env.scope.isCoroutine = false) (hd : X.A.depth + 100 < recursionLimit) :
    OpR X (binaryOp .FloorDiv) (rI (fun _ j => 0 < j) fun i j => .int (i / j)) := by
  intro pins s σ H x y v u Q I rx ry h
  obtain ⟨i, j, rfl, rfl, hj, q⟩ := h
  obtain ⟨t, rfl⟩ := rx
  obtain ⟨t', rfl⟩ := ry
  have hj' : (0 : Int) < j := hj
  have room : PylongRoom (model X.prog X.w) X.A s :=
    PylongRoom.of I.nolimit hd (SeerAt.of (env := X.env) (l := X.outer) (hN.keeps I.bk) ht (by rw [I.ok.frames, hs]) hg hc I.ok.blt I.ok.glob)
  refine floordiv_int (by omega) ?_ (.inr room)
  rw [Int.fdiv_eq_ediv_of_nonneg i (by omega)]
  exact ⟨.int _, H, I.tok _, ⟨_, rfl⟩, q⟩
end
section
variable {P : Program} {w : World} {K : PySem.W.Frag} {mg mb : Str → Option Value} {s : Shared} {a : Addr} {vs : List Value}
/-- the heap without what is tracked: what no list stands for is still there -/
theorem hid_ns {H : Hp} (ha : s.heap.get? a = some { cls := .type "list", data := .seq vs.toArray }) (only : ∀ b, H b ≠ none → b = a) {b : Addr} {m : Str → Option Value} (x : s.heap.Ns b m) : (hidT s.heap H).Ns b m := by
  obtain ⟨o, es, ep, e, d, r⟩ := x
  refine ⟨o, es, ep, hidT_get e ?_, d, r⟩
  refine Classical.byContradiction fun n => ?_
  rw [only b n, ha] at e
  cases e
  cases d
theorem hid_get {H : Hp} (ha : s.heap.get? a = some { cls := .type "list", data := .seq vs.toArray }) (only : ∀ b, H b ≠ none → b = a) {b : Addr} {o : Obj} (e : s.heap.get? b = some o) (hc : o.cls ≠ .type "list") : (hidT s.heap H).get? b = some o := by
  refine hidT_get e (Classical.byContradiction fun n => ?_)
  rw [only b n, ha] at e
  cases e
  exact hc rfl
theorem hid_seer {H : Hp} (ha : s.heap.get? a = some { cls := .type "list", data := .seq vs.toArray }) (only : ∀ b, H b ≠ none → b = a) (x : s.heap.NoSeer) : (hidT s.heap H).NoSeer where
  statics := let ⟨m, p, q⟩ := x.statics; ⟨m, hid_ns ha only p, q⟩
  mods := let ⟨m, p, q⟩ := x.mods; ⟨m, hid_ns ha only p, q⟩
  imp := let ⟨m, p, q⟩ := x.imp; ⟨m, hid_ns ha only p, q⟩
  main := let ⟨m, bm, ob, p, q, e, c, d⟩ := x.main; ⟨m, bm, ob, hid_ns ha only p, q, hid_get ha only e (by rw [c]; decide), c, d⟩
/-- the law's call, entered: the base is known to be free of what a great division asks for -/
theorem entered {CX : CXT} {k : Nat} {fa : Addr} {fd : FuncData} {x : Str} {sp : Sp} {ns : List Int} (KX : K.In s.heap) (hmain : s.heap.Ns mainGlobals mg) (hb : s.heap.Ns builtinsNs mb) (hbb : ∀ x : Str, x ≠ "__name__" → mb x = bootBuiltins x) (hlim : s.heap.NoLimit) (seer : s.heap.NoSeer) (hg : s.gens = #[])
    (ha : s.heap.get? a = some { cls := .type "list", data := .seq vs.toArray }) (hi : IntsAre vs ns) (hl : ns.length ≤ sizeLine) (hr : Room k callerA)
    (F : ∀ base : Heap, K.In base → base.Ns mainGlobals mg → base.NoSeer → FnOk P w K mg base CX k fa fd [x] sp) (bind : ∀ (s : Shared) (u : Value), BindsTo s fd ⟨[u], []⟩ [(x, u)])
    (hsp : ∀ H : Hp, Only H → SqL K H a (ns.map V.int) → sp [.ref a] H (fun v _ => v = .bl true) fun _ _ _ => False) (hCX : ∀ H e s', CX [] H s (fun _ _ _ => False) e s' → False) :
    codeAny (model P w) callerA (.call (.ref fa) ⟨[.ref a], []⟩) (fun r s' => r = .ok (.ret (.bool true)) ∧ OldK s.heap s'.heap ∧ s'.os = s.os ∧ AllBare s'.gens) s := by
  have rv := vals_ints hi
  obtain ⟨H, hO, hS, ok, only, kno⟩ : ∃ H : Hp, Only H ∧ SqL K H a (ns.map V.int) ∧ HOk P w H s.heap ∧ (∀ b, H b ≠ none → b = a) ∧ (H a ≠ none → K.lookup a = none) := by
    cases hk : K.lookup a with
    | some o =>
      have e := KX a o hk
      rw [ha] at e
      cases e
      refine ⟨fun _ => none, fun _ => .inl rfl, .inr ⟨_, vs.toArray, _, hk, rfl, rfl, rfl, by rw [List.size_toArray, hi.length]; exact hl, by simpa using rv⟩, ?_, fun b z => absurd rfl z, fun z => absurd rfl z⟩
      intro b u z
      have z' : (none : Option HO) = some u := z
      cases z'
    | none =>
      have new : ∀ b, b ≠ a → (upd (fun _ => none) a (.frz { cls := .type "list", data := .seq vs.toArray } (.lst (ns.map V.int)))) b = none := fun b n => upd_ne n
      refine ⟨upd (fun _ => none) a (.frz { cls := .type "list", data := .seq vs.toArray } (.lst (ns.map V.int))), fun b => ?_, .inl (.inr ⟨_, upd_same⟩), fun b u z => ?_, fun b z => ?_, fun _ => rfl⟩
      · by_cases e : b = a
        · exact .inr ⟨_, _, by rw [e, upd_same]⟩
        · exact .inl (new b e)
      · by_cases e : b = a
        · subst e
          rw [upd_same] at z
          cases z
          exact ⟨ha, by rw [List.length_map]; exact hl, vs, _, rv, ha⟩
        · rw [new b e] at z
          cases z
      · exact Classical.byContradiction fun e => z (new b e)
  have KB : K.In (hidT s.heap H) := fun b o e => hidT_get (KX b o e) (Classical.byContradiction fun n => by
    have eb := only b n
    subst eb
    rw [kno n] at e
    cases e)
  have M : Mod K mg (hidT s.heap H) := ⟨KB, hid_ns ha only hmain, ⟨mb, hid_ns ha only hb, hbb⟩, let ⟨mc, p, q⟩ := hlim; ⟨mc, hid_ns ha only p, q⟩⟩
  have e0 : Env0 P w K mg (hidT s.heap H) callerA [] s H := ⟨rfl, M, fun b o e => of_hidT e, Nat.le_of_eq (hidT_size _ _), trivial, (fun b z => by cases z), ok, .of_eq hg⟩
  refine codeAny_mono ((F _ KB (hid_ns ha only hmain) (hid_seer ha only seer)).run callerA [] s H ⟨[.ref a], []⟩ [.ref a] [.ref a] _ _ hr e0 (bind s (.ref a)) (.cons rfl .nil) (hsp H hO hS)) fun r s' h => ?_
  rcases r with e | fl
  · exact (hCX H e s' h).elim
  cases fl with
  | ret u =>
    obtain ⟨v, H', os, bare, un, ok', r', q⟩ := h
    have ev : v = .bl true := q
    subst ev
    obtain rfl : u = Value.bool true := r'
    refine ⟨rfl, OldK.of_keep fun b o e => ?_, os, bare⟩
    cases hb' : H b with
    | none => exact un.keep b o e hb' (by intro z; cases z) (by simp)
    | some u =>
      rcases hO b with z | ⟨ob, xs, z⟩
      · rw [hb'] at z
        cases z
      · obtain ⟨e1, _⟩ := ok b _ z
        obtain ⟨e2, _⟩ := ok' b _ (un.frzs b ob _ z)
        rw [e] at e1
        cases e1
        exact e2
  | _ => exact h.elim
end
end Big
namespace Big
open PySem PySem.W PySem.Calls PyProof.Rows
theorem attach {l : OpenLaw} {n : Nat} {q : Program} {loose : List Str} {XP : (Str → Option Value) → Heap → Prop} {YP : World → Heap → Prop} {d : DefRec} (hn : l.most = some n) (hdf : d.params.defaults = [])
    (call : ∀ (w : World) (s₀ s₁ : Shared) (mg mb : Str → Option Value) (fa a : Addr) (vs : List Value) (ns : List Int), Ground q loose [] XP w s₀ mg mb s₁.heap → YP w s₁.heap → mg d.name = some (.ref fa) →
      s₁.heap.get? a = some { cls := .type "list", data := .seq vs.toArray } → IntsAre vs ns → ns.length ≤ n → (∀ k ∈ ns, Builtin.Int.intBits k ≤ 1048576) → s₁.gens = #[] →
      codeAny (model l.prog w) callerA (.call (.ref fa) ⟨[.ref a], []⟩) (fun r s' => r = .ok (.ret (.bool true)) ∧ OldK s₁.heap s'.heap ∧ s'.os = s₁.os ∧ AllBare s'.gens) s₁) :
    WalkO q loose XP YP l.row.toRowW d [] (fun f vs => PySem.call f vs) :=
  Att.attach_callB hn hdf fun w s₀ s₁ mg mb fa _ _ _ _ a vs ns G Y _ _ _ hm ho hi hl hb hg => call w s₀ s₁ mg mb fa a vs ns G Y hm ho hi hl hb hg
end Big
namespace Big
open PySem PySem.Spec PyProof.Rows L2
theorem walk {l : PySem.W.OpenLaw} {n k : Nat} {q : Program} {loose : List Str} {XP : (Str → Option Value) → Heap → Prop} {YP : World → Heap → Prop} {d : DefRec} {K : Params → PySem.W.Frag} {CX : World → CXT} {sp : World → Sp} {x : Str}
    (hn : l.most = some n) (hn2 : n ≤ sizeLine) (hdf : d.params.defaults = []) (hr : Room k callerA) (hi : importsNone q = true) (hY : ∀ (w : World) (h : Heap), YP w h → (K w.params).In h)
    (F : ∀ (w : World) (mg : Str → Option Value) (fa : Addr) (h : Heap), (K w.params).In h → h.Ns mainGlobals mg → mg d.name = some (.ref fa) →
      ∃ fd : FuncData, (∀ (s : Shared) (u : Value), BindsTo s fd ⟨[u], []⟩ [(x, u)]) ∧ ∀ base : Heap, (K w.params).In base → base.Ns mainGlobals mg → base.NoSeer → FnOk l.prog w (K w.params) mg base (CX w) k fa fd [x] (sp w))
    (hsp : ∀ (w : World) (H : Hp) (a : Addr) (ns : List Int), ns.length ≤ n → (∀ z ∈ ns, Builtin.Int.intBits z ≤ 1048576) → Only H → SqL (K w.params) H a (ns.map V.int) → sp w [.ref a] H (fun v _ => v = .bl true) fun _ _ _ => False)
    (hCX : ∀ (w : World) (H : Hp) (s : Shared) (e : Value) (s' : Shared), CX w [] H s (fun _ _ _ => False) e s' → False) : PySem.W.WalkO q loose XP YP l.row.toRowW d [] (fun f vs => PySem.call f vs) := by
  refine Big.attach hn hdf fun w s₀ s₁ mg mb fa a vs ns G Y hm ho hi2 hl hb hg => ?_
  obtain ⟨fd, bd, FF⟩ := F w mg fa _ (hY w _ Y) G.T.g hm
  exact entered (hY w _ Y) G.T.g G.T.b G.T.builtins G.T.nolimit (G.T.seer hi) hg ho hi2 (Nat.le_trans hl hn2) hr FF bd (fun H hO hS => hsp w H a ns hl hb hO hS) fun H e s' => hCX w H s₁ e s'
end Big
namespace Big
open PySem PySem.Spec PyProof.Rows L2
section
variable {X : Cx}
/-- // by a divisor of any size, in a comprehension's block: the frame is that of the def around it -/
theorem op_fdivB (hN : X.base.NoSeer) (ht : X.prog.given.tree = none) {e : Env} {l : List Env} (hs : X.stack = e :: l) (hg : e.scope.isGenerator = false) (hc : e.scope.isCoroutine = false) (hb : e.builtins = builtinsNs) (hgl : e.globals = mainGlobals) (hd : X.A.depth + 100 < recursionLimit) :
    OpR X (binaryOp .FloorDiv) (rI (fun _ j => 0 < j) fun i j => .int (i / j)) := by
  intro pins s σ H x y v u Q I rx ry h
  obtain ⟨i, j, rfl, rfl, hj, q⟩ := h
  obtain ⟨t, rfl⟩ := rx
  obtain ⟨t', rfl⟩ := ry
  have hj' : (0 : Int) < j := hj
  have room : PylongRoom (model X.prog X.w) X.A s :=
    PylongRoom.of I.nolimit hd (SeerAt.of (env := e) (l := l) (hN.keeps I.bk) ht (by rw [I.ok.frames, hs]) hg hc hb hgl)
  refine floordiv_int (by omega) ?_ (.inr room)
  rw [Int.fdiv_eq_ediv_of_nonneg i (by omega)]
  exact ⟨.int _, H, I.tok _, ⟨_, rfl⟩, q⟩
end
end Big

/-! enumerate(list, start=c) -/
namespace Enum1
open PySem PySem.Spec PyProof.Rows L2
section
variable {M : Model} {A : Around} {E : Value → Shared → Prop} {s : Shared} {env : Env}
/-- a built-in class called with names -/
theorem with_names {pos : Pos} {T : String} {e : Expr} {rest : List Expr} {kws : List Keyword} {Q : Value → Shared → Prop}
    (h : wpAny M A (spliced (backTo pos (starEach (e :: rest) env))) (fun vs s₁ => wpAny M A (evalAll ((backToKw pos (keywordEach kws env)).map (·.2)))
      (fun kvs s₂ => wpAny M A (call (.type T) vs (((backToKw pos (keywordEach kws env)).filterMap (·.1)).zip kvs)) Q E s₂) E s₁) E s)
    (he : backTo pos (starEach (e :: rest) env) = (false, eval e env) :: backTo pos (starEach rest env) := by rfl)
    (hp : (backTo pos (starEach (e :: rest) env)).any (·.1) = false := by rfl)
    (hall : (backToKw pos (keywordEach kws env)).all (·.1.isSome) = true := by rfl)
    (hkw : (backToKw pos (keywordEach kws env)).any (·.1.isNone) = false := by rfl) :
    wpAny M A (callWith pos (.type T) [] (backTo pos (starEach (e :: rest) env)) (backToKw pos (keywordEach kws env))) Q E s := by
  have args : wpAny M A (evalArgs (.type T) true (backTo pos (starEach (e :: rest) env)) (backToKw pos (keywordEach kws env))) (fun a s₁ => wpAny M A (call (.type T) ([] ++ a.pos) a.kw) Q E s₁) E s := by
    rw [he] at h ⊢
    exact evalArgs_kwB hall h
  unfold callWith
  refine wpAny_bind (wpAny_holding (wpAny_mono args (fun a s₁ h₁ => wpAny_bind (wpAny_standAt ?_)) fun _ _ x => x))
  simp only [hp, hkw, Bool.or_false]
  refine wpAny_bind (wpAny_pure ?_)
  exact wpAny_bind (wpAny_mono h₁ (fun r s₂ hr => wpAny_bind (wpAny_holding (wpAny_point (wpAny_pure hr)))) fun _ _ x => x)
end
/-- the list at a as it stands at each turn, each item behind its number -/
def Itc (K : PySem.W.Frag) (a : Addr) (c : Int) : It :=
  ⟨fun i H => ∃ (xs : List V) (x : V), SqL K H a xs ∧ xs[i]? = some x, fun i H v H' => ∃ T x, v = .ref T ∧ H T = none ∧ H' = upd H T (.tup [.int (c + (i : Int)), x]) ∧ ∀ xs, SqL K H a xs → xs[i]? = some x, fun i H => ∃ xs : List V, SqL K H a xs ∧ xs.length = i⟩
theorem turn_c {P : Program} {w : World} {K : PySem.W.Frag} {elts : List Expr} {kk : Nat} {tpos : Pos} (a e it : Addr) (c : Int) :
    Turn P w K (.Tuple elts kk tpos) (Itc K a c) [e, it] e (fun i h => (∃ old, IsEnum h e it (c + (i : Int)) old) ∧ h.IsListIter it a i ∧ e ≠ it ∧ a ≠ it ∧ a ≠ e) where
  mem := List.mem_cons_self
  obj := fun i h st b hb => by
    obtain ⟨⟨old, he⟩, ⟨o, ho, hc, hd⟩, _⟩ := st
    rcases List.mem_cons.mp hb with z | z
    · rw [z]
      exact ⟨_, he, fun v q => nomatch q⟩
    · rw [List.mem_singleton.mp z]
      exact ⟨o, ho, fun v q => by rw [hd] at q; cases q⟩
  keep := fun i h h' st k => let ⟨⟨old, he⟩, hi, ne⟩ := st; ⟨⟨old, k e (by simp) _ he⟩, hi.at fun o q => k it (by simp) o q, ne⟩
  item := by
    intro X hP hw hK hc i pins s σ H E I hf st hg
    subst hP hw hK
    obtain ⟨⟨old, he⟩, hit, hne, hai, hae⟩ := st
    obtain ⟨xs, x, hq, hx⟩ := hg
    obtain ⟨its, rv, p, hz⟩ := I.list hq
    obtain ⟨u, hu, ru⟩ := rv.get hx
    have hel : e < s.heap.objs.size := Heap.lt_size he
    have hil : it < s.heap.objs.size := by obtain ⟨_, q, _⟩ := hit; exact Heap.lt_size q
    have hlt : i < its.toArray.size := by
      have := (List.getElem?_eq_some_iff.mp hu).1
      simpa using this
    refine wpAny_pyNext_enum_itemC (Draws.list (A := X.A.in1) (I.ok.hd hc) it a hai its.toArray) he ⟨hit, p.isList⟩ hlt hne (by simp only [List.mem_cons, List.not_mem_nil, or_false, not_or]; exact ⟨hne, hae.symm⟩) fun x' h' tk hx' ho hst hT hsz hk => ?_
    have ex : x' = u := by
      have h1 : its.toArray[i]? = some u := by simpa using hu
      exact Option.some.inj (hx'.symm.trans h1)
    subst ex
    refine ⟨_, rfl, wpAny_letOwnedTupleGo_enum (s := { s with heap := h', toks := tk + 1 }) ho fun h'' he' sb => ?_⟩
    have hT2 : h''.get? s.heap.objs.size = some { cls := .type "tuple", data := .seq #[.int (c + (i : Int)) tk, x'] } := (sb.2 _ (Nat.ne_of_gt hel)).trans hT
    have new : ObjOk X.prog X.w (upd H s.heap.objs.size (.tup [.int (c + (i : Int)), x])) h'' s.heap.objs.size (.tup [.int (c + (i : Int)), x]) :=
      ⟨by show 2 ≤ sizeLine; decide, [.int (c + (i : Int)) tk, x'], .cons ⟨_, rfl⟩ (.cons ru .nil), ⟨_, hT2, rfl, _, rfl⟩⟩
    have I1 : Inv X pins σ (upd H s.heap.objs.size (.tup [.int (c + (i : Int)), x])) { s with heap := h'', toks := tk + 1 } :=
      I.turnedNew (ch := [e, it]) (fun b ob hb q => (sb.2 b (fun z => hb (by simp [z]))).trans (hk b ob (fun z => hb (by simp [z])) (fun z => hb (by simp [z])) q)) hf (Nat.le_refl _) new
    refine ⟨.ref s.heap.objs.size, _, I1, rfl, ⟨_, x, rfl, I.hok.fresh (Nat.le_refl _), rfl, fun ys hy => by rw [I.list_inj hy hq]; exact hx⟩, ⟨⟨x', ?_⟩, hst.1.at fun o q => (sb.2 it (Ne.symm hne)).trans q, hne, hai, hae⟩, fun b hb => ?_⟩
    · have e1 : c + ((i + 1 : Nat) : Int) = c + (i : Int) + 1 := by omega
      rw [e1]
      exact he'
    · have hb' : b < s.heap.objs.size := by
        rcases List.mem_cons.mp hb with z | z
        · rw [z]
          exact hel
        · rw [List.mem_singleton.mp z]
          exact hil
      rw [upd_ne (Nat.ne_of_lt hb')]
      exact (hf b hb).1
  done := by
    intro X hP hw hK hc i pins s σ H E I hf st hg
    subst hP hw hK
    obtain ⟨⟨old, he⟩, hit, hne, hai, hae⟩ := st
    obtain ⟨xs, hq, hx⟩ := hg
    obtain ⟨its, rv, p, hz⟩ := I.list hq
    obtain ⟨f0, f1, f2, f3, f4, f5⟩ := hf it (by simp)
    have hl := rv.length
    have hi : i = its.toArray.size := by rw [List.size_toArray]; omega
    subst hi
    exact wpAny_pyNext_enum_endD (Draws.list (A := X.A.in1) (I.ok.hd hc) it a hai its.toArray) he ⟨hit, p.isList⟩ fun h' eb => ⟨rfl, I.turned (t' := s.toks) (fun b o hb q => eb b o hb q) f0 f1 f3 f4 f5⟩
  self := fun A i s Q E st h => let ⟨⟨_, he⟩, _⟩ := st; wpAny_pyIter_enum he h
def iEnumC (K : PySem.W.Frag) (ta tk : TA) : TI := fun σ H R => ta σ H fun vs H1 => tk σ H1 fun zs H2 => ∃ (a : Addr) (xs : List V) (c : Int), vs = [.ref a] ∧ zs = [.int c] ∧ -(2 ^ 63) ≤ c ∧ c < 2 ^ 63 ∧ SqL K H2 a xs ∧ R (Itc K a c) H2
theorem pi_enumC {X : Cx} {e : Expr} {kws : List Keyword} {ta tk : TA} {p pos tpos : Pos} {elts : List Expr} {kk : Nat} (hg : Gl X "enumerate") (hm : X.mg "enumerate" = none) (ha : PA X [e] ta) (hk : PK X kws tk)
    (he : backTo pos (starEach [e] X.env) = (false, eval e X.env) :: backTo pos (starEach [] X.env) := by rfl) (hpl : (backTo pos (starEach [e] X.env)).any (·.1) = false := by rfl)
    (hall : (backToKw pos (keywordEach kws X.env)).all (·.1.isSome) = true := by rfl) (hnone : (backToKw pos (keywordEach kws X.env)).any (·.1.isNone) = false := by rfl) (hks : (backToKw pos (keywordEach kws X.env)).filterMap (·.1) = [Str.ofString "start"] := by rfl) :
    PI X (.Tuple elts kk tpos) (.Call (.Name "enumerate" p) [e] kws pos) (iEnumC X.K ta tk) := by
  refine ⟨fun pins s σ H R I h => ?_⟩
  refine wpAny_Call_Name_kw (ld_blt I hg hm boot_enumerate ?_)
  refine with_names (thn (ha.run pos pins s σ H _ I h) fun us s1 ⟨vs, H1, I1, r1, q1⟩ => thn (hk.run pos pins s1 σ H1 _ I1 q1) fun ws s2 ⟨zs, H2, I2, r2, q2⟩ => ?_) he hpl hall hnone
  rw [hks]
  obtain ⟨a, xs, c, ex, ez, c0, c1, hq, q⟩ := q2
  subst ex ez
  cases r1 with
  | cons r rr =>
    cases rr
    cases r
    cases r2 with
    | cons r' rr =>
      cases rr
      obtain ⟨t, rfl⟩ := r'
      obtain ⟨its, rv, p', hz⟩ := I2.list hq
      have hal : a < s2.heap.objs.size := p'.lt
      refine enum_begins_start (begins_list a its.toArray) p'.isList c0 c1 fun h' hE hO hsz hk => wpAny_pyIter_enum hE ?_
      have I3 : Inv X pins σ H2 { s2 with heap := h' } := I2.kept (t' := s2.toks) hk
      refine ⟨s2.heap.objs.size + 1, [s2.heap.objs.size + 1, s2.heap.objs.size], _, _, H2, rfl, I3, turn_c a (s2.heap.objs.size + 1) s2.heap.objs.size c,
        ⟨⟨.none, by have e0 : c + ((0 : Nat) : Int) = c := by omega
                    rw [e0]
                    exact hE⟩, ⟨_, hO, rfl, rfl⟩, Nat.succ_ne_self _, Nat.ne_of_lt hal, Nat.ne_of_lt (Nat.lt_succ_of_lt hal)⟩, fun b hb => ?_, q⟩
      have hle : s2.heap.objs.size ≤ b := by
        rcases List.mem_cons.mp hb with z | z
        · rw [z]
          exact Nat.le_succ _
        · rw [List.mem_singleton.mp z]
          exact Nat.le_refl _
      exact I2.fpOk hle (I2.hok.fresh hle)
theorem for_enumC {K : PySem.W.Frag} {a : Addr} {c : Int} {xs : List V} {g : TG} {tb : TS} {D : Ends} {σ : L2.St} {H : Hp} (Pv : Nat → L2.St → Hp → Prop) (h0 : Pv 0 σ H) (hq : ∀ i σ H, Pv i σ H → SqL K H a xs)
    (hs : ∀ (i : Nat) (x : V) (T : Addr) (σ : L2.St) (H : Hp), xs[i]? = some x → Pv i σ H → H T = none → g (.ref T) σ (upd H T (.tup [.int (c + (i : Int)), x])) fun σ2 H2 => tb { D with nx := Pv (i + 1), ct := Pv (i + 1), bk := D.nx } σ2 H2) (hd : ∀ σ H, Pv xs.length σ H → D.nx σ H) :
    ∃ W : Nat → Nat → L2.St → Hp → Prop, (∃ m, W 0 m σ H) ∧ ∀ i m σ H, W i m σ H →
      ((Itc K a c).stop i H ∧ D.nx σ H) ∨ ((Itc K a c).go i H ∧ ∃ N : L2.St → Hp → Prop, (∀ σ' H', N σ' H' → ∃ m', m' < m ∧ W (i + 1) m' σ' H') ∧ ∀ v H', (Itc K a c).yld i H v H' → g v σ H' fun σ2 H2 => tb { D with nx := N, ct := N, bk := D.nx } σ2 H2) := by
  refine ⟨fun i m σ H => m + i = xs.length ∧ Pv i σ H, ⟨xs.length, Nat.add_zero _, h0⟩, fun i m σ H => ?_⟩
  rintro ⟨hm, p⟩
  have qx := hq i σ H p
  cases m with
  | zero =>
    have e : i = xs.length := by omega
    subst e
    exact .inl ⟨⟨xs, qx, rfl⟩, hd σ H p⟩
  | succ m =>
    have l1 : i < xs.length := by omega
    refine .inr ⟨⟨xs, _, qx, List.getElem?_eq_getElem l1⟩, Pv (i + 1), fun σ' H' p' => ⟨m, Nat.lt_succ_self _, by omega, p'⟩, fun v H' y => ?_⟩
    obtain ⟨T, x', rfl, hT, rfl, f1⟩ := y
    exact hs i x' T σ H (f1 xs qx) p hT
end Enum1

/-! enumerate(tuple), enumerate(tuple, start=c); walks within a comprehension -/
namespace EnumT
open PySem PySem.Spec PyProof.Rows L2
/-- the tuple at a, each item behind its number -/
def Itd (K : PySem.W.Frag) (a : Addr) (c : Int) : It :=
  ⟨fun i H => ∃ (xs : List V) (x : V), SqT K H a xs ∧ xs[i]? = some x, fun i H v H' => ∃ T x, v = .ref T ∧ H T = none ∧ H' = upd H T (.tup [.int (c + (i : Int)), x]) ∧ ∀ xs, SqT K H a xs → xs[i]? = some x, fun i H => ∃ xs : List V, SqT K H a xs ∧ xs.length = i⟩
theorem turn_d {P : Program} {w : World} {K : PySem.W.Frag} {elts : List Expr} {kk : Nat} {tpos : Pos} (a e it : Addr) (c : Int) :
    Turn P w K (.Tuple elts kk tpos) (Itd K a c) [e, it] e (fun i h => (∃ old, IsEnum h e it (c + (i : Int)) old) ∧ h.IsTupleIter it a i ∧ e ≠ it ∧ a ≠ it ∧ a ≠ e) where
  mem := List.mem_cons_self
  obj := fun i h st b hb => by
    obtain ⟨⟨old, he⟩, ⟨o, ho, hc, hd⟩, _⟩ := st
    rcases List.mem_cons.mp hb with z | z
    · rw [z]
      exact ⟨_, he, fun v q => nomatch q⟩
    · rw [List.mem_singleton.mp z]
      exact ⟨o, ho, fun v q => by rw [hd] at q; cases q⟩
  keep := fun i h h' st k => let ⟨⟨old, he⟩, hi, ne⟩ := st; ⟨⟨old, k e (by simp) _ he⟩, hi.at fun o q => k it (by simp) o q, ne⟩
  item := by
    intro X hP hw hK hc i pins s σ H E I hf st hg
    subst hP hw hK
    obtain ⟨⟨old, he⟩, hit, hne, hai, hae⟩ := st
    obtain ⟨xs, x, hq, hx⟩ := hg
    obtain ⟨its, rv, p, hz⟩ := I.tuple hq
    have pt : s.heap.IsTuple a its.toArray := p
    obtain ⟨u, hu, ru⟩ := rv.get hx
    have hel : e < s.heap.objs.size := Heap.lt_size he
    have hil : it < s.heap.objs.size := by obtain ⟨_, q, _⟩ := hit; exact Heap.lt_size q
    have hlt : i < its.toArray.size := by
      have := (List.getElem?_eq_some_iff.mp hu).1
      simpa using this
    refine wpAny_pyNext_enum_itemC (Draws.tuple (A := X.A.in1) (I.ok.hd hc) it a hai its.toArray) he ⟨hit, pt⟩ hlt hne (by simp only [List.mem_cons, List.not_mem_nil, or_false, not_or]; exact ⟨hne, hae.symm⟩) fun x' h' tk hx' ho hst hT hsz hk => ?_
    have ex : x' = u := by
      have h1 : its.toArray[i]? = some u := by simpa using hu
      exact Option.some.inj (hx'.symm.trans h1)
    subst ex
    refine ⟨_, rfl, wpAny_letOwnedTupleGo_enum (s := { s with heap := h', toks := tk + 1 }) ho fun h'' he' sb => ?_⟩
    have hT2 : h''.get? s.heap.objs.size = some { cls := .type "tuple", data := .seq #[.int (c + (i : Int)) tk, x'] } := (sb.2 _ (Nat.ne_of_gt hel)).trans hT
    have new : ObjOk X.prog X.w (upd H s.heap.objs.size (.tup [.int (c + (i : Int)), x])) h'' s.heap.objs.size (.tup [.int (c + (i : Int)), x]) :=
      ⟨by show 2 ≤ sizeLine; decide, [.int (c + (i : Int)) tk, x'], .cons ⟨_, rfl⟩ (.cons ru .nil), ⟨_, hT2, rfl, _, rfl⟩⟩
    have I1 : Inv X pins σ (upd H s.heap.objs.size (.tup [.int (c + (i : Int)), x])) { s with heap := h'', toks := tk + 1 } :=
      I.turnedNew (ch := [e, it]) (fun b ob hb q => (sb.2 b (fun z => hb (by simp [z]))).trans (hk b ob (fun z => hb (by simp [z])) (fun z => hb (by simp [z])) q)) hf (Nat.le_refl _) new
    refine ⟨.ref s.heap.objs.size, _, I1, rfl, ⟨_, x, rfl, I.hok.fresh (Nat.le_refl _), rfl, fun ys hy => by rw [I.tuple_inj hy hq]; exact hx⟩, ⟨⟨x', ?_⟩, hst.1.at fun o q => (sb.2 it (Ne.symm hne)).trans q, hne, hai, hae⟩, fun b hb => ?_⟩
    · have e1 : c + ((i + 1 : Nat) : Int) = c + (i : Int) + 1 := by omega
      rw [e1]
      exact he'
    · have hb' : b < s.heap.objs.size := by
        rcases List.mem_cons.mp hb with z | z
        · rw [z]
          exact hel
        · rw [List.mem_singleton.mp z]
          exact hil
      rw [upd_ne (Nat.ne_of_lt hb')]
      exact (hf b hb).1
  done := by
    intro X hP hw hK hc i pins s σ H E I hf st hg
    subst hP hw hK
    obtain ⟨⟨old, he⟩, hit, hne, hai, hae⟩ := st
    obtain ⟨xs, hq, hx⟩ := hg
    obtain ⟨its, rv, p, hz⟩ := I.tuple hq
    have pt : s.heap.IsTuple a its.toArray := p
    obtain ⟨f0, f1, f2, f3, f4, f5⟩ := hf it (by simp)
    have hl := rv.length
    have hi : i = its.toArray.size := by rw [List.size_toArray]; omega
    subst hi
    exact wpAny_pyNext_enum_endD (Draws.tuple (A := X.A.in1) (I.ok.hd hc) it a hai its.toArray) he ⟨hit, pt⟩ fun h' eb => ⟨rfl, I.turned (t' := s.toks) (fun b o hb q => eb b o hb q) f0 f1 f3 f4 f5⟩
  self := fun A i s Q E st h => let ⟨⟨_, he⟩, _⟩ := st; wpAny_pyIter_enum he h
set_option maxHeartbeats 1000000 in
theorem makes1 {v : Value} {o : Obj} {G : Heap → Prop} (B : Begins v o G) :
    Meets (Builtin.«enumerate.__new__» ⟨[.type "enumerate", v], []⟩) (fun _ R s => G s.heap ∧
      R (.ok (.ret (.ref (s.heap.push o).objs.size))) { s with heap := (s.heap.push o).push { cls := .type "enumerate", data := .fields #[.none, .bool false, .ref s.heap.objs.size, rawInt 0, .none, .none] } }) :=
  .of_wp fun prog w A R s h => by
    obtain ⟨hp, g, d, tk, os⟩ := s; obtain ⟨g1, h⟩ := h
    have hsub := sub_enumerate
    have q1 : ∀ {A' : Around} {E : Value → Shared → Prop} {Q : Value → Shared → Prop}, Q (.ref hp.objs.size) ⟨hp.push o, g, d, tk, os⟩ → wpAny (model prog w) A' (pyIter v) Q E ⟨hp, g, d, tk, os⟩ :=
      fun q => B.iter prog w _ _ ⟨hp, g, d, tk, os⟩ _ g1 q
    wp_walk using q1
    refine wpAny_stack_any fun st => wpAny_pure ?_
    split
    · rename_i c _ _ _ _ _
      cases (c == Value.type "enumerate")
      · wp_walk using q1
        exact ⟨_, rfl, h⟩
      · wp_walk using q1
        exact ⟨_, rfl, h⟩
    · wp_walk using q1
      exact ⟨_, rfl, h⟩
theorem begins1 {prog : Program} {w : World} {A : Around} {E : Value → Shared → Prop} {s : Shared} {v : Value} {o : Obj} {G : Heap → Prop} {Q : Value → Shared → Prop} (B : Begins v o G) (g1 : G s.heap)
    (h : ∀ h', IsEnum h' (s.heap.objs.size + 1) s.heap.objs.size 0 .none → h'.get? s.heap.objs.size = some o → (∀ b ob, s.heap.get? b = some ob → h'.get? b = some ob) → Q (.ref (s.heap.objs.size + 1)) { s with heap := h' }) :
    wpAny (model prog w) A (call (.type "enumerate") [v]) Q E s := by
  refine callType_new F.called_enumerate (by decide) (F.typeCall_enumerate_1 _) (F.newCall_enumerate_1 _) (fun obj => F.args_object_init_2 obj _) F.entry_enumerate_new (makes1 B) ⟨g1, ?_⟩
  have hz : (s.heap.push o).objs.size = s.heap.objs.size + 1 := Heap.size_push ..
  show _ ∧ _
  rw [hz]
  have ee : IsEnum ((s.heap.push o).push { cls := .type "enumerate", data := .fields #[.none, .bool false, .ref s.heap.objs.size, rawInt 0, .none, .none] }) (s.heap.objs.size + 1) s.heap.objs.size 0 .none := by
    have y := Heap.get?_push_size (s.heap.push o) (o := { cls := .type "enumerate", data := .fields #[.none, .bool false, .ref s.heap.objs.size, rawInt 0, .none, .none] }) rfl
    rw [hz] at y
    exact y
  exact ⟨⟨_, ee, rfl⟩, h _ ee (Heap.get?_push_of_some _ (Heap.get?_push_size _ B.free)) fun b ob x => Heap.get?_push_of_some _ (Heap.get?_push_of_some _ x)⟩
def iEnumD (K : PySem.W.Frag) (ta tk : TA) : TI := fun σ H R => ta σ H fun vs H1 => tk σ H1 fun zs H2 => ∃ (a : Addr) (xs : List V) (c : Int), vs = [.ref a] ∧ zs = [.int c] ∧ -(2 ^ 63) ≤ c ∧ c < 2 ^ 63 ∧ SqT K H2 a xs ∧ R (Itd K a c) H2
theorem pi_enumD {X : Cx} {e : Expr} {kws : List Keyword} {ta tk : TA} {p pos tpos : Pos} {elts : List Expr} {kk : Nat} (hg : Gl X "enumerate") (hm : X.mg "enumerate" = none) (ha : PA X [e] ta) (hk : PK X kws tk)
    (he : backTo pos (starEach [e] X.env) = (false, eval e X.env) :: backTo pos (starEach [] X.env) := by rfl) (hpl : (backTo pos (starEach [e] X.env)).any (·.1) = false := by rfl)
    (hall : (backToKw pos (keywordEach kws X.env)).all (·.1.isSome) = true := by rfl) (hnone : (backToKw pos (keywordEach kws X.env)).any (·.1.isNone) = false := by rfl) (hks : (backToKw pos (keywordEach kws X.env)).filterMap (·.1) = [Str.ofString "start"] := by rfl) :
    PI X (.Tuple elts kk tpos) (.Call (.Name "enumerate" p) [e] kws pos) (iEnumD X.K ta tk) := by
  refine ⟨fun pins s σ H R I h => ?_⟩
  refine wpAny_Call_Name_kw (ld_blt I hg hm boot_enumerate ?_)
  refine Enum1.with_names (thn (ha.run pos pins s σ H _ I h) fun us s1 ⟨vs, H1, I1, r1, q1⟩ => thn (hk.run pos pins s1 σ H1 _ I1 q1) fun ws s2 ⟨zs, H2, I2, r2, q2⟩ => ?_) he hpl hall hnone
  rw [hks]
  obtain ⟨a, xs, c, ex, ez, c0, c1, hq, q⟩ := q2
  subst ex ez
  cases r1 with
  | cons r rr =>
    cases rr
    cases r
    cases r2 with
    | cons r' rr =>
      cases rr
      obtain ⟨t, rfl⟩ := r'
      obtain ⟨its, rv, p', hz⟩ := I2.tuple hq
      have pt : s2.heap.IsTuple a its.toArray := p'
      have hal : a < s2.heap.objs.size := p'.lt
      refine enum_begins_start (begins_tuple a its.toArray) pt c0 c1 fun h' hE hO hsz hk => wpAny_pyIter_enum hE ?_
      have I3 : Inv X pins σ H2 { s2 with heap := h' } := I2.kept (t' := s2.toks) hk
      refine ⟨s2.heap.objs.size + 1, [s2.heap.objs.size + 1, s2.heap.objs.size], _, _, H2, rfl, I3, turn_d a (s2.heap.objs.size + 1) s2.heap.objs.size c,
        ⟨⟨.none, by have e0 : c + ((0 : Nat) : Int) = c := by omega
                    rw [e0]
                    exact hE⟩, ⟨_, hO, rfl, rfl⟩, Nat.succ_ne_self _, Nat.ne_of_lt hal, Nat.ne_of_lt (Nat.lt_succ_of_lt hal)⟩, fun b hb => ?_, q⟩
      have hle : s2.heap.objs.size ≤ b := by
        rcases List.mem_cons.mp hb with z | z
        · rw [z]
          exact Nat.le_succ _
        · rw [List.mem_singleton.mp z]
          exact Nat.le_refl _
      exact I2.fpOk hle (I2.hok.fresh hle)
def iEnumE (K : PySem.W.Frag) (ta : TA) : TI := fun σ H R => ta σ H fun vs H1 => ∃ a xs, vs = [.ref a] ∧ SqT K H1 a xs ∧ R (Itd K a 0) H1
theorem pi_enumE {X : Cx} {e : Expr} {ta : TA} {p pos tpos : Pos} {elts : List Expr} {kk : Nat} (hg : Gl X "enumerate") (hm : X.mg "enumerate" = none) (ha : PA X [e] ta) (hs : starEach [e] X.env = [(false, eval e X.env)] := by rfl) :
    PI X (.Tuple elts kk tpos) (.Call (.Name "enumerate" p) [e] [] pos) (iEnumE X.K ta) := by
  refine ⟨fun pins s σ H R I h => ?_⟩
  refine Call_ (ld_blt I hg hm boot_enumerate (PyProof.Rows.callWith_type1 (thn (ha.run pos pins s σ H _ I h) fun us z1 ⟨vs, H1, I1, r1, q1⟩ => ?_) hs rfl))
  obtain ⟨a, xs, ex, hq, q⟩ := q1
  subst ex
  cases r1 with
  | cons r rr =>
    cases rr
    cases r
    obtain ⟨its, rv, p', hz⟩ := I1.tuple hq
    have pt : z1.heap.IsTuple a its.toArray := p'
    have hal : a < z1.heap.objs.size := p'.lt
    refine begins1 (begins_tuple a its.toArray) pt fun h' hE hO hk => wpAny_pyIter_enum hE ?_
    have I3 : Inv X pins σ H1 { z1 with heap := h' } := I1.kept (t' := z1.toks) hk
    refine ⟨z1.heap.objs.size + 1, [z1.heap.objs.size + 1, z1.heap.objs.size], _, _, H1, rfl, I3, turn_d a (z1.heap.objs.size + 1) z1.heap.objs.size 0, ⟨⟨.none, hE⟩, ⟨_, hO, rfl, rfl⟩, Nat.succ_ne_self _, Nat.ne_of_lt hal, Nat.ne_of_lt (Nat.lt_succ_of_lt hal)⟩, fun b hb => ?_, q⟩
    have hle : z1.heap.objs.size ≤ b := by
      rcases List.mem_cons.mp hb with z | z
      · rw [z]
        exact Nat.le_succ _
      · rw [List.mem_singleton.mp z]
        exact Nat.le_refl _
    exact I1.fpOk hle (I1.hok.fresh hle)
section
variable {K : PySem.W.Frag} {a : Addr} {xs : List V} {g : TG} {tt : TT} {σ : L2.St} {vs : List Nat} {H : Hp} {N : Hp → Prop} {B : L2.St → Hp → (Hp → Prop) → Prop}
/-- a clause over enumerate(tuple) -/
theorem walk_enum {c : Int} (Pv : Nat → Hp → Prop) (h0 : Pv 0 H) (hq : ∀ i H, Pv i H → SqT K H a xs)
    (hs : ∀ i x T H, xs[i]? = some x → Pv i H → H T = none → g (.ref T) (wipe σ vs) (upd H T (.tup [.int (c + (i : Nat)), x])) fun σ2 H2 => wipe σ2 vs = wipe σ vs ∧ tt σ2 H2 fun b H3 => if b = true then B σ2 H3 (Pv (i + 1)) else Pv (i + 1) H3) (hd : ∀ H, Pv xs.length H → N H) :
    ∃ W : Nat → Nat → Hp → Prop, (∃ m, W 0 m H) ∧ ∀ i m H, W i m H → ((Itd K a c).stop i H ∧ N H) ∨ ((Itd K a c).go i H ∧ ∃ Nx : Hp → Prop, (∀ H', Nx H' → ∃ m', m' < m ∧ W (i + 1) m' H') ∧ ∀ x H', (Itd K a c).yld i H x H' → g x (wipe σ vs) H' fun σ2 H2 => wipe σ2 vs = wipe σ vs ∧ tt σ2 H2 fun b H3 =>
      if b = true then B σ2 H3 Nx else Nx H3) := by
  refine ⟨fun i m H => m + i = xs.length ∧ Pv i H, ⟨xs.length, Nat.add_zero _, h0⟩, fun i m H hw => ?_⟩
  obtain ⟨hm, p⟩ := hw
  have qx := hq i H p
  cases m with
  | zero =>
    have e : i = xs.length := by omega
    subst e
    exact .inl ⟨⟨xs, qx, rfl⟩, hd H p⟩
  | succ m =>
    have l1 : i < xs.length := by omega
    refine .inr ⟨⟨xs, _, qx, List.getElem?_eq_getElem l1⟩, Pv (i + 1), fun H' p' => ⟨m, Nat.lt_succ_self _, by omega, p'⟩, fun v H' y => ?_⟩
    obtain ⟨T, x, ev, nT, eH, fx⟩ := y
    rw [ev, eH]
    exact hs i x T H (fx xs qx) p nT
/-- a clause over a tuple -/
theorem walk_tup (Pv : Nat → Hp → Prop) (h0 : Pv 0 H) (hq : ∀ i H, Pv i H → SqT K H a xs)
    (hs : ∀ i x H, xs[i]? = some x → Pv i H → g x (wipe σ vs) H fun σ2 H2 => wipe σ2 vs = wipe σ vs ∧ tt σ2 H2 fun b H3 => if b = true then B σ2 H3 (Pv (i + 1)) else Pv (i + 1) H3) (hd : ∀ H, Pv xs.length H → N H) :
    ∃ W : Nat → Nat → Hp → Prop, (∃ m, W 0 m H) ∧ ∀ i m H, W i m H → ((Itt K a).stop i H ∧ N H) ∨ ((Itt K a).go i H ∧ ∃ Nx : Hp → Prop, (∀ H', Nx H' → ∃ m', m' < m ∧ W (i + 1) m' H') ∧ ∀ x H', (Itt K a).yld i H x H' → g x (wipe σ vs) H' fun σ2 H2 => wipe σ2 vs = wipe σ vs ∧ tt σ2 H2 fun b H3 =>
      if b = true then B σ2 H3 Nx else Nx H3) := by
  refine ⟨fun i m H => m + i = xs.length ∧ Pv i H, ⟨xs.length, Nat.add_zero _, h0⟩, fun i m H hw => ?_⟩
  obtain ⟨hm, p⟩ := hw
  have qx := hq i H p
  cases m with
  | zero =>
    have e : i = xs.length := by omega
    subst e
    exact .inl ⟨⟨xs, qx, Nat.le_refl _⟩, hd H p⟩
  | succ m =>
    have l1 : i < xs.length := by omega
    refine .inr ⟨⟨xs, _, qx, List.getElem?_eq_getElem l1⟩, Pv (i + 1), fun H' p' => ⟨m, Nat.lt_succ_self _, by omega, p'⟩, fun v H' y => ?_⟩
    obtain ⟨eH, fx⟩ := y
    rw [eH]
    exact hs i v H (fx xs qx) p
end
/-! what a target's names hold is forgotten between the turns -/
theorem wipe_get (σ : L2.St) : ∀ (vs : List Nat) (j : Nat), (wipe σ vs)[j]? = if j ∈ vs ∧ j < σ.length then some none else σ[j]?
  | [], j => by
    rw [if_neg (fun z => nomatch z.1)]
    rfl
  | v :: vs, j => by
    have ih := wipe_get σ vs j
    show ((wipe σ vs).set v none)[j]? = _
    rw [List.getElem?_set, wipe_length, ih]
    by_cases e : v = j
    · subst e
      rw [if_pos rfl]
      by_cases l : v < σ.length
      · rw [if_pos l, if_pos ⟨List.mem_cons_self, l⟩]
      · rw [if_neg l, if_neg (fun z => l z.2), List.getElem?_eq_none (by omega)]
    · rw [if_neg e]
      by_cases m : j ∈ vs ∧ j < σ.length
      · rw [if_pos m, if_pos ⟨List.mem_cons_of_mem _ m.1, m.2⟩]
      · rw [if_neg m, if_neg (fun z => m ⟨(List.mem_cons.mp z.1).resolve_left (fun y => e y.symm), z.2⟩)]
theorem wipe_set {σ : L2.St} {vs : List Nat} {i : Nat} {x : Option V} (h : i ∈ vs) : wipe (σ.set i x) vs = wipe σ vs := by
  refine List.ext_getElem? fun j => ?_
  rw [wipe_get, wipe_get, List.length_set]
  by_cases m : j ∈ vs ∧ j < σ.length
  · rw [if_pos m, if_pos m]
  · rw [if_neg m, if_neg m, List.getElem?_set]
    by_cases e : i = j
    · subst e
      have l : ¬ i < σ.length := fun z => m ⟨h, z⟩
      rw [if_pos rfl, if_neg l, List.getElem?_eq_none (by omega)]
    · rw [if_neg e]
theorem wipe_wipe {σ : L2.St} {vs : List Nat} : wipe (wipe σ vs) vs = wipe σ vs := by
  refine List.ext_getElem? fun j => ?_
  rw [wipe_get, wipe_length, wipe_get]
  by_cases m : j ∈ vs ∧ j < σ.length
  · rw [if_pos m, if_pos m]
  · rw [if_neg m, if_neg m]
theorem wipe2 {σ : L2.St} {vs : List Nat} {a b : Nat} {x y : Option V} (ha : a ∈ vs) (hb : b ∈ vs) : wipe (((wipe σ vs).set a x).set b y) vs = wipe σ vs := (wipe_set hb).trans ((wipe_set ha).trans wipe_wipe)
theorem wipe3 {σ : L2.St} {vs : List Nat} {a b c : Nat} {x y z : Option V} (ha : a ∈ vs) (hb : b ∈ vs) (hc : c ∈ vs) : wipe ((((wipe σ vs).set a x).set b y).set c z) vs = wipe σ vs := (wipe_set hc).trans (wipe2 ha hb)
/-! the walks with their targets: the slots' own clause has no tests; the state is told by what is looked up -/
theorem look3 {σ : L2.St} {vs : List Nat} {i1 i2 i3 : Nat} {y1 y2 y3 : V} (m1 : i1 ∈ vs) (m2 : i2 ∈ vs) (m3 : i3 ∈ vs) (d12 : i1 ≠ i2) (d13 : i1 ≠ i3) (d23 : i2 ≠ i3) (l1 : i1 < σ.length) (l2 : i2 < σ.length) (l3 : i3 < σ.length) :
    let τ := (((wipe σ vs).set i1 (some y1)).set i2 (some y2)).set i3 (some y3)
    τ.length = σ.length ∧ (∀ j, j ∉ vs → τ[j]? = σ[j]?) ∧ τ[i1]? = some (some y1) ∧ τ[i2]? = some (some y2) ∧ τ[i3]? = some (some y3) := by
  refine ⟨by rw [List.length_set, List.length_set, List.length_set, wipe_length], fun j hj => ?_, ?_, ?_, ?_⟩
  · rw [List.getElem?_set_ne (show i3 ≠ j from fun z => hj (by rw [← z]; exact m3)), List.getElem?_set_ne (show i2 ≠ j from fun z => hj (by rw [← z]; exact m2)), List.getElem?_set_ne (show i1 ≠ j from fun z => hj (by rw [← z]; exact m1)), wipe_get, if_neg (fun z => hj z.1)]
  · rw [List.getElem?_set_ne d13.symm, List.getElem?_set_ne d12.symm, List.getElem?_set, if_pos rfl, if_pos (by rw [wipe_length]; exact l1)]
  · rw [List.getElem?_set_ne d23.symm, List.getElem?_set, if_pos rfl, if_pos (by rw [List.length_set, wipe_length]; exact l2)]
  · rw [List.getElem?_set, if_pos rfl, if_pos (by rw [List.length_set, List.length_set, wipe_length]; exact l3)]
theorem look2 {σ : L2.St} {vs : List Nat} {i1 i2 : Nat} {y1 y2 : V} (m1 : i1 ∈ vs) (m2 : i2 ∈ vs) (d12 : i1 ≠ i2) (l1 : i1 < σ.length) (l2 : i2 < σ.length) :
    let τ := ((wipe σ vs).set i1 (some y1)).set i2 (some y2)
    τ.length = σ.length ∧ (∀ j, j ∉ vs → τ[j]? = σ[j]?) ∧ τ[i1]? = some (some y1) ∧ τ[i2]? = some (some y2) := by
  refine ⟨by rw [List.length_set, List.length_set, wipe_length], fun j hj => ?_, ?_, ?_⟩
  · rw [List.getElem?_set_ne (show i2 ≠ j from fun z => hj (by rw [← z]; exact m2)), List.getElem?_set_ne (show i1 ≠ j from fun z => hj (by rw [← z]; exact m1)), wipe_get, if_neg (fun z => hj z.1)]
  · rw [List.getElem?_set_ne d12.symm, List.getElem?_set, if_pos rfl, if_pos (by rw [wipe_length]; exact l1)]
  · rw [List.getElem?_set, if_pos rfl, if_pos (by rw [List.length_set, wipe_length]; exact l2)]
section
variable {K : PySem.W.Frag} {a : Addr} {xs : List V} {σ : L2.St} {vs : List Nat} {H : Hp} {N : Hp → Prop} {B : L2.St → Hp → (Hp → Prop) → Prop}
theorem walk_three {i1 i2 i3 : Nat} (m1 : i1 ∈ vs) (m2 : i2 ∈ vs) (m3 : i3 ∈ vs) (d12 : i1 ≠ i2) (d13 : i1 ≠ i3) (d23 : i2 ≠ i3) (l1 : i1 < σ.length) (l2 : i2 < σ.length) (l3 : i3 < σ.length) (Pv : Nat → Hp → Prop) (h0 : Pv 0 H) (hq : ∀ i H, Pv i H → SqT K H a xs)
    (hs : ∀ i x H, xs[i]? = some x → Pv i H → ∃ p y1 y2 y3, x = .ref p ∧ SqT K H p [y1, y2, y3] ∧ ∀ τ : L2.St, τ.length = σ.length → (∀ j, j ∉ vs → τ[j]? = σ[j]?) → τ[i1]? = some (some y1) → τ[i2]? = some (some y2) → τ[i3]? = some (some y3) → B τ H (Pv (i + 1))) (hd : ∀ H, Pv xs.length H → N H) :
    ∃ W : Nat → Nat → Hp → Prop, (∃ m, W 0 m H) ∧ ∀ i m H, W i m H → ((Itt K a).stop i H ∧ N H) ∨ ((Itt K a).go i H ∧ ∃ Nx : Hp → Prop, (∀ H', Nx H' → ∃ m', m' < m ∧ W (i + 1) m' H') ∧ ∀ x H', (Itt K a).yld i H x H' → gTup K 3 (gCons (gName i1) (gCons (gName i2) (gCons (gName i3) gNil))) x (wipe σ vs) H' fun σ2 H2 => wipe σ2 vs = wipe σ vs ∧ tYes σ2 H2 fun b H3 =>
      if b = true then B σ2 H3 Nx else Nx H3) := by
  refine walk_tup Pv h0 hq (fun i x H hx p => ?_) hd
  obtain ⟨q, y1, y2, y3, e, sq, b⟩ := hs i x H hx p
  obtain ⟨e0, e1, e2, e3, e4⟩ := look3 (y1 := y1) (y2 := y2) (y3 := y3) m1 m2 m3 d12 d13 d23 l1 l2 l3
  exact ⟨q, _, e, sq, rfl, _, _, rfl, _, _, rfl, _, _, rfl, rfl, wipe3 m1 m2 m3, b _ e0 e1 e2 e3 e4⟩
theorem walk_enum_pair {c : Int} {i1 i2 i3 : Nat} (m1 : i1 ∈ vs) (m2 : i2 ∈ vs) (m3 : i3 ∈ vs) (d12 : i1 ≠ i2) (d13 : i1 ≠ i3) (d23 : i2 ≠ i3) (l1 : i1 < σ.length) (l2 : i2 < σ.length) (l3 : i3 < σ.length) (Pv : Nat → Hp → Prop) (h0 : Pv 0 H) (hq : ∀ i H, Pv i H → SqT K H a xs)
    (hs : ∀ i x T H, xs[i]? = some x → Pv i H → H T = none → ∃ p y1 y2, x = .ref p ∧ SqT K (upd H T (.tup [.int (c + (i : Nat)), x])) p [y1, y2] ∧ ∀ τ : L2.St, τ.length = σ.length → (∀ j, j ∉ vs → τ[j]? = σ[j]?) → τ[i1]? = some (some (.int (c + (i : Nat)))) → τ[i2]? = some (some y1) → τ[i3]? = some (some y2) → B τ (upd H T (.tup [.int (c + (i : Nat)), x])) (Pv (i + 1))) (hd : ∀ H, Pv xs.length H → N H) :
    ∃ W : Nat → Nat → Hp → Prop, (∃ m, W 0 m H) ∧ ∀ i m H, W i m H → ((Itd K a c).stop i H ∧ N H) ∨ ((Itd K a c).go i H ∧ ∃ Nx : Hp → Prop, (∀ H', Nx H' → ∃ m', m' < m ∧ W (i + 1) m' H') ∧ ∀ x H', (Itd K a c).yld i H x H' → gTup K 2 (gCons (gName i1) (gCons (gTup K 2 (gCons (gName i2) (gCons (gName i3) gNil))) gNil)) x (wipe σ vs) H' fun σ2 H2 => wipe σ2 vs = wipe σ vs ∧ tYes σ2 H2 fun b H3 =>
      if b = true then B σ2 H3 Nx else Nx H3) := by
  refine walk_enum Pv h0 hq (fun i x T H hx p nT => ?_) hd
  obtain ⟨q, y1, y2, e, sq, b⟩ := hs i x T H hx p nT
  obtain ⟨e0, e1, e2, e3, e4⟩ := look3 (y1 := .int (c + (i : Nat))) (y2 := y1) (y3 := y2) m1 m2 m3 d12 d13 d23 l1 l2 l3
  exact ⟨T, _, rfl, .inl (.inl upd_same), rfl, _, _, rfl, _, _, rfl, q, _, e, sq, rfl, _, _, rfl, _, _, rfl, rfl, rfl, wipe3 m1 m2 m3, b _ e0 e1 e2 e3 e4⟩
theorem walk_enum_two {c : Int} {i1 i2 : Nat} (m1 : i1 ∈ vs) (m2 : i2 ∈ vs) (d12 : i1 ≠ i2) (l1 : i1 < σ.length) (l2 : i2 < σ.length) (Pv : Nat → Hp → Prop) (h0 : Pv 0 H) (hq : ∀ i H, Pv i H → SqT K H a xs)
    (hs : ∀ i x T H, xs[i]? = some x → Pv i H → H T = none → ∀ τ : L2.St, τ.length = σ.length → (∀ j, j ∉ vs → τ[j]? = σ[j]?) → τ[i1]? = some (some (.int (c + (i : Nat)))) → τ[i2]? = some (some x) → B τ (upd H T (.tup [.int (c + (i : Nat)), x])) (Pv (i + 1))) (hd : ∀ H, Pv xs.length H → N H) :
    ∃ W : Nat → Nat → Hp → Prop, (∃ m, W 0 m H) ∧ ∀ i m H, W i m H → ((Itd K a c).stop i H ∧ N H) ∨ ((Itd K a c).go i H ∧ ∃ Nx : Hp → Prop, (∀ H', Nx H' → ∃ m', m' < m ∧ W (i + 1) m' H') ∧ ∀ x H', (Itd K a c).yld i H x H' → gTup K 2 (gCons (gName i1) (gCons (gName i2) gNil)) x (wipe σ vs) H' fun σ2 H2 => wipe σ2 vs = wipe σ vs ∧ tYes σ2 H2 fun b H3 =>
      if b = true then B σ2 H3 Nx else Nx H3) := by
  refine walk_enum Pv h0 hq (fun i x T H hx p nT => ?_) hd
  obtain ⟨e0, e1, e2, e3⟩ := look2 (y1 := .int (c + (i : Nat))) (y2 := x) m1 m2 d12 l1 l2
  exact ⟨T, _, rfl, .inl (.inl upd_same), rfl, _, _, rfl, _, _, rfl, rfl, wipe2 m1 m2, hs i x T H hx p nT _ e0 e1 e2 e3⟩
end
end EnumT

/-! walks of a comprehension's clauses with their tests -/
namespace EnumT
open PySem PySem.Spec PyProof.Rows L2
section
variable {K : PySem.W.Frag} {a : Addr} {xs : List V} {σ : L2.St} {vs : List Nat} {H : Hp} {N : Hp → Prop} {B : L2.St → Hp → (Hp → Prop) → Prop} {tt : TT}
theorem walk_threeT {i1 i2 i3 : Nat} (m1 : i1 ∈ vs) (m2 : i2 ∈ vs) (m3 : i3 ∈ vs) (d12 : i1 ≠ i2) (d13 : i1 ≠ i3) (d23 : i2 ≠ i3) (l1 : i1 < σ.length) (l2 : i2 < σ.length) (l3 : i3 < σ.length) (Pv : Nat → Hp → Prop) (h0 : Pv 0 H) (hq : ∀ i H, Pv i H → SqT K H a xs)
    (hs : ∀ i x H, xs[i]? = some x → Pv i H → ∃ p y1 y2 y3, x = .ref p ∧ SqT K H p [y1, y2, y3] ∧ ∀ τ : L2.St, τ.length = σ.length → (∀ j, j ∉ vs → τ[j]? = σ[j]?) → τ[i1]? = some (some y1) → τ[i2]? = some (some y2) → τ[i3]? = some (some y3) → tt τ H fun b H3 => if b = true then B τ H3 (Pv (i + 1)) else Pv (i + 1) H3) (hd : ∀ H, Pv xs.length H → N H) :
    ∃ W : Nat → Nat → Hp → Prop, (∃ m, W 0 m H) ∧ ∀ i m H, W i m H → ((Itt K a).stop i H ∧ N H) ∨ ((Itt K a).go i H ∧ ∃ Nx : Hp → Prop, (∀ H', Nx H' → ∃ m', m' < m ∧ W (i + 1) m' H') ∧ ∀ x H', (Itt K a).yld i H x H' → gTup K 3 (gCons (gName i1) (gCons (gName i2) (gCons (gName i3) gNil))) x (wipe σ vs) H' fun σ2 H2 => wipe σ2 vs = wipe σ vs ∧ tt σ2 H2 fun b H3 =>
      if b = true then B σ2 H3 Nx else Nx H3) := by
  refine walk_tup Pv h0 hq (fun i x H hx p => ?_) hd
  obtain ⟨q, y1, y2, y3, e, sq, b⟩ := hs i x H hx p
  obtain ⟨e0, e1, e2, e3, e4⟩ := look3 (y1 := y1) (y2 := y2) (y3 := y3) m1 m2 m3 d12 d13 d23 l1 l2 l3
  exact ⟨q, _, e, sq, rfl, _, _, rfl, _, _, rfl, _, _, rfl, rfl, wipe3 m1 m2 m3, b _ e0 e1 e2 e3 e4⟩
theorem walk_twoT {i1 i2 : Nat} (m1 : i1 ∈ vs) (m2 : i2 ∈ vs) (d12 : i1 ≠ i2) (l1 : i1 < σ.length) (l2 : i2 < σ.length) (Pv : Nat → Hp → Prop) (h0 : Pv 0 H) (hq : ∀ i H, Pv i H → SqT K H a xs)
    (hs : ∀ i x H, xs[i]? = some x → Pv i H → ∃ p y1 y2, x = .ref p ∧ SqT K H p [y1, y2] ∧ ∀ τ : L2.St, τ.length = σ.length → (∀ j, j ∉ vs → τ[j]? = σ[j]?) → τ[i1]? = some (some y1) → τ[i2]? = some (some y2) → tt τ H fun b H3 => if b = true then B τ H3 (Pv (i + 1)) else Pv (i + 1) H3) (hd : ∀ H, Pv xs.length H → N H) :
    ∃ W : Nat → Nat → Hp → Prop, (∃ m, W 0 m H) ∧ ∀ i m H, W i m H → ((Itt K a).stop i H ∧ N H) ∨ ((Itt K a).go i H ∧ ∃ Nx : Hp → Prop, (∀ H', Nx H' → ∃ m', m' < m ∧ W (i + 1) m' H') ∧ ∀ x H', (Itt K a).yld i H x H' → gTup K 2 (gCons (gName i1) (gCons (gName i2) gNil)) x (wipe σ vs) H' fun σ2 H2 => wipe σ2 vs = wipe σ vs ∧ tt σ2 H2 fun b H3 =>
      if b = true then B σ2 H3 Nx else Nx H3) := by
  refine walk_tup Pv h0 hq (fun i x H hx p => ?_) hd
  obtain ⟨q, y1, y2, e, sq, b⟩ := hs i x H hx p
  obtain ⟨e0, e1, e2, e3⟩ := look2 (y1 := y1) (y2 := y2) m1 m2 d12 l1 l2
  exact ⟨q, _, e, sq, rfl, _, _, rfl, _, _, rfl, rfl, wipe2 m1 m2, b _ e0 e1 e2 e3⟩
end
end EnumT

namespace SumT
open PySem PySem.Spec PyProof.Rows L2
variable {X : Cx}
/-- sum(xs) of a tuple of ints -/
def rSumT (K : PySem.W.Frag) : List V → Hp → VK → Prop := fun vs H Q => ∃ (a : Addr) (ns : List Int), vs = [V.ref a] ∧ SqT K H a (ns.map V.int) ∧ Q (.int ns.sum) H
theorem cr_sumT (hc : X.calm = true) : CallR X (.builtin "sum") (rSumT X.K) := by
  intro pins s σ H vs us Q I r h
  obtain ⟨a, ns, rfl, hs, q⟩ := h
  obtain ⟨its, rv, hl, _⟩ := I.tuple hs
  rw [Vals.ref1 r]
  have hi := rv.ints
  obtain ⟨xs, e⟩ := hi.allInts.items
  have hn : numsOf (intItems xs).toList = ns := by rw [← e]; exact hi.numsOf
  rw [nums_intItems] at hn
  have ht : s.heap.IsTuple a (intItems xs) := by rw [← e]; exact hl
  refine PySem.W.ktm_sumG (I.ok.hd hc) ht fun h' tk t' hk => ?_
  rw [preSum_eq, List.take_of_length_le (by simp), hn]
  exact ⟨.int _, H, I.kept hk, ⟨_, rfl⟩, q⟩
end SumT

namespace Tw
open PySem PySem.Spec PyProof.Rows L2
/-! what the laws' helpers do to the heap: the draws at d shrink, all else stands -/
def DrA (H : Hp) (d : Addr) : Prop := ∃ ns : List Int, H d = some (.lst (ns.map V.int))
structure Dr (d : Addr) (H H' : Hp) : Prop where
  keep : ∀ b o, b ≠ d → H b = some o → H' b = some o
  at_ : DrA H' d
theorem Dr.refl {d : Addr} {H : Hp} (h : DrA H d) : Dr d H H := ⟨fun _ _ _ e => e, h⟩
theorem Dr.trans {d : Addr} {H H1 H2 : Hp} (a : Dr d H H1) (b : Dr d H1 H2) : Dr d H H2 := ⟨fun c o n e => b.keep c o n (a.keep c o n e), b.at_⟩
theorem Dr.then {d : Addr} {H H1 H2 : Hp} (a : Dr d H H1) (b : Same H1 H2) : Dr d H H2 := ⟨fun c o n e => b c o (a.keep c o n e), let ⟨ns, q⟩ := a.at_; ⟨ns, b d _ q⟩⟩
theorem Dr.of {d : Addr} {H H1 : Hp} (h : DrA H d) (b : Same H H1) : Dr d H H1 := (Dr.refl h).then b
theorem Dr.free {d : Addr} {H H' : Hp} (a : Dr d H H') (h : DrA H d) {l : Addr} (n : H' l = none) : H l = none := by
  cases q : H l with
  | none => rfl
  | some o =>
    by_cases e : l = d
    · obtain ⟨_, z⟩ := a.at_
      rw [e, z] at n
      cases n
    · rw [a.keep l o e q] at n
      cases n
theorem Dr.ne {d : Addr} {H H' : Hp} (a : Dr d H H') {l : Addr} (n : H' l = none) : l ≠ d := fun e => by
  obtain ⟨_, z⟩ := a.at_
  rw [e, z] at n
  cases n
theorem Dr.seq {K : PySem.W.Frag} {d a : Addr} {H H' : Hp} {xs : List V} (r : Dr d H H') (ne : a ≠ d) (h : SqL K H a xs) : SqL K H' a xs := by
  rcases h with (h | ⟨o, h⟩) | h
  · exact .inl (.inl (r.keep _ _ ne h))
  · exact .inl (.inr ⟨o, r.keep _ _ ne h⟩)
  · exact .inr h
theorem same_new {H : Hp} {p : Addr} {o : HO} (h : H p = none) : Same H (upd H p o) := fun b x e => by
  rw [upd_ne (ne_of_none e h)]
  exact e
theorem drA_upd {H : Hp} {d : Addr} (ns : List Int) : DrA (upd H d (.lst (ns.map V.int))) d := ⟨ns, upd_same⟩
theorem dr_upd {H : Hp} {d : Addr} (ns : List Int) : Dr d H (upd H d (.lst (ns.map V.int))) := ⟨fun b o n e => by rw [upd_ne n]; exact e, drA_upd ns⟩
theorem at_last {α : Type} {xs : List α} (h : xs ≠ []) : xs[xs.length - 1]? = some (xs.getLast h) := by
  rw [← List.getLast?_eq_getElem?, List.getLast?_eq_getLast h]
theorem map_at {ns : List Int} {i : Nat} (h : i < ns.length) : (ns.map V.int)[i]? = some (.int ns[i]) := by
  rw [List.getElem?_map, List.getElem?_eq_getElem h]
  rfl
theorem sline : (2000 : Nat) < sizeLine := by decide
theorem small {n : Nat} (h : n ≤ 2000) : n < sizeLine := Nat.lt_of_le_of_lt h sline
theorem small' {n : Nat} (h : n ≤ 2000) : n ≤ sizeLine := Nat.le_of_lt (small h)
theorem atI_z {α : Type} {xs : List α} {z : Int} {j : Nat} {v : α} (e : z = (j : Int)) (h : xs[j]? = some v) : atI xs z = some v := by
  rw [e]
  exact atI_nat h
theorem atI_pos {α : Type} {xs : List α} {z : Int} (h0 : 0 ≤ z) (h1 : z < xs.length) : atI xs z = some (xs[z.toNat]'(by omega)) :=
  atI_z (j := z.toNat) (by omega) (List.getElem?_eq_getElem (by omega))
theorem atM_pos {ns : List Int} {z : Int} (h0 : 0 ≤ z) (h1 : z < ns.length) : atI (ns.map V.int) z = some (.int (ns[z.toNat]'(by omega))) :=
  atI_z (j := z.toNat) (by omega) (map_at (by omega))
/-- an address that was not there at the beginning may be written -/
theorem Dr.keepNew {d p : Addr} {H H' : Hp} {o : HO} (r : Dr d H H') (ne : p ≠ d) (n : H p = none) : Dr d H (upd H' p o) :=
  ⟨fun b x nb e => by rw [upd_ne (ne_of_none e n)]; exact r.keep b x nb e, let ⟨ns, z⟩ := r.at_; ⟨ns, by rw [upd_ne ne.symm]; exact z⟩⟩
/-- the script is read behind every draw -/
theorem Dr.script {K : PySem.W.Frag} {d a : Addr} {H H1 H' : Hp} {xs : List V} (h : SqL K H a xs) (n : H d = none) (s : Same H H1) (r : Dr d H1 H') : SqL K H' a xs := by
  rcases h with (h | ⟨o, h⟩) | h
  · exact .inl (.inl (r.keep _ _ (ne_of_none h n) (s _ _ h)))
  · exact .inl (.inr ⟨o, r.keep _ _ (ne_of_none h n) (s _ _ h)⟩)
  · exact .inr h
theorem same_keep {H H' : Hp} {p : Addr} {o : HO} (s : Same H H') (n : H p = none) : Same H (upd H' p o) := fun b x e => by
  rw [upd_ne (ne_of_none e n)]
  exact s b x e

/-! a plan in the heap -/
structure Mt where
  name : Str
  low : Int
  high : Int
  err : Int
structure Pl where
  len : Int
  ms : List Mt
def MtAt (H : Hp) (t : Addr) (m : Mt) : Prop := H t = some (.tup [.str m.name, .int m.low, .int m.high, .int m.err])
structure PlanAt (H : Hp) (p tm : Addr) (ts : List Addr) (P : Pl) : Prop where
  top : H p = some (.tup [.int P.len, .ref tm])
  mid : H tm = some (.tup (ts.map V.ref))
  low : Paired (MtAt H) ts P.ms
/-- the names in the order of the alphabet, each once -/
def Risen (l : List Str) : Prop := sortedS l = true ∧ l.Nodup
structure MtOk (c : Int) (m : Mt) : Prop where
  order : m.low ≤ m.high
  err0 : 0 ≤ m.err
  err1 : m.err ≤ 60
  lowB : m.low.natAbs ≤ c.natAbs + 3
  highB : m.high.natAbs ≤ 2 * c.natAbs + 3 + 10 ^ 20
structure PlanOk (c : Int) (P : Pl) : Prop where
  len : 1 ≤ P.len
  lenB : P.len ≤ c.natAbs + 60
  some_ : P.ms ≠ []
  few : P.ms.length ≤ 6
  risen : Risen (P.ms.map Mt.name)
  each : ∀ m ∈ P.ms, MtOk c m
theorem Dr.tup {d t : Addr} {H H' : Hp} {xs : List V} (r : Dr d H H') (h : DrA H d) (e : H t = some (.tup xs)) : H' t = some (.tup xs) := by
  obtain ⟨ns, z⟩ := h
  exact r.keep _ _ (ne_of e z (fun q => nomatch q)) e
theorem Dr.mts {d : Addr} {H H' : Hp} (r : Dr d H H') (h : DrA H d) : ∀ {ts : List Addr} {ms : List Mt}, Paired (MtAt H) ts ms → Paired (MtAt H') ts ms
  | _, _, .nil => .nil
  | _, _, .cons a b => .cons (r.tup h a) (Dr.mts r h b)
theorem Dr.plan {d p tm : Addr} {H H' : Hp} {ts : List Addr} {P : Pl} (r : Dr d H H') (h : DrA H d) (x : PlanAt H p tm ts P) : PlanAt H' p tm ts P := ⟨r.tup h x.top, r.tup h x.mid, r.mts h x.low⟩
theorem same_mts {H H' : Hp} (r : Same H H') : ∀ {ts : List Addr} {ms : List Mt}, Paired (MtAt H) ts ms → Paired (MtAt H') ts ms
  | _, _, .nil => .nil
  | _, _, .cons a b => .cons (r _ _ a) (same_mts r b)
theorem PlanAt.same {p tm : Addr} {H H' : Hp} {ts : List Addr} {P : Pl} (r : Same H H') (x : PlanAt H p tm ts P) : PlanAt H' p tm ts P := ⟨r _ _ x.top, r _ _ x.mid, same_mts r x.low⟩
theorem pick {xs : List Int} {vs : List V} {k : Int} (e : vs = xs.map V.int) (h0 : 0 ≤ k) (h1 : k < xs.length) : ∃ v, v ∈ xs ∧ atI vs k = some (.int v) := by
  rw [e]
  exact ⟨_, List.getElem_mem _, atM_pos h0 h1⟩
theorem abs_eq (c : Int) : (if c < 0 then -c else c) = (c.natAbs : Int) := by
  by_cases h : c < 0
  · rw [if_pos h]
    omega
  · rw [if_neg h]
    omega
theorem paired_snoc {α β : Type} {R : α → β → Prop} {xs : List α} {ys : List β} {a : α} {b : β} (h : Paired R xs ys) (r : R a b) : Paired R (xs ++ [a]) (ys ++ [b]) := h.snoc r
theorem map_snoc {ts : List Addr} {t : Addr} : ts.map V.ref ++ [V.ref t] = (ts ++ [t]).map V.ref := by
  rw [List.map_append]
  rfl
/-- a name: letters a to z, one or more, not many -/
def IsW (w : Str) : Prop := w.cps.toList ≠ [] ∧ (∀ c ∈ w.cps.toList, 97 ≤ c ∧ c ≤ 122) ∧ w.length ≤ 200
theorem mts_at {H : Hp} : ∀ {ts : List Addr} {ms : List Mt} {i : Nat} {t : Addr}, Paired (MtAt H) ts ms → ts[i]? = some t → ∃ m, ms[i]? = some m ∧ MtAt H t m
  | _, _, _, _, .nil, h => by simp at h
  | _, _, 0, _, .cons a _, h => by
    cases (Option.some.inj h)
    exact ⟨_, rfl, a⟩
  | _, _, i + 1, _, .cons _ r, h => mts_at (i := i) r h
def mtOf (H : Hp) (t : Addr) : Mt := match H t with
  | some (.tup [.str n, .int a, .int b, .int c]) => ⟨n, a, b, c⟩
  | _ => ⟨⟨#[]⟩, 0, 0, 0⟩
theorem mtOf_at {H : Hp} {t : Addr} {m : Mt} (h : MtAt H t m) : mtOf H t = m := by
  unfold mtOf
  rw [show H t = some (.tup [.str m.name, .int m.low, .int m.high, .int m.err]) from h]
theorem mts_map {H : Hp} : ∀ {ts : List Addr} {ms : List Mt}, Paired (MtAt H) ts ms → ms = ts.map (mtOf H) ∧ ∀ t ∈ ts, MtAt H t (mtOf H t)
  | _, _, .nil => ⟨rfl, fun _ z => nomatch z⟩
  | t :: ts, _ :: ms, .cons a r => by
    obtain ⟨e, k⟩ := mts_map r
    refine ⟨by rw [List.map_cons, mtOf_at a, ← e], fun x hx => ?_⟩
    rcases List.mem_cons.mp hx with rfl | z
    · rw [mtOf_at a]
      exact a
    · exact k x z
theorem mts_of {H : Hp} : ∀ (ts : List Addr), (∀ t ∈ ts, MtAt H t (mtOf H t)) → Paired (MtAt H) ts (ts.map (mtOf H))
  | [], _ => .nil
  | t :: ts, h => .cons (h t List.mem_cons_self) (mts_of ts fun x hx => h x (List.mem_cons_of_mem _ hx))
theorem refs_perm {ys : List V} {ts : List Addr} (p : ys.Perm (ts.map V.ref)) : ∃ us : List Addr, ys = us.map V.ref ∧ us.Perm ts := by
  have g : ∀ ys : List V, (∀ y ∈ ys, ∃ t, y = V.ref t) → ∃ us : List Addr, ys = us.map V.ref := by
    intro ys
    induction ys with
    | nil => exact fun _ => ⟨[], rfl⟩
    | cons y ys ih =>
      intro h
      obtain ⟨t, rfl⟩ := h y List.mem_cons_self
      obtain ⟨us, e⟩ := ih fun u hu => h u (List.mem_cons_of_mem _ hu)
      exact ⟨t :: us, by rw [e]; rfl⟩
  obtain ⟨us, rfl⟩ := g ys fun y hy => by
    obtain ⟨t, _, e⟩ := List.mem_map.mp (p.mem_iff.mp hy)
    exact ⟨t, e.symm⟩
  refine ⟨us, rfl, ?_⟩
  have q := p.map (fun v => match v with | .ref a => a | _ => 0)
  rw [List.map_map, List.map_map] at q
  have e : ∀ l : List Addr, l.map ((fun v => match v with | .ref a => a | _ => 0) ∘ V.ref) = l := fun l => by
    have : ((fun v => match v with | V.ref a => a | _ => 0) ∘ V.ref) = (id : Addr → Addr) := rfl
    rw [this, List.map_id]
  rw [e, e] at q
  exact q
theorem in_names {x : Str} : ∀ ns : List Str, inV (.str x) (ns.map V.str) = decide (x ∈ ns)
  | [] => by simp [inV]
  | n :: ns => by
    have ih := in_names (x := x) ns
    unfold inV at ih ⊢
    rw [List.map_cons, List.any_cons, ih]
    by_cases e : n = x
    · subst e
      simp [eqV]
    · have e1 : eqV (.str n) (.str x) = false := beq_eq_false_iff_ne.mpr e
      have e2 : ¬ x = n := fun z => e z.symm
      rw [e1, Bool.false_or, decide_eq_decide]
      simp [List.mem_cons, e2]
theorem flat_names (ns : List Str) : (ns.map V.str).all flatV = true := by
  rw [List.all_map, List.all_eq_true]
  exact fun _ _ => rfl

/-! a list or a tuple, walked -/
theorem pi_either {X : Cx} {tg l : Expr} {tl : TE} (hl : PE X l tl) : PI X tg l (fun σ H R => iList X.K tl σ H R ∨ iTup X.K tl σ H R) :=
  ⟨fun pins s σ H R I h => h.elim ((pi_list hl).run pins s σ H R I) ((pi_tup hl).run pins s σ H R I)⟩
/-! texts -/
theorem str_ext {a b : Str} (h : a.cps.toList = b.cps.toList) : a = b := by
  cases a with
  | mk x =>
    cases b with
    | mk y =>
      congr 1
      exact Array.ext' h
theorem cps_app (a b : Str) : (a ++ b).cps.toList = a.cps.toList ++ b.cps.toList := by
  show (a.cps ++ b.cps).toList = _
  simp
theorem len_app (a b : Str) : (a ++ b).length = a.length + b.length := by
  show (a.cps ++ b.cps).size = a.cps.size + b.cps.size
  simp
theorem app_assoc (a b c : Str) : a ++ b ++ c = a ++ (b ++ c) := str_ext (by simp only [cps_app, List.append_assoc])
theorem app_empty (a : Str) : a ++ Str.empty = a := str_ext (by rw [cps_app]; exact List.append_nil _)
theorem empty_app (a : Str) : Str.empty ++ a = a := str_ext (by rw [cps_app]; rfl)
/-! letters of a bag -/
inductive Lt where
  | read (n : Str) (slot ver at_ : Int) (v : Option Int)
  | close (n : Str) (aft at_ wit : Int)
  | clock (n : Str) (lo hi : Int)
def optV : Option Int → V
  | none => .non
  | some i => .int i
def Lt.vals : Lt → List V
  | .read n s v a x => [.str "read", .str n, .int s, .int v, .int a, optV x]
  | .close n f a w => [.str "close", .str n, .int f, .int a, .int w]
  | .clock n l h => [.str "clock", .str n, .int l, .int h]
def Lt.name : Lt → Str
  | .read n _ _ _ _ => n
  | .close n _ _ _ => n
  | .clock n _ _ => n
abbrev intT (i : Int) : Str := ((toString i : String) : Str)
def optT : Option Int → Str
  | none => "void"
  | some i => intT i
def Lt.words : Lt → List Str
  | .read n s v a x => ["read", n, "slot", intT s, "version", intT v, "at", intT a, "is", optT x]
  | .close n f a w => ["close", n, "after", intT f, "at", intT a, "with", intT w]
  | .clock n l h => ["clock", n, "from", intT l, "to", intT h]
def Lt.line (l : Lt) : Str := Txt.join " " l.words
/-- a number of at most 60 digits -/
def Nr (i : Int) : Prop := i.natAbs < 10 ^ 60
def Lt.Ok : Lt → Prop
  | .read n s v a x => IsW n ∧ 1 ≤ s ∧ 0 ≤ v ∧ Nr s ∧ Nr v ∧ Nr a ∧ ∀ i, x = some i → Nr i
  | .close n f a w => IsW n ∧ 0 ≤ f ∧ 0 ≤ w ∧ Nr f ∧ Nr a ∧ Nr w
  | .clock n l h => IsW n ∧ Nr l ∧ Nr h
def LtAt (H : Hp) (t : Addr) (l : Lt) : Prop := H t = some (.tup l.vals)
theorem Nr.log {i : Int} (h : Nr i) : i.natAbs.log2 < 1920 := by
  by_cases e : i.natAbs = 0
  · rw [e]
    decide
  · refine (Nat.log2_lt e).mpr (Nat.lt_trans h ?_)
    decide
theorem Nr.len {i : Int} (h : Nr i) : (intT i).length ≤ 61 := by
  have e := int_text_length_le10 (k := 60) (by decide) h
  show (Str.ofString (toString i)).length ≤ 61
  rw [PySem.ofString_length]
  exact e
theorem optT_len {x : Option Int} (h : ∀ i, x = some i → Nr i) : (optT x).length ≤ 61 := by
  cases x with
  | none => decide +kernel
  | some i => exact (h i rfl).len
/-- the line of a letter and its newline -/
def Lt.row (l : Lt) : Str := l.line ++ ("\n" : Str)
def rows (ls : List Lt) : Str := Txt.join "" (ls.map Lt.row)
theorem join_one (s a : Str) : Txt.join s [a] = a := rfl
theorem line_read (n : Str) (s v a : Int) (x : Option Int) : (Lt.read n s v a x).line = ("read " : Str) ++ n ++ (" slot " : Str) ++ intT s ++ (" version " : Str) ++ intT v ++ (" at " : Str) ++ intT a ++ (" is " : Str) ++ optT x := by
  have c1 : ("read " : Str) = ("read" : Str) ++ (" " : Str) := by decide +kernel
  have c2 : (" slot " : Str) = (" " : Str) ++ ("slot" : Str) ++ (" " : Str) := by decide +kernel
  have c3 : (" version " : Str) = (" " : Str) ++ ("version" : Str) ++ (" " : Str) := by decide +kernel
  have c4 : (" at " : Str) = (" " : Str) ++ ("at" : Str) ++ (" " : Str) := by decide +kernel
  have c5 : (" is " : Str) = (" " : Str) ++ ("is" : Str) ++ (" " : Str) := by decide +kernel
  rw [c1, c2, c3, c4, c5]
  show ("read" : Str) ++ (" " : Str) ++ n ++ (" " : Str) ++ ("slot" : Str) ++ (" " : Str) ++ intT s ++ (" " : Str) ++ ("version" : Str) ++ (" " : Str) ++ intT v ++ (" " : Str) ++ ("at" : Str) ++ (" " : Str) ++ intT a ++ (" " : Str) ++ ("is" : Str) ++ (" " : Str) ++ optT x = _
  simp only [app_assoc]
theorem line_close (n : Str) (f a w : Int) : (Lt.close n f a w).line = ("close " : Str) ++ n ++ (" after " : Str) ++ intT f ++ (" at " : Str) ++ intT a ++ (" with " : Str) ++ intT w := by
  have c1 : ("close " : Str) = ("close" : Str) ++ (" " : Str) := by decide +kernel
  have c2 : (" after " : Str) = (" " : Str) ++ ("after" : Str) ++ (" " : Str) := by decide +kernel
  have c4 : (" at " : Str) = (" " : Str) ++ ("at" : Str) ++ (" " : Str) := by decide +kernel
  have c5 : (" with " : Str) = (" " : Str) ++ ("with" : Str) ++ (" " : Str) := by decide +kernel
  rw [c1, c2, c4, c5]
  show ("close" : Str) ++ (" " : Str) ++ n ++ (" " : Str) ++ ("after" : Str) ++ (" " : Str) ++ intT f ++ (" " : Str) ++ ("at" : Str) ++ (" " : Str) ++ intT a ++ (" " : Str) ++ ("with" : Str) ++ (" " : Str) ++ intT w = _
  simp only [app_assoc]
theorem line_clock (n : Str) (l h : Int) : (Lt.clock n l h).line = ("clock " : Str) ++ n ++ (" from " : Str) ++ intT l ++ (" to " : Str) ++ intT h := by
  have c1 : ("clock " : Str) = ("clock" : Str) ++ (" " : Str) := by decide +kernel
  have c2 : (" from " : Str) = (" " : Str) ++ ("from" : Str) ++ (" " : Str) := by decide +kernel
  have c4 : (" to " : Str) = (" " : Str) ++ ("to" : Str) ++ (" " : Str) := by decide +kernel
  rw [c1, c2, c4]
  show ("clock" : Str) ++ (" " : Str) ++ n ++ (" " : Str) ++ ("from" : Str) ++ (" " : Str) ++ intT l ++ (" " : Str) ++ ("to" : Str) ++ (" " : Str) ++ intT h = _
  simp only [app_assoc]
theorem Lt.Ok.word {l : Lt} (h : l.Ok) : IsW l.name := by
  cases l <;> exact h.1
theorem Lt.Ok.row_len {l : Lt} (h : l.Ok) : l.row.length ≤ 1000 := by
  show (l.line ++ ("\n" : Str)).length ≤ 1000
  have w := h.word.2.2
  have k1 : (("\n" : Str)).length ≤ 10 := by decide +kernel
  cases l with
  | read n s v a x =>
    obtain ⟨_, _, _, a1, a2, a3, a4⟩ := h
    have b1 := a1.len
    have b2 := a2.len
    have b3 := a3.len
    have b4 := optT_len a4
    have d1 : (("read " : Str)).length ≤ 10 := by decide +kernel
    have d2 : ((" slot " : Str)).length ≤ 10 := by decide +kernel
    have d3 : ((" version " : Str)).length ≤ 10 := by decide +kernel
    have d4 : ((" at " : Str)).length ≤ 10 := by decide +kernel
    have d5 : ((" is " : Str)).length ≤ 10 := by decide +kernel
    have w' : n.length ≤ 200 := w
    rw [line_read]
    simp only [len_app]
    omega
  | close n f a v =>
    obtain ⟨_, _, _, a1, a2, a3⟩ := h
    have b1 := a1.len
    have b2 := a2.len
    have b3 := a3.len
    have d1 : (("close " : Str)).length ≤ 10 := by decide +kernel
    have d2 : ((" after " : Str)).length ≤ 10 := by decide +kernel
    have d3 : ((" with " : Str)).length ≤ 10 := by decide +kernel
    have d4 : ((" at " : Str)).length ≤ 10 := by decide +kernel
    have w' : n.length ≤ 200 := w
    rw [line_close]
    simp only [len_app]
    omega
  | clock n lo hi =>
    obtain ⟨_, a1, a2⟩ := h
    have b1 := a1.len
    have b2 := a2.len
    have d1 : (("clock " : Str)).length ≤ 10 := by decide +kernel
    have d2 : ((" from " : Str)).length ≤ 10 := by decide +kernel
    have d3 : ((" to " : Str)).length ≤ 10 := by decide +kernel
    have w' : n.length ≤ 200 := w
    rw [line_clock]
    simp only [len_app]
    omega
theorem isW_no10 {n : Str} (h : IsW n) : 10 ∉ n.cps.toList := fun z => by
  have := h.2.1 10 z
  omega
theorem int_no10 (i : Int) : 10 ∉ (intT i).cps.toList := PyProof.Rows.int_text_free' 10 ⟨by decide, .inl (by decide)⟩ i
theorem opt_no10 (x : Option Int) : 10 ∉ (optT x).cps.toList := by
  cases x with
  | none => decide +kernel
  | some i => exact int_no10 i
theorem Lt.Ok.no10 {l : Lt} (h : l.Ok) : 10 ∉ l.line.cps.toList := by
  have w := isW_no10 h.word
  cases l with
  | read n s v a x =>
    have w' : 10 ∉ n.cps.toList := w
    rw [line_read]
    simp only [cps_app, List.mem_append, not_or]
    exact ⟨⟨⟨⟨⟨⟨⟨⟨⟨by decide +kernel, w'⟩, by decide +kernel⟩, int_no10 _⟩, by decide +kernel⟩, int_no10 _⟩, by decide +kernel⟩, int_no10 _⟩, by decide +kernel⟩, opt_no10 _⟩
  | close n f a v =>
    have w' : 10 ∉ n.cps.toList := w
    rw [line_close]
    simp only [cps_app, List.mem_append, not_or]
    exact ⟨⟨⟨⟨⟨⟨⟨by decide +kernel, w'⟩, by decide +kernel⟩, int_no10 _⟩, by decide +kernel⟩, int_no10 _⟩, by decide +kernel⟩, int_no10 _⟩
  | clock n lo hi =>
    have w' : 10 ∉ n.cps.toList := w
    rw [line_clock]
    simp only [cps_app, List.mem_append, not_or]
    exact ⟨⟨⟨⟨⟨by decide +kernel, w'⟩, by decide +kernel⟩, int_no10 _⟩, by decide +kernel⟩, int_no10 _⟩
theorem rows_eq (ls : List Lt) : rows ls = Str.join "" (ls.map Lt.row) := PySem.StrLaws.glued_eq_join _ _
theorem rows_cons (l : Lt) (ls : List Lt) : rows (l :: ls) = l.row ++ rows ls := by
  rw [rows_eq, rows_eq]
  cases ls with
  | nil =>
    show l.row = l.row ++ Str.empty
    rw [app_empty]
  | cons m ms =>
    show l.row ++ ("" : Str) ++ Str.join "" (m.row :: ms.map Lt.row) = l.row ++ Str.join "" (m.row :: ms.map Lt.row)
    have e : ("" : Str) = Str.empty := by decide +kernel
    rw [e, app_empty]
theorem sum_rows : ∀ {ls : List Lt}, (∀ l ∈ ls, l.Ok) → ((ls.map Lt.row).map (·.length)).sum ≤ ls.length * 1000
  | [], _ => Nat.le_refl 0
  | l :: ls, h => by
    have a := (h l List.mem_cons_self).row_len
    have b := sum_rows (ls := ls) fun m hm => h m (List.mem_cons_of_mem _ hm)
    simp only [List.map_cons, List.sum_cons, List.length_cons]
    omega
theorem rows_fit {ls : List Lt} {n : Nat} (h : ∀ l ∈ ls, l.Ok) (hn : ls.length ≤ n) (h2 : n ≤ 16000) : ((ls.map Lt.row).map (·.length)).sum + (ls.map Lt.row).length * (("" : Str)).length ≤ 16777216 := by
  have a := sum_rows h
  have e : (("" : Str)).length = 0 := by decide +kernel
  rw [e, Nat.mul_zero, Nat.add_zero]
  omega
theorem same_lts {H H' : Hp} (r : Same H H') : ∀ {ts : List Addr} {ls : List Lt}, Paired (LtAt H) ts ls → Paired (LtAt H') ts ls
  | _, _, .nil => .nil
  | _, _, .cons a b => .cons (r _ _ a) (same_lts r b)
theorem Dr.lts {d : Addr} {H H' : Hp} (r : Dr d H H') (h : DrA H d) : ∀ {ts : List Addr} {ls : List Lt}, Paired (LtAt H) ts ls → Paired (LtAt H') ts ls
  | _, _, .nil => .nil
  | _, _, .cons a b => .cons (r.tup h a) (Dr.lts r h b)
theorem lts_at {H : Hp} : ∀ {ts : List Addr} {ls : List Lt} {i : Nat} {t : Addr}, Paired (LtAt H) ts ls → ts[i]? = some t → ∃ l, ls[i]? = some l ∧ LtAt H t l
  | _, _, _, _, .nil, h => by simp at h
  | _, _, 0, _, .cons a _, h => by
    cases (Option.some.inj h)
    exact ⟨_, rfl, a⟩
  | _, _, i + 1, _, .cons _ r, h => lts_at (i := i) r h
theorem nl_eq : ("\n" : Str) = ⟨#[10]⟩ := by decide +kernel
theorem find_nl {z : Str} {a b : List Nat} (h : z.cps.toList = a ++ 10 :: b) (h0 : 10 ∉ a) : Txt.find z "\n" = (a.length : Int) := by
  rw [nl_eq]
  have at_ : z.cps.toList[a.length]? = some 10 := by rw [h]; simp
  rcases PyProof.Rows.find_whole z ⟨#[10]⟩ with ⟨_, n⟩ | ⟨i, e, hi, n⟩
  · exact absurd ((StrLaws.subAt_one z 10 a.length).mpr at_) (n a.length)
  · have q := (StrLaws.subAt_one z 10 i).mp hi
    rw [e]
    rcases Nat.lt_trichotomy i a.length with z' | z' | z'
    · exfalso
      rw [h, List.getElem?_append_left z', List.getElem?_eq_getElem z'] at q
      exact h0 (by rw [← Option.some.inj q]; exact List.getElem_mem z')
    · rw [z']
    · exact absurd ((StrLaws.subAt_one z 10 a.length).mpr at_) (n a.length z')
theorem find_nil : Txt.find Str.empty "\n" = -1 := by
  rw [nl_eq]
  rcases PyProof.Rows.find_whole Str.empty ⟨#[10]⟩ with ⟨e, _⟩ | ⟨i, e, hi, n⟩
  · exact e
  · have q := (StrLaws.subAt_one Str.empty 10 i).mp hi
    exact absurd q (by simp [Str.empty])
theorem cut_to (z : Str) (k : Nat) : cutS z none (some (k : Int)) = ⟨(z.cps.toList.take k).toArray⟩ := by
  have e : z.cps.size = z.cps.toList.length := by simp
  show Str.mk ((z.cps.toList.drop (HT.sIx z.length 0 none)).take (HT.sIx z.length z.length (some (k : Int)) - HT.sIx z.length 0 none)).toArray = _
  rw [HT.sIx_none, HT.sIx_nat, List.drop_zero, Nat.sub_zero]
  have e2 : z.cps.toList.take (min k z.length) = z.cps.toList.take k := by
    show z.cps.toList.take (min k z.cps.size) = _
    rw [e, ← List.take_eq_take_min]
  rw [e2]
/-- a text up to its first newline -/
theorem cut_find {ls : List Lt} (ok : ∀ l ∈ ls, l.Ok) : cutS (rows ls) none (some (Txt.find (rows ls) "\n" + 1)) = rows (ls.take 1) := by
  cases ls with
  | nil =>
    show cutS (rows []) none (some (Txt.find Str.empty "\n" + 1)) = rows []
    rw [find_nil]
    show cutS (rows []) none (some ((0 : Nat) : Int)) = rows []
    rw [cut_to]
    rfl
  | cons l r =>
    have e : (rows (l :: r)).cps.toList = l.line.cps.toList ++ 10 :: (rows r).cps.toList := by
      rw [rows_cons, cps_app]
      show (l.line ++ ("\n" : Str)).cps.toList ++ _ = _
      rw [cps_app, nl_eq, List.append_assoc]
      rfl
    rw [find_nl e (ok l List.mem_cons_self).no10]
    have c : ((l.line.cps.toList.length : Int) + 1) = ((l.line.cps.toList.length + 1 : Nat) : Int) := by omega
    rw [c, cut_to, e]
    show _ = rows [l]
    rw [rows_cons]
    show _ = l.row ++ Str.empty
    rw [app_empty]
    refine str_ext ?_
    show (((l.line.cps.toList ++ 10 :: (rows r).cps.toList).take (l.line.cps.toList.length + 1)).toArray).toList = (l.line ++ ("\n" : Str)).cps.toList
    rw [cps_app, nl_eq, List.take_append]
    simp
    exact List.take_of_length_le (by simp)
/-- lists cut and put one behind the other -/
theorem paired_take {α β : Type} {R : α → β → Prop} : ∀ {us : List α} {ls : List β} (k : Nat), Paired R us ls → Paired R (us.take k) (ls.take k)
  | _, _, 0, _ => by simp only [List.take_zero]; exact .nil
  | _, _, k + 1, .nil => .nil
  | _, _, k + 1, .cons a b => .cons a (paired_take k b)
theorem paired_app {α β : Type} {R : α → β → Prop} : ∀ {us : List α} {ls : List β} {us' : List α} {ls' : List β}, Paired R us ls → Paired R us' ls' → Paired R (us ++ us') (ls ++ ls')
  | _, _, _, _, .nil, h => h
  | _, _, _, _, .cons a b, h => .cons a (paired_app b h)
theorem paired_rep {α β : Type} {R : α → β → Prop} {us : List α} {ls : List β} (h : Paired R us ls) : ∀ k : Nat, Paired R (List.replicate k us).flatten (List.replicate k ls).flatten
  | 0 => .nil
  | k + 1 => paired_app h (paired_rep h k)
theorem map_rep {α β : Type} (f : α → β) (xs : List α) : ∀ k : Nat, (List.replicate k (xs.map f)).flatten = ((List.replicate k xs).flatten).map f
  | 0 => rfl
  | k + 1 => by
    show xs.map f ++ (List.replicate k (xs.map f)).flatten = (xs ++ (List.replicate k xs).flatten).map f
    rw [map_rep f xs k, List.map_append]
theorem mem_rep {α : Type} {xs : List α} {x : α} : ∀ {k : Nat}, x ∈ (List.replicate k xs).flatten → x ∈ xs
  | 0, h => by simp at h
  | k + 1, h => by
    have h' : x ∈ xs ++ (List.replicate k xs).flatten := h
    rcases List.mem_append.mp h' with z | z
    · exact z
    · exact mem_rep z
theorem len_rep {α : Type} (xs : List α) : ∀ k : Nat, ((List.replicate k xs).flatten).length = k * xs.length
  | 0 => by simp
  | k + 1 => by
    show (xs ++ (List.replicate k xs).flatten).length = _
    rw [List.length_append, len_rep xs k, Nat.succ_mul, Nat.add_comm]
theorem cutV_to (xs : List V) (k : Nat) : cutV xs none (some (k : Int)) = xs.take k := by
  show (xs.drop (HT.sIx xs.length 0 none)).take (HT.sIx xs.length xs.length (some (k : Int)) - HT.sIx xs.length 0 none) = _
  rw [HT.sIx_none, HT.sIx_nat, List.drop_zero, Nat.sub_zero, ← List.take_eq_take_min]
/-! letters as data -/
def optD : Option Int → PyData
  | none => .none
  | some i => .int i
def ltD : Lt → PyData
  | .read n s v a x => .tuple [.str "read", .str n, .int s, .int v, .int a, optD x]
  | .close n f a w => .tuple [.str "close", .str n, .int f, .int a, .int w]
  | .clock n l h => .tuple [.str "clock", .str n, .int l, .int h]
theorem opt_dp {K : PySem.W.Frag} {H : Hp} (x : Option Int) : Dp K H (optV x) (optD x) := by
  cases x with
  | none => exact .non
  | some i => exact .int i
theorem lt_dp {K : PySem.W.Frag} {H : Hp} {t : Addr} {l : Lt} (h : LtAt H t l) : Dp K H (.ref t) (ltD l) := by
  cases l with
  | read n s v a x => exact .tup (.inl (.inl h)) (.cons (.str _) (.cons (.str _) (.cons (.int _) (.cons (.int _) (.cons (.int _) (.cons (opt_dp x) .nil))))))
  | close n f a w => exact .tup (.inl (.inl h)) (.cons (.str _) (.cons (.str _) (.cons (.int _) (.cons (.int _) (.cons (.int _) .nil)))))
  | clock n l h' => exact .tup (.inl (.inl h)) (.cons (.str _) (.cons (.str _) (.cons (.int _) (.cons (.int _) .nil))))
theorem lts_dp {K : PySem.W.Frag} {H : Hp} : ∀ {ts : List Addr} {ls : List Lt}, Paired (LtAt H) ts ls → DpAll K H (ts.map V.ref) (ls.map ltD)
  | _, _, .nil => .nil
  | _, _, .cons a b => .cons (lt_dp a) (lts_dp b)
theorem isW_ok {n : Str} (h : IsW n) : PyData.strOk n = true := by
  unfold PyData.strOk
  rw [Array.all_eq_true]
  intro i hi
  have := h.2.1 n.cps[i] (by simp)
  exact decide_eq_true (by omega)
theorem lt_lay {l : Lt} (h : l.Ok) : (ltD l).canLay0 = true := by
  have w := isW_ok h.word
  cases l with
  | read n s v a x =>
    have w' : PyData.strOk n = true := w
    have k : PyData.strOk "read" = true := by decide +kernel
    cases x <;> simp [ltD, optD, PyData.canLay0, PyData.canLayAll0, w', k]
  | close n f a v =>
    have w' : PyData.strOk n = true := w
    have k : PyData.strOk "close" = true := by decide +kernel
    simp [ltD, PyData.canLay0, PyData.canLayAll0, w', k]
  | clock n lo hi =>
    have w' : PyData.strOk n = true := w
    have k : PyData.strOk "clock" = true := by decide +kernel
    simp [ltD, PyData.canLay0, PyData.canLayAll0, w', k]
theorem lt_deep (l : Lt) : (ltD l).depth = 1 := by
  cases l with
  | read n s v a x => cases x <;> rfl
  | close => rfl
  | clock => rfl
theorem lts_lay : ∀ {ls : List Lt}, (∀ l ∈ ls, l.Ok) → PyData.canLayAll0 (ls.map ltD) = true
  | [], _ => rfl
  | l :: ls, h => by
    show ((ltD l).canLay0 && PyData.canLayAll0 (ls.map ltD)) = true
    rw [lt_lay (h l List.mem_cons_self), lts_lay fun m hm => h m (List.mem_cons_of_mem _ hm)]
    rfl
theorem lts_deep : ∀ ls : List Lt, PyData.depthAll (ls.map ltD) ≤ 1
  | [] => Nat.zero_le _
  | l :: ls => by
    show max (ltD l).depth (PyData.depthAll (ls.map ltD)) ≤ 1
    rw [lt_deep]
    exact Nat.max_le.mpr ⟨Nat.le_refl _, lts_deep ls⟩
theorem bag_shaped {ls : List Lt} (h : ∀ l ∈ ls, l.Ok) : SeqAt.shaped (.list (ls.map ltD)) = true := by
  unfold SeqAt.shaped
  rw [Bool.and_eq_true]
  refine ⟨lts_lay h, decide_eq_true ?_⟩
  have := lts_deep ls
  show PyData.depthAll (ls.map ltD) + 1 ≤ 64
  omega
theorem bag_same {ls : List Lt} (h : ∀ l ∈ ls, l.Ok) : PyData.eqv (.list (ls.map ltD)) (.list (ls.map ltD)) = true := SeqAt.eqv_refl _ (lts_lay h)
/-- the words of the written form, as the module's dict has them -/
def WordsAt (K : PySem.W.Frag) (w : World) (a : Addr) : Prop := ∃ tr tc tk : Addr, KDct K w a "read" (.ref tr) ∧ KDct K w a "close" (.ref tc) ∧ KDct K w a "clock" (.ref tk) ∧
  (∀ H, SqT K H tr [.str "slot", .str "version", .str "at", .str "is"]) ∧ (∀ H, SqT K H tc [.str "after", .str "at", .str "with"]) ∧ ∀ H, SqT K H tk [.str "from", .str "to"]
def Lt.kind : Lt → Str
  | .read .. => "read"
  | .close .. => "close"
  | .clock .. => "clock"
def Lt.mid : Lt → List Str
  | .read .. => ["slot", "version", "at", "is"]
  | .close .. => ["after", "at", "with"]
  | .clock .. => ["from", "to"]
def Lt.nums : Lt → List (Option Int)
  | .read _ s v a x => [some s, some v, some a, x]
  | .close _ f a w => [some f, some a, some w]
  | .clock _ l h => [some l, some h]
theorem Lt.vals_eq (l : Lt) : l.vals = .str l.kind :: .str l.name :: l.nums.map optV := by
  cases l <;> rfl
/-- the parts of a line, up to the i-th number -/
def Lt.upto (l : Lt) (i : Nat) : List Str := l.kind :: l.name :: ((l.mid.zip (l.nums.map optT)).take i).flatMap fun p => [p.1, p.2]
theorem Lt.upto_all (l : Lt) : l.upto l.mid.length = l.words := by
  cases l <;> rfl
theorem Lt.mid_nums (l : Lt) : l.mid.length = l.nums.length := by
  cases l <;> rfl
theorem Lt.mid_le (l : Lt) : l.mid.length ≤ 4 := by
  cases l
  · exact (by decide : 4 ≤ 4)
  · exact (by decide : 3 ≤ 4)
  · exact (by decide : 2 ≤ 4)
theorem Lt.upto_succ {l : Lt} {i : Nat} {a : Str} {x : Option Int} (h1 : l.mid[i]? = some a) (h2 : l.nums[i]? = some x) : l.upto (i + 1) = l.upto i ++ [a] ++ [optT x] := by
  have e : (l.mid.zip (l.nums.map optT))[i]? = some (a, optT x) := by
    rw [List.getElem?_zip_eq_some]
    exact ⟨h1, by rw [List.getElem?_map, h2]; rfl⟩
  unfold Lt.upto
  rw [List.take_add_one, e, List.flatMap_append, ← List.cons_append, ← List.cons_append, List.append_assoc]
  rfl
theorem Lt.upto_len (l : Lt) (i : Nat) (h : i ≤ 4) : (l.upto i).length ≤ 10 := by
  have e : ∀ (m : List (Str × Str)), (m.flatMap fun p => [p.1, p.2]).length = 2 * m.length := fun m => by
    induction m with
    | nil => rfl
    | cons p r ih =>
      rw [List.flatMap_cons, List.length_append, ih]
      show 2 + 2 * r.length = 2 * (r.length + 1)
      omega
  show (((l.mid.zip (l.nums.map optT)).take i).flatMap fun p => [p.1, p.2]).length + 2 ≤ 10
  rw [e, List.length_take]
  omega
theorem Lt.Ok.nr {l : Lt} (h : l.Ok) : ∀ i, some i ∈ l.nums → Nr i := by
  cases l with
  | read n s v a x =>
    obtain ⟨_, _, _, a1, a2, a3, a4⟩ := h
    intro i hi
    simp only [Lt.nums, List.mem_cons, List.not_mem_nil, or_false, Option.some.injEq] at hi
    rcases hi with rfl | rfl | rfl | z
    · exact a1
    · exact a2
    · exact a3
    · exact a4 i z.symm
  | close n f a v =>
    obtain ⟨_, _, _, a1, a2, a3⟩ := h
    intro i hi
    simp only [Lt.nums, List.mem_cons, List.not_mem_nil, or_false, Option.some.injEq] at hi
    rcases hi with rfl | rfl | rfl
    · exact a1
    · exact a2
    · exact a3
  | clock n lo hi' =>
    obtain ⟨_, a1, a2⟩ := h
    intro i hi
    simp only [Lt.nums, List.mem_cons, List.not_mem_nil, or_false, Option.some.injEq] at hi
    rcases hi with rfl | rfl
    · exact a1
    · exact a2
theorem Lt.Ok.words_fit {l : Lt} (h : l.Ok) : (l.words.map (·.length)).sum + l.words.length * ((" " : Str)).length ≤ 16777216 := by
  have w := h.word.2.2
  have e0 : ((" " : Str)).length ≤ 10 := by decide +kernel
  have m0 : ∀ k : Nat, k ≤ 10 → k * ((" " : Str)).length ≤ 100 := fun k hk => Nat.le_trans (Nat.mul_le_mul hk e0) (by decide)
  cases l with
  | read n s v a x =>
    obtain ⟨_, _, _, a1, a2, a3, a4⟩ := h
    have b1 := a1.len
    have b2 := a2.len
    have b3 := a3.len
    have b4 := optT_len a4
    have d1 : (("read" : Str)).length ≤ 10 := by decide +kernel
    have d2 : (("slot" : Str)).length ≤ 10 := by decide +kernel
    have d3 : (("version" : Str)).length ≤ 10 := by decide +kernel
    have d4 : (("at" : Str)).length ≤ 10 := by decide +kernel
    have d5 : (("is" : Str)).length ≤ 10 := by decide +kernel
    have w' : n.length ≤ 200 := w
    have m := m0 10 (by decide)
    simp only [Lt.words, List.map_cons, List.map_nil, List.sum_cons, List.sum_nil, List.length_cons, List.length_nil]
    omega
  | close n f a v =>
    obtain ⟨_, _, _, a1, a2, a3⟩ := h
    have b1 := a1.len
    have b2 := a2.len
    have b3 := a3.len
    have d1 : (("close" : Str)).length ≤ 10 := by decide +kernel
    have d2 : (("after" : Str)).length ≤ 10 := by decide +kernel
    have d3 : (("with" : Str)).length ≤ 10 := by decide +kernel
    have d4 : (("at" : Str)).length ≤ 10 := by decide +kernel
    have w' : n.length ≤ 200 := w
    have m := m0 8 (by decide)
    simp only [Lt.words, List.map_cons, List.map_nil, List.sum_cons, List.sum_nil, List.length_cons, List.length_nil]
    omega
  | clock n lo hi =>
    obtain ⟨_, a1, a2⟩ := h
    have b1 := a1.len
    have b2 := a2.len
    have d1 : (("clock" : Str)).length ≤ 10 := by decide +kernel
    have d2 : (("from" : Str)).length ≤ 10 := by decide +kernel
    have d3 : (("to" : Str)).length ≤ 10 := by decide +kernel
    have w' : n.length ≤ 200 := w
    have m := m0 6 (by decide)
    simp only [Lt.words, List.map_cons, List.map_nil, List.sum_cons, List.sum_nil, List.length_cons, List.length_nil]
    omega
theorem lts_kept {H H' : Hp} (k : ∀ b xs, H b = some (.tup xs) → H' b = some (.tup xs)) {us : List Addr} {ls : List Lt} (h : Paired (LtAt H) us ls) : Paired (LtAt H') us ls := L2.Paired.mapP h fun _ _ y => k _ _ y
theorem sqL_same {K : PySem.W.Frag} {H H' : Hp} {a : Addr} {xs : List V} (s : Same H H') (h : SqL K H a xs) : SqL K H' a xs := by
  rcases h with (h | ⟨o, h⟩) | h
  · exact .inl (.inl (s _ _ h))
  · exact .inl (.inr ⟨o, s _ _ h⟩)
  · exact .inr h
theorem sqT_same {K : PySem.W.Frag} {H H' : Hp} {a : Addr} {xs : List V} (s : Same H H') (h : SqT K H a xs) : SqT K H' a xs := by
  rcases h with (h | ⟨o, h⟩) | h
  · exact .inl (.inl (s _ _ h))
  · exact .inl (.inr ⟨o, s _ _ h⟩)
  · exact .inr h

/-! histories in the heap -/
structure Sl where
  stamp : Int
  vers : List (Option Int)
def SlAt (H : Hp) (s : Addr) (x : Sl) : Prop := ∃ tv, H s = some (.tup [.int x.stamp, .ref tv]) ∧ H tv = some (.tup (x.vers.map optV))
structure Lg where
  name : Str
  off : Int
  slots : List Sl
def LgAt (H : Hp) (g : Addr) (x : Lg) : Prop := ∃ ts us, H g = some (.tup [.str x.name, .int x.off, .ref ts]) ∧ H ts = some (.tup (us.map V.ref)) ∧ Paired (SlAt H) us x.slots
def HistAt (H : Hp) (h : Addr) (ls : List Lg) : Prop := ∃ gs, H h = some (.tup (gs.map V.ref)) ∧ Paired (LgAt H) gs ls
/-- the versions of a slot of this meter -/
structure VersOk (m : Mt) (vs : List (Option Int)) : Prop where
  head : ∃ v r, vs = some v :: r
  few : vs.length ≤ 12
  each : ∀ v, some v ∈ vs → m.low ≤ v ∧ v ≤ m.high
/-- slots whose stamps never fall, none above st, none far from the cell -/
structure SlsOk (m : Mt) (c st : Int) (xs : List Sl) : Prop where
  up : (xs.map Sl.stamp).Pairwise (· ≤ ·)
  top : ∀ x ∈ xs, x.stamp ≤ st
  near : ∀ x ∈ xs, x.stamp.natAbs ≤ c.natAbs + 1000
  vers : ∀ x ∈ xs, VersOk m x.vers
theorem SlsOk.nil (m : Mt) (c st : Int) : SlsOk m c st [] := ⟨.nil, (fun _ z => nomatch z), (fun _ z => nomatch z), fun _ z => nomatch z⟩
theorem SlsOk.snoc {m : Mt} {c st : Int} {xs : List Sl} {x : Sl} (h : SlsOk m c st xs) (a : st ≤ x.stamp) (n : x.stamp.natAbs ≤ c.natAbs + 1000) (v : VersOk m x.vers) : SlsOk m c x.stamp (xs ++ [x]) := by
  refine ⟨?_, fun y hy => ?_, fun y hy => ?_, fun y hy => ?_⟩
  · rw [List.map_append]
    refine List.pairwise_append.mpr ⟨h.up, List.pairwise_singleton _ _, fun y hy z hz => ?_⟩
    obtain ⟨w, hw, rfl⟩ := List.mem_map.mp hy
    rw [List.mem_singleton.mp hz]
    exact Int.le_trans (h.top w hw) a
  · rcases List.mem_append.mp hy with z | z
    · exact Int.le_trans (h.top y z) a
    · rw [List.mem_singleton.mp z]
      exact Int.le_refl _
  · rcases List.mem_append.mp hy with z | z
    · exact h.near y z
    · rw [List.mem_singleton.mp z]
      exact n
  · rcases List.mem_append.mp hy with z | z
    · exact h.vers y z
    · rw [List.mem_singleton.mp z]
      exact v
theorem SlsOk.take {m : Mt} {c st : Int} {xs : List Sl} (h : SlsOk m c st xs) (k : Nat) : SlsOk m c st (xs.take k) :=
  ⟨by rw [List.map_take]; exact h.up.sublist (List.take_sublist _ _), fun x hx => h.top x (List.mem_of_mem_take hx), fun x hx => h.near x (List.mem_of_mem_take hx), fun x hx => h.vers x (List.mem_of_mem_take hx)⟩
/-- a log of this meter -/
structure LgOk (m : Mt) (c : Int) (x : Lg) : Prop where
  name : x.name = m.name
  lo : -m.err ≤ x.off
  hi : x.off ≤ m.err
  slots : ∃ st, SlsOk m c st x.slots
  few : x.slots.length ≤ 50
/-- what keeps tuples keeps slots, logs and histories -/
def KT (H H' : Hp) : Prop := ∀ b xs, H b = some (.tup xs) → H' b = some (.tup xs)
theorem SlAt.kept {H H' : Hp} (k : KT H H') {s : Addr} {x : Sl} (h : SlAt H s x) : SlAt H' s x := let ⟨tv, a, b⟩ := h; ⟨tv, k _ _ a, k _ _ b⟩
theorem sls_kept {H H' : Hp} (k : KT H H') {us : List Addr} {xs : List Sl} (h : Paired (SlAt H) us xs) : Paired (SlAt H') us xs := L2.Paired.mapP h fun _ _ y => y.kept k
theorem LgAt.kept {H H' : Hp} (k : KT H H') {s : Addr} {x : Lg} (h : LgAt H s x) : LgAt H' s x := let ⟨ts, us, a, b, c⟩ := h; ⟨ts, us, k _ _ a, k _ _ b, sls_kept k c⟩
theorem lgs_kept {H H' : Hp} (k : KT H H') {us : List Addr} {xs : List Lg} (h : Paired (LgAt H) us xs) : Paired (LgAt H') us xs := L2.Paired.mapP h fun _ _ y => y.kept k
theorem HistAt.kept {H H' : Hp} (k : KT H H') {h : Addr} {ls : List Lg} (x : HistAt H h ls) : HistAt H' h ls := let ⟨gs, a, b⟩ := x; ⟨gs, k _ _ a, lgs_kept k b⟩
theorem Dr.kt {d : Addr} {H H' : Hp} (r : Dr d H H') (h : DrA H d) : KT H H' := fun _ _ e => r.tup h e
theorem Same.kt {H H' : Hp} (s : Same H H') : KT H H' := fun _ _ e => s _ _ e
theorem kt_lst {H : Hp} {G : Addr} {xs ys : List V} (hG : H G = some (.lst xs)) : KT H (upd H G (.lst ys)) := fun b zs e => by
  rw [upd_ne (ne_of e hG (fun z => nomatch z))]
  exact e
theorem KT.trans {H H1 H2 : Hp} (a : KT H H1) (b : KT H1 H2) : KT H H2 := fun c x e => b c x (a c x e)
def versFrom (n : Str) (j st : Int) : Nat → List (Option Int) → List Lt
  | _, [] => []
  | i, v :: r => .read n j (i : Int) st v :: versFrom n j st (i + 1) r
def slotsFrom (n : Str) : Nat → List Sl → List (List Lt)
  | _, [] => []
  | j, s :: r => versFrom n ((j : Int) + 1) s.stamp 0 s.vers :: slotsFrom n (j + 1) r
/-- the "read" letters of a history, in their order -/
def dueL (ls : List Lg) : List Lt := (ls.map fun g => (slotsFrom g.name 0 g.slots).flatten).flatten
theorem versFrom_at (n : Str) (j st : Int) : ∀ (k : Nat) (vs : List (Option Int)) (i : Nat), (versFrom n j st k vs)[i]? = vs[i]?.map fun v => .read n j (((k + i : Nat)) : Int) st v
  | _, [], i => by simp [versFrom]
  | k, v :: r, 0 => by simp [versFrom]
  | k, v :: r, i + 1 => by
    have h := versFrom_at n j st (k + 1) r i
    rw [show k + 1 + i = k + (i + 1) by omega] at h
    simpa [versFrom] using h
theorem versFrom_len (n : Str) (j st : Int) : ∀ (k : Nat) (vs : List (Option Int)), (versFrom n j st k vs).length = vs.length
  | _, [] => rfl
  | k, v :: r => congrArg (· + 1) (versFrom_len n j st (k + 1) r)
theorem slotsFrom_at (n : Str) : ∀ (k : Nat) (xs : List Sl) (i : Nat), (slotsFrom n k xs)[i]? = xs[i]?.map fun s => versFrom n (((k + i : Nat) : Int) + 1) s.stamp 0 s.vers
  | _, [], i => by simp [slotsFrom]
  | k, v :: r, 0 => by simp [slotsFrom]
  | k, v :: r, i + 1 => by
    have h := slotsFrom_at n (k + 1) r i
    rw [show k + 1 + i = k + (i + 1) by omega] at h
    simpa [slotsFrom] using h
theorem slotsFrom_len (n : Str) : ∀ (k : Nat) (xs : List Sl), (slotsFrom n k xs).length = xs.length
  | _, [] => rfl
  | k, v :: r => congrArg (· + 1) (slotsFrom_len n (k + 1) r)
theorem flat_take {α : Type} {ls : List (List α)} {i : Nat} {x : List α} (h : ls[i]? = some x) : (ls.take (i + 1)).flatten = (ls.take i).flatten ++ x := by
  rw [List.take_add_one, h, List.flatten_append]
  simp
theorem sls_at {H : Hp} : ∀ {us : List Addr} {xs : List Sl} {i : Nat} {u : Addr}, Paired (SlAt H) us xs → us[i]? = some u → ∃ x, xs[i]? = some x ∧ SlAt H u x
  | _, _, _, _, .nil, h => by simp at h
  | _, _, 0, _, .cons a _, h => by
    cases (Option.some.inj h)
    exact ⟨_, rfl, a⟩
  | _, _, i + 1, _, .cons _ r, h => sls_at (i := i) r h
theorem lgs_at {H : Hp} : ∀ {us : List Addr} {xs : List Lg} {i : Nat} {u : Addr}, Paired (LgAt H) us xs → us[i]? = some u → ∃ x, xs[i]? = some x ∧ LgAt H u x
  | _, _, _, _, .nil, h => by simp at h
  | _, _, 0, _, .cons a _, h => by
    cases (Option.some.inj h)
    exact ⟨_, rfl, a⟩
  | _, _, i + 1, _, .cons _ r, h => lgs_at (i := i) r h
/-- a history of few logs, slots, versions -/
structure HistFew (ls : List Lg) : Prop where
  logs : ls.length ≤ 20
  slots : ∀ g ∈ ls, g.slots.length ≤ 60
  vers : ∀ g ∈ ls, ∀ s ∈ g.slots, s.vers.length ≤ 24
/-- the logs of a history, meter by meter -/
def HistOk (P : Pl) (c : Int) (ls : List Lg) : Prop := Paired (fun m x => LgOk m c x) P.ms ls
theorem paired_mem {α β : Type} {R : α → β → Prop} : ∀ {xs : List α} {ys : List β}, Paired R xs ys → ∀ y ∈ ys, ∃ x ∈ xs, R x y
  | _, _, .nil, _, h => nomatch h
  | _, _, .cons a r, y, h => by
    rcases List.mem_cons.mp h with rfl | z
    · exact ⟨_, List.mem_cons_self, a⟩
    · obtain ⟨x, hx, k⟩ := paired_mem r y z
      exact ⟨x, List.mem_cons_of_mem _ hx, k⟩
theorem HistOk.few {P : Pl} {c : Int} {ls : List Lg} (h : HistOk P c ls) (n : P.ms.length ≤ 20) : HistFew ls := by
  refine ⟨by have := (show Paired (fun m x => LgOk m c x) P.ms ls from h).length; omega, fun g hg => ?_, fun g hg s hs => ?_⟩
  · obtain ⟨m, _, k⟩ := paired_mem h g hg
    have := k.few
    omega
  · obtain ⟨m, _, k⟩ := paired_mem h g hg
    obtain ⟨st, z⟩ := k.slots
    exact Nat.le_trans (z.vers s hs).few (by decide)
theorem HistOk.names {P : Pl} {c : Int} {ls : List Lg} (h : HistOk P c ls) (iw : ∀ m ∈ P.ms, IsW m.name) : ∀ g ∈ ls, IsW g.name := fun g hg => by
  obtain ⟨m, hm, k⟩ := paired_mem h g hg
  rw [k.name]
  exact iw m hm
theorem HistFew.take {ls : List Lg} (h : HistFew ls) (k : Nat) : HistFew (ls.take k) :=
  ⟨by rw [List.length_take]; have := h.logs; omega, fun g hg => h.slots g (List.mem_of_mem_take hg), fun g hg => h.vers g (List.mem_of_mem_take hg)⟩
theorem versFrom_mem {n : Str} {j st : Int} : ∀ {k : Nat} {vs : List (Option Int)} {l : Lt}, l ∈ versFrom n j st k vs → ∃ s v a x, l = .read n s v a x
  | _, [], _, h => nomatch h
  | k, v :: r, l, h => by
    rcases List.mem_cons.mp h with rfl | z
    · exact ⟨_, _, _, _, rfl⟩
    · exact versFrom_mem z
theorem slotsFrom_mem {n : Str} : ∀ {k : Nat} {xs : List Sl} {r : List Lt} {l : Lt}, r ∈ slotsFrom n k xs → l ∈ r → ∃ s v a x, l = .read n s v a x
  | _, [], _, _, h, _ => nomatch h
  | k, x :: xs, r, l, h, hl => by
    rcases List.mem_cons.mp h with rfl | z
    · exact versFrom_mem hl
    · exact slotsFrom_mem z hl
theorem due_mem {ls : List Lg} {l : Lt} (h : l ∈ dueL ls) : ∃ g ∈ ls, ∃ s v a x, l = .read g.name s v a x := by
  unfold dueL at h
  obtain ⟨r, hr, hl⟩ := List.mem_flatten.mp h
  obtain ⟨g, hg, rfl⟩ := List.mem_map.mp hr
  obtain ⟨r2, hr2, hl2⟩ := List.mem_flatten.mp hl
  exact ⟨g, hg, slotsFrom_mem hr2 hl2⟩
theorem due_empty (ls : List Lg) : dueL (ls.map fun g => ⟨g.name, g.off, []⟩) = [] := by
  unfold dueL
  rw [List.map_map]
  induction ls with
  | nil => rfl
  | cons g r ih =>
    rw [List.map_cons, List.flatten_cons, ih]
    rfl
theorem read_lay {n : Str} {s v a : Int} {x : Option Int} (w : IsW n) : (ltD (.read n s v a x)).canLay0 = true := by
  have w' : PyData.strOk n = true := isW_ok w
  have k : PyData.strOk "read" = true := by decide +kernel
  cases x <;> simp [ltD, optD, PyData.canLay0, PyData.canLayAll0, w', k]
theorem lt_shaped {l : Lt} (h : (ltD l).canLay0 = true) : SeqAt.shaped (ltD l) = true := by
  unfold SeqAt.shaped
  rw [Bool.and_eq_true]
  exact ⟨h, decide_eq_true (by rw [lt_deep]; decide)⟩
theorem dues_lay : ∀ {ds : List Lt}, (∀ l ∈ ds, (ltD l).canLay0 = true) → PyData.canLayAll0 (ds.map ltD) = true
  | [], _ => rfl
  | l :: ds, h => by
    show ((ltD l).canLay0 && PyData.canLayAll0 (ds.map ltD)) = true
    rw [h l List.mem_cons_self, dues_lay fun m hm => h m (List.mem_cons_of_mem _ hm)]
    rfl
theorem dues_shaped {ds : List Lt} (h : ∀ l ∈ ds, (ltD l).canLay0 = true) : SeqAt.shaped (.tuple (ds.map ltD)) = true := by
  unfold SeqAt.shaped
  rw [Bool.and_eq_true]
  refine ⟨dues_lay h, decide_eq_true ?_⟩
  have := lts_deep ds
  show PyData.depthAll (ds.map ltD) + 1 ≤ 64
  omega
theorem dues_same {ds : List Lt} (h : ∀ l ∈ ds, (ltD l).canLay0 = true) : PyData.eqv (.tuple (ds.map ltD)) (.tuple (ds.map ltD)) = true := SeqAt.eqv_refl _ (dues_lay h)
theorem slots_len {n : Str} : ∀ {k : Nat} {xs : List Sl}, (∀ s ∈ xs, s.vers.length ≤ 24) → (slotsFrom n k xs).flatten.length ≤ 24 * xs.length
  | _, [], _ => Nat.zero_le _
  | k, x :: xs, h => by
    have a := h x List.mem_cons_self
    have b := slots_len (n := n) (k := k + 1) fun s hs => h s (List.mem_cons_of_mem _ hs)
    show (versFrom n ((k : Int) + 1) x.stamp 0 x.vers ++ (slotsFrom n (k + 1) xs).flatten).length ≤ _
    rw [List.length_append, versFrom_len, List.length_cons]
    omega
theorem due_len : ∀ {ls : List Lg}, (∀ g ∈ ls, g.slots.length ≤ 60) → (∀ g ∈ ls, ∀ s ∈ g.slots, s.vers.length ≤ 24) → (dueL ls).length ≤ 1440 * ls.length
  | [], _, _ => Nat.zero_le _
  | g :: ls, h1, h2 => by
    have a := h1 g List.mem_cons_self
    have b := slots_len (n := g.name) (k := 0) (h2 g List.mem_cons_self)
    have c := due_len (ls := ls) (fun g' hg => h1 g' (List.mem_cons_of_mem _ hg)) fun g' hg => h2 g' (List.mem_cons_of_mem _ hg)
    show ((slotsFrom g.name 0 g.slots).flatten ++ dueL ls).length ≤ _
    rw [List.length_append, List.length_cons]
    omega
/-- len(..) of a list or a tuple -/
def rLenK (K : PySem.W.Frag) : List V → Hp → VK → Prop := fun xs H Q => ∃ p ys, xs = [V.ref p] ∧ (SqL K H p ys ∨ SqT K H p ys) ∧ Q (.int (ys.length : Nat)) H

/-! readings, aggregates and their values -/
theorem pickT {xs : List V} {k : Int} (h0 : 0 ≤ k) (h1 : k < xs.length) : ∃ v, v ∈ xs ∧ atI xs k = some v :=
  ⟨_, List.getElem_mem _, atI_pos h0 h1⟩
theorem pickI {xs : List Int} {vs : List V} {k : Int} (e : vs = xs.map V.int) (h0 : 0 ≤ k) (h1 : k < xs.length) : ∃ v, v ∈ xs ∧ atI vs k = some (.int v) := by
  rw [e]
  exact ⟨_, List.getElem_mem _, atM_pos h0 h1⟩
theorem int_at {xs : List Int} {i : Nat} {x : V} (h : (xs.map V.int)[i]? = some x) : ∃ k, xs[i]? = some k ∧ x = .int k := by
  rw [List.getElem?_map] at h
  obtain ⟨a, e1, e2⟩ := Option.map_eq_some_iff.mp h
  exact ⟨a, e1, e2.symm⟩
theorem filt_snoc {xs : List Int} {i : Nat} {k : Int} (f : Int → Bool) (h : xs[i]? = some k) : (xs.take (i + 1)).filter f = (xs.take i).filter f ++ (if f k = true then [k] else []) := by
  rw [List.take_add_one, h, List.filter_append]
  congr 1
  show List.filter _ [k] = _
  rw [List.filter_cons, List.filter_nil]
theorem Dr.tupA {d t : Addr} {H H' : Hp} {xs : List V} (r : Dr d H H') (hd : DrA H d) (h : H t = some (.tup xs)) : H' t = some (.tup xs) := by
  refine r.keep _ _ (fun z => ?_) h
  obtain ⟨ns, hn⟩ := hd
  rw [z, hn] at h
  cases h
inductive Ag where
  | count | sum | among (a b : Int) | rank (p q : Int)
def Ag.vals : Ag → List V
  | .count => [.str "count"]
  | .sum => [.str "sum"]
  | .among a b => [.str "among", .int a, .int b]
  | .rank p q => [.str "rank", .int p, .int q]
def AgAt (H : Hp) (a : Addr) (g : Ag) : Prop := H a = some (.tup g.vals)
def Ag.Ok : Ag → Prop
  | .rank p q => 0 ≤ p ∧ p ≤ q ∧ 1 ≤ q ∧ q ≤ 1000
  | _ => True
def within (a b : Int) (x : Int) : Bool := decide (a ≤ x) && decide (x ≤ b)
def idxOf (n : Nat) (p q : Int) : Int := ((n : Int) - 1) * p / q
def rankOf (p q : Int) (xs : List Int) : V := if xs = [] then .non else match atI (xs.map V.int) (idxOf xs.length p q) with
  | some v => v
  | none => .non
def valOf : Ag → List Int → V
  | .count, xs => .int (xs.length : Nat)
  | .sum, xs => .int xs.sum
  | .among a b, xs => .int ((xs.filter (within a b)).length : Nat)
  | .rank p q, xs => rankOf p q xs
theorem idx_ok {n : Nat} {p q : Int} (hn : 0 < n) (h0 : 0 ≤ p) (h1 : p ≤ q) (h2 : 1 ≤ q) : 0 ≤ idxOf n p q ∧ idxOf n p q < n := by
  unfold idxOf
  have a : 0 ≤ ((n : Int) - 1) * p := Int.mul_nonneg (by omega) h0
  have b : ((n : Int) - 1) * p ≤ ((n : Int) - 1) * q := Int.mul_le_mul_of_nonneg_left h1 (by omega)
  have c : ((n : Int) - 1) * p / q ≤ (n : Int) - 1 := by
    have e := Int.ediv_le_ediv (c := q) (by omega) b
    rw [Int.mul_ediv_cancel _ (by omega)] at e
    exact e
  have e := Int.ediv_nonneg a (b := q) (by omega)
  omega
theorem rank_at {xs : List Int} {p q : Int} (hn : xs ≠ []) (h0 : 0 ≤ p) (h1 : p ≤ q) (h2 : 1 ≤ q) : ∃ k, k ∈ xs ∧ atI (xs.map V.int) (idxOf xs.length p q) = some (.int k) ∧ valOf (.rank p q) xs = .int k := by
  have hl : 0 < xs.length := List.length_pos_iff.mpr hn
  obtain ⟨a, b⟩ := idx_ok (n := xs.length) hl h0 h1 h2
  obtain ⟨k, hk, e⟩ := pickI (xs := xs) rfl a b
  refine ⟨k, hk, e, ?_⟩
  show rankOf p q xs = _
  unfold rankOf
  rw [if_neg hn, e]
theorem rank_nil (p q : Int) : valOf (.rank p q) [] = .non := by
  show rankOf p q [] = _
  unfold rankOf
  rw [if_pos rfl]
theorem valOf_is {g : Ag} {xs : List Int} (ok : g.Ok) : valOf g xs = .non ∨ ∃ k, valOf g xs = .int k := by
  cases g with
  | count => exact .inr ⟨_, rfl⟩
  | sum => exact .inr ⟨_, rfl⟩
  | among a b => exact .inr ⟨_, rfl⟩
  | rank p q =>
    by_cases hn : xs = []
    · rw [hn]
      exact .inl (rank_nil p q)
    · obtain ⟨h0, h1, h2, _⟩ := ok
      obtain ⟨k, _, _, e⟩ := rank_at hn h0 h1 h2
      exact .inr ⟨k, e⟩
theorem sum_snoc {xs : List Int} {i : Nat} {k : Int} (h : xs[i]? = some k) : (xs.take (i + 1)).sum = (xs.take i).sum + k := by
  rw [List.take_add_one, h, List.sum_append]
  show _ + ([k] : List Int).sum = _
  rw [List.sum_cons, List.sum_nil, Int.add_zero]

/-! places in ascending rows of ints -/
theorem sorted_at {xs : List Int} (h : xs.Pairwise (· ≤ ·)) {i j : Nat} {a b : Int} (hi : xs[i]? = some a) (hj : xs[j]? = some b) (l : i ≤ j) : a ≤ b := by
  obtain ⟨p, rfl⟩ := List.getElem?_eq_some_iff.mp hi
  obtain ⟨q, rfl⟩ := List.getElem?_eq_some_iff.mp hj
  rcases Nat.lt_or_eq_of_le l with z | z
  · exact List.pairwise_iff_getElem.mp h i j p q z
  · subst z
    exact Int.le_refl _
/-- downward closed -/
def Down (f : Int → Bool) : Prop := ∀ x y, x ≤ y → f y = true → f x = true
theorem down_at {xs : List Int} (h : xs.Pairwise (· ≤ ·)) {f : Int → Bool} (df : Down f) {t : Nat} {a : Int} (ht : xs[t]? = some a) : f a = true ↔ t < (xs.filter f).length := by
  have il := (List.getElem?_eq_some_iff.mp ht).1
  have e : xs.filter f = (xs.take t).filter f ++ (xs.drop t).filter f := by
    rw [← List.filter_append, List.take_append_drop]
  constructor
  · intro fa
    have e1 : (xs.take (t + 1)).filter f = xs.take (t + 1) := List.filter_eq_self.mpr fun x hx => by
      obtain ⟨j, hj⟩ := List.getElem?_of_mem hx
      have jl : j < t + 1 := by
        have := (List.getElem?_eq_some_iff.mp hj).1
        rw [List.length_take] at this
        omega
      rw [List.getElem?_take, if_pos jl] at hj
      exact df x a (sorted_at h hj ht (by omega)) fa
    have e2 : xs.filter f = (xs.take (t + 1)).filter f ++ (xs.drop (t + 1)).filter f := by
      rw [← List.filter_append, List.take_append_drop]
    rw [e2, e1, List.length_append, List.length_take]
    omega
  · intro lt
    by_cases fa : f a = true
    · exact fa
    · have e1 : (xs.drop t).filter f = [] := List.filter_eq_nil_iff.mpr fun x hx fx => by
        obtain ⟨j, hj⟩ := List.getElem?_of_mem hx
        rw [List.getElem?_drop] at hj
        exact fa (df a x (sorted_at h ht hj (by omega)) fx)
      rw [e, e1, List.append_nil] at lt
      have l2 := List.length_filter_le f (xs.take t)
      rw [List.length_take] at l2
      omega
def ltB (v x : Int) : Bool := decide (x < v)
def leB (v x : Int) : Bool := decide (x ≤ v)
theorem down_lt (v : Int) : Down (ltB v) := fun x y a b => decide_eq_true (by have := of_decide_eq_true b; omega)
theorem down_le (v : Int) : Down (leB v) := fun x y a b => decide_eq_true (by have := of_decide_eq_true b; omega)
theorem at_lt {xs : List Int} (h : xs.Pairwise (· ≤ ·)) {t : Nat} {a v : Int} (ht : xs[t]? = some a) : a < v ↔ t < (xs.filter (ltB v)).length := by
  rw [← down_at h (down_lt v) ht]
  exact ⟨fun z => decide_eq_true z, fun z => of_decide_eq_true z⟩
theorem at_le {xs : List Int} (h : xs.Pairwise (· ≤ ·)) {t : Nat} {a v : Int} (ht : xs[t]? = some a) : a ≤ v ↔ t < (xs.filter (leB v)).length := by
  rw [← down_at h (down_le v) ht]
  exact ⟨fun z => decide_eq_true z, fun z => of_decide_eq_true z⟩
theorem perm_cnt {xs ys : List Int} (h : ys.Perm xs) (f : Int → Bool) : (ys.filter f).length = (xs.filter f).length := (h.filter f).length_eq
theorem perm_sum {xs ys : List Int} (h : ys.Perm xs) : ys.sum = xs.sum := by
  induction h with
  | nil => rfl
  | cons x _ ih => rw [List.sum_cons, List.sum_cons, ih]
  | swap x y l => rw [List.sum_cons, List.sum_cons, List.sum_cons, List.sum_cons]; omega
  | trans _ _ a b => exact a.trans b
theorem cnt_more {xs : List Int} {m : Int} (f : Int → Bool) : ((xs ++ [m]).filter f).length = (xs.filter f).length + (if f m = true then 1 else 0) := by
  rw [List.filter_append, List.length_append]
  congr 1
  rw [List.filter_cons, List.filter_nil]
  split <;> rfl
theorem ediv_le_iff {a b q : Int} (h : 0 < q) : a ≤ b / q ↔ a * q ≤ b := Int.le_ediv_iff_mul_le h
theorem idx_mono {n : Nat} {p q r s : Int} (hn : 0 < n) (hq : 0 < q) (hs : 0 < s) (h : p * s ≤ r * q) : idxOf n p q ≤ idxOf n r s := by
  unfold idxOf
  have a1 : ((n : Int) - 1) * p / q * q ≤ ((n : Int) - 1) * p := (ediv_le_iff hq).mp (Int.le_refl _)
  generalize ((n : Int) - 1) * p / q = x at a1
  refine (ediv_le_iff hs).mpr ?_
  have b1 : x * q * s ≤ ((n : Int) - 1) * p * s := Int.mul_le_mul_of_nonneg_right a1 (by omega)
  have b2 : ((n : Int) - 1) * (p * s) ≤ ((n : Int) - 1) * (r * q) := Int.mul_le_mul_of_nonneg_left h (by omega)
  have b3 : x * s * q ≤ ((n : Int) - 1) * r * q := by
    calc x * s * q = x * q * s := by rw [Int.mul_assoc, Int.mul_comm s q, ← Int.mul_assoc]
      _ ≤ ((n : Int) - 1) * p * s := b1
      _ = ((n : Int) - 1) * (p * s) := Int.mul_assoc _ _ _
      _ ≤ ((n : Int) - 1) * (r * q) := b2
      _ = ((n : Int) - 1) * r * q := (Int.mul_assoc _ _ _).symm
  exact Int.le_of_mul_le_mul_right b3 hq
/-- one reading more: the place stays, or is the next one -/
theorem idx_next {n : Nat} {p q : Int} (hn : 0 < n) (h0 : 0 ≤ p) (h1 : p ≤ q) (h2 : 1 ≤ q) : idxOf n p q ≤ idxOf (n + 1) p q ∧ idxOf (n + 1) p q ≤ idxOf n p q + 1 := by
  unfold idxOf
  have e : (((n + 1 : Nat) : Int) - 1) * p = ((n : Int) - 1) * p + p := by
    rw [show (((n + 1 : Nat) : Int) - 1) = ((n : Int) - 1) + 1 by omega, Int.add_mul, Int.one_mul]
  rw [e]
  constructor
  · exact Int.ediv_le_ediv (by omega) (by omega)
  · have a : (((n : Int) - 1) * p + p) / q ≤ (((n : Int) - 1) * p + 1 * q) / q := Int.ediv_le_ediv (by omega) (by omega)
    rw [Int.add_mul_ediv_right _ _ (by omega)] at a
    exact a
theorem idx_zero {n : Nat} {q : Int} : idxOf n 0 q = 0 := by
  unfold idxOf
  rw [Int.mul_zero, Int.zero_ediv]
theorem idx_all {n : Nat} {q : Int} (h : 1 ≤ q) : idxOf n q q = (n : Int) - 1 := by
  unfold idxOf
  exact Int.mul_ediv_cancel _ (by omega)
/-- the rank of a row that is not empty: its place -/
theorem rank_place {xs : List Int} {p q : Int} (hn : xs ≠ []) (h0 : 0 ≤ p) (h1 : p ≤ q) (h2 : 1 ≤ q) : ∃ (i : Nat) (k : Int), idxOf xs.length p q = (i : Int) ∧ i < xs.length ∧ xs[i]? = some k ∧ valOf (.rank p q) xs = .int k := by
  have hl : 0 < xs.length := List.length_pos_iff.mpr hn
  obtain ⟨a, b⟩ := idx_ok (n := xs.length) hl h0 h1 h2
  refine ⟨(idxOf xs.length p q).toNat, xs[(idxOf xs.length p q).toNat]'(by omega), by omega, by omega, List.getElem?_eq_getElem (by omega), ?_⟩
  show rankOf p q xs = _
  unfold rankOf
  rw [if_neg hn, atM_pos a b]
theorem flat_ints (ns : List Int) : (ns.map V.int).all flatV = true := by
  rw [List.all_map, List.all_eq_true]
  exact fun _ _ => rfl
theorem in_ints {x : Int} : ∀ ns : List Int, inV (.int x) (ns.map V.int) = decide (x ∈ ns)
  | [] => by simp [inV]
  | n :: ns => by
    have ih := in_ints (x := x) ns
    unfold inV at ih ⊢
    rw [List.map_cons, List.any_cons, ih]
    by_cases e : n = x
    · subst e
      simp [eqV]
    · have e1 : eqV (.int n) (.int x) = false := beq_eq_false_iff_ne.mpr e
      have e2 : ¬ x = n := fun z => e z.symm
      rw [e1, Bool.false_or, decide_eq_decide]
      simp [List.mem_cons, e2]

/-! tuples of versions as data -/
theorem opts_dp {K : PySem.W.Frag} {H : Hp} : ∀ (xs : List (Option Int)), DpAll K H (xs.map optV) (xs.map optD)
  | [] => .nil
  | x :: r => .cons (opt_dp x) (opts_dp r)
theorem opts_lay : ∀ (xs : List (Option Int)), PyData.canLayAll0 (xs.map optD) = true
  | [] => rfl
  | x :: r => by
    show ((optD x).canLay0 && PyData.canLayAll0 (r.map optD)) = true
    rw [opts_lay r, Bool.and_true]
    cases x <;> simp [optD, PyData.canLay0]
theorem opts_deep : ∀ (xs : List (Option Int)), PyData.depthAll (xs.map optD) ≤ 1
  | [] => Nat.zero_le _
  | x :: r => by
    have a := opts_deep r
    have b : (optD x).depth ≤ 1 := by cases x <;> simp [optD, PyData.depth]
    simp only [List.map_cons, PyData.depthAll]
    omega
theorem vers_shaped (xs : List (Option Int)) : SeqAt.shaped (.tuple (xs.map optD)) = true := by
  unfold SeqAt.shaped
  rw [Bool.and_eq_true]
  refine ⟨opts_lay xs, decide_eq_true ?_⟩
  have := opts_deep xs
  show PyData.depthAll (xs.map optD) + 1 ≤ 64
  omega
theorem opt_eqv (a b : Option Int) : PyData.eqv (optD a) (optD b) = decide (a = b) := by
  cases a <;> cases b <;> simp [optD, PyData.eqv]
  rfl
theorem opts_eqv : ∀ (xs ys : List (Option Int)), PyData.eqvAll (xs.map optD) (ys.map optD) = decide (xs = ys)
  | [], [] => by simp [PyData.eqvAll]
  | [], _ :: _ => by simp [PyData.eqvAll]
  | _ :: _, [] => by simp [PyData.eqvAll]
  | x :: r, y :: s => by
    show PyData.eqvAll (optD x :: r.map optD) (optD y :: s.map optD) = _
    rw [PyData.eqvAll, opt_eqv, opts_eqv r s]
    by_cases a : x = y <;> by_cases b : r = s <;> simp [a, b]
theorem vers_eqv (xs ys : List (Option Int)) : PyData.eqv (.tuple (xs.map optD)) (.tuple (ys.map optD)) = decide (xs = ys) := by
  rw [PyData.eqv, opts_eqv]

/-! the readings of a history -/
def lastO (vs : List (Option Int)) : Option Int := match vs.getLast? with
  | some (some v) => some v
  | _ => none
def slotIn (L w off : Int) (s : Sl) : Option Int := if (s.stamp + off) / L = w then lastO s.vers else none
def rdLog (L w : Int) (ns : List Str) (g : Lg) : List Int := if g.name ∈ ns then g.slots.filterMap (slotIn L w g.off) else []
def rdOf (L w : Int) (ns : List Str) (ls : List Lg) : List Int := (ls.map (rdLog L w ns)).flatten
/-- every slot has a version -/
def Vsd (ls : List Lg) : Prop := ∀ g ∈ ls, ∀ s ∈ g.slots, s.vers ≠ []
theorem HistOk.vsd {P : Pl} {c : Int} {ls : List Lg} (h : HistOk P c ls) : Vsd ls := fun g hg s hs => by
  obtain ⟨m, _, k⟩ := paired_mem h g hg
  obtain ⟨st, z⟩ := k.slots
  obtain ⟨v, r, e⟩ := (z.vers s hs).head
  rw [e]
  exact fun y => nomatch y
theorem rdOf_snoc {L w : Int} {ns : List Str} {ls : List Lg} {i : Nat} {g : Lg} (h : ls[i]? = some g) : rdOf L w ns (ls.take (i + 1)) = rdOf L w ns (ls.take i) ++ rdLog L w ns g := by
  unfold rdOf
  rw [List.map_take, List.map_take]
  exact flat_take (by rw [List.getElem?_map, h]; rfl)
theorem fmap_snoc {α : Type} {f : α → Option Int} {xs : List α} {i : Nat} {x : α} (h : xs[i]? = some x) : (xs.take (i + 1)).filterMap f = (xs.take i).filterMap f ++ (f x).toList := by
  rw [List.take_add_one, h, List.filterMap_append]
  have e1 : List.filterMap f [x] = (f x).toList := by
    cases e : f x with
    | none => rw [List.filterMap_cons_none e]; rfl
    | some v => rw [List.filterMap_cons_some e]; rfl
  exact congrArg (fun z => (xs.take i).filterMap f ++ z) e1
theorem rdLog_len {L w : Int} {ns : List Str} {g : Lg} : (rdLog L w ns g).length ≤ g.slots.length := by
  unfold rdLog
  split
  · exact List.length_filterMap_le _ _
  · exact Nat.zero_le _
theorem rdOf_len {L w : Int} {ns : List Str} : ∀ {ls : List Lg}, (∀ g ∈ ls, g.slots.length ≤ 60) → (rdOf L w ns ls).length ≤ 60 * ls.length
  | [], _ => Nat.zero_le _
  | g :: ls, h => by
    have a := h g List.mem_cons_self
    have b := rdLog_len (L := L) (w := w) (ns := ns) (g := g)
    have c := rdOf_len (L := L) (w := w) (ns := ns) (ls := ls) fun g' hg => h g' (List.mem_cons_of_mem _ hg)
    show (rdLog L w ns g ++ rdOf L w ns ls).length ≤ _
    rw [List.length_append, List.length_cons]
    omega
theorem last_at {vs : List (Option Int)} (h : vs ≠ []) : ∃ o, atI (vs.map optV) (-1) = some (optV o) ∧ lastO vs = o ∧ ∃ us, vs = us ++ [o] := by
  refine ⟨vs.getLast h, ?_, ?_, vs.dropLast, (List.dropLast_concat_getLast h).symm⟩
  · conv => lhs; rw [← List.dropLast_concat_getLast h, List.map_append]
    exact atI_last _ _
  · unfold lastO
    rw [List.getLast?_eq_getLast h]
    cases vs.getLast h <;> rfl
theorem div_is {t L w : Int} (h : 1 ≤ L) : (w * L ≤ t ∧ t < (w + 1) * L) ↔ t / L = w := by
  constructor
  · rintro ⟨a, b⟩
    have c : w ≤ t / L := (Int.le_ediv_iff_mul_le (by omega)).mpr a
    have d : t / L < w + 1 := (Int.ediv_lt_iff_lt_mul (by omega)).mpr b
    omega
  · rintro rfl
    have e := Int.mul_ediv_add_emod t L
    have e0 := Int.emod_nonneg t (b := L) (by omega)
    have e1 := Int.emod_lt_of_pos t (b := L) (by omega)
    have c : t / L * L = L * (t / L) := Int.mul_comm _ _
    rw [Int.add_mul, Int.one_mul, c]
    omega
theorem sorted_same : ∀ {xs ys : List Int}, xs.Perm ys → xs.Pairwise (· ≤ ·) → ys.Pairwise (· ≤ ·) → xs = ys := fun p a b => p.eq_of_pairwise (fun _ _ _ _ h1 h2 => Int.le_antisymm h1 h2) a b
def wsOf (L : Int) (ls : List Lg) : List Int := (ls.map fun g => g.slots.map fun s => (s.stamp + g.off) / L).flatten
theorem wsOf_snoc {L : Int} {ls : List Lg} {i : Nat} {g : Lg} (h : ls[i]? = some g) : wsOf L (ls.take (i + 1)) = wsOf L (ls.take i) ++ g.slots.map fun s => (s.stamp + g.off) / L := by
  unfold wsOf
  rw [List.map_take, List.map_take]
  exact flat_take (by rw [List.getElem?_map, h]; rfl)
theorem wsOf_len {L : Int} : ∀ {ls : List Lg}, (∀ g ∈ ls, g.slots.length ≤ 60) → (wsOf L ls).length ≤ 60 * ls.length
  | [], _ => Nat.zero_le _
  | g :: ls, h => by
    have a := h g List.mem_cons_self
    have c := wsOf_len (L := L) (ls := ls) fun g' hg => h g' (List.mem_cons_of_mem _ hg)
    show ((g.slots.map fun s => (s.stamp + g.off) / L) ++ wsOf L ls).length ≤ _
    rw [List.length_append, List.length_map, List.length_cons]
    omega
theorem wsOf_mem {L k : Int} {ls : List Lg} (h : k ∈ wsOf L ls) : ∃ g ∈ ls, ∃ s ∈ g.slots, (s.stamp + g.off) / L = k := by
  unfold wsOf at h
  obtain ⟨r, hr, hk⟩ := List.mem_flatten.mp h
  obtain ⟨g, hg, rfl⟩ := List.mem_map.mp hr
  obtain ⟨s, hs, e⟩ := List.mem_map.mp hk
  exact ⟨g, hg, s, hs, e⟩
theorem wsOf_in {L : Int} {ls : List Lg} {g : Lg} {s : Sl} (hg : g ∈ ls) (hs : s ∈ g.slots) : (s.stamp + g.off) / L ∈ wsOf L ls := by
  unfold wsOf
  exact List.mem_flatten.mpr ⟨_, List.mem_map.mpr ⟨g, hg, rfl⟩, List.mem_map.mpr ⟨s, hs, rfl⟩⟩
theorem cut_last {us : List V} {x : V} : cutV (us ++ [x]) (some (-1)) none = [x] := by
  have e : ((us ++ [x]).length : Int) = us.length + 1 := by rw [List.length_append]; rfl
  have e2 : HT.sIx (us ++ [x]).length 0 (some (-1)) = us.length := by
    show (if (-1 : Int) < 0 then (-1 + ((us ++ [x]).length : Int)).toNat else min (-1 : Int).toNat (us ++ [x]).length) = _
    rw [if_pos (by decide), e]
    omega
  unfold cutV
  rw [e2, HT.sIx_none, List.drop_left]
  have e3 : (us ++ [x]).length - us.length = 1 := by rw [List.length_append]; show us.length + 1 - us.length = 1; omega
  rw [e3]
  rfl
theorem div_near {t L : Int} (h : 1 ≤ L) : (t / L).natAbs ≤ t.natAbs := by
  rcases Int.lt_or_le t 0 with n | n
  · have a : t ≤ t / L := by
      rw [Int.le_ediv_iff_mul_le (by omega)]
      have c : t * L ≤ t * 1 := Int.mul_le_mul_of_nonpos_left (by omega) h
      omega
    have c : t / L < 0 := Int.ediv_neg_of_neg_of_pos n (by omega)
    omega
  · have a : t / L ≤ t := Int.ediv_le_self _ n
    have b : 0 ≤ t / L := Int.ediv_nonneg n (by omega)
    omega
/-- a window of a slot, or one beside it, or the cell -/
def NearW (L c w : Int) (ls : List Lg) : Prop := w = c ∨ ∃ u ∈ wsOf L ls, (w - u).natAbs ≤ 1
theorem NearW.small {P : Pl} {c w : Int} {ls : List Lg} (h : NearW P.len c w ls) (po : PlanOk c P) (ok : HistOk P c ls) : w.natAbs ≤ c.natAbs + 1061 := by
  rcases h with rfl | ⟨u, hu, d⟩
  · omega
  · obtain ⟨g, hg, s, hs, rfl⟩ := wsOf_mem hu
    obtain ⟨m, hm, k⟩ := paired_mem ok g hg
    obtain ⟨st, z⟩ := k.slots
    have a := z.near s hs
    have b := k.lo
    have b2 := k.hi
    have e := (po.each m hm).err1
    have f := div_near (t := s.stamp + g.off) po.len
    omega
theorem same_free {H H' : Hp} (s : Same H H') {l : Addr} (n : H' l = none) : H l = none := by
  cases q : H l with
  | none => rfl
  | some o =>
    rw [s _ _ q] at n
    cases n

/-! readings over many windows, names: each once -/
theorem flat_add {α β : Type} (f h : α → List β) : ∀ ls : List α, ((ls.map fun g => f g ++ h g).flatten).Perm ((ls.map f).flatten ++ (ls.map h).flatten)
  | [] => .refl _
  | g :: ls => by
    have ih := flat_add f h ls
    show (f g ++ h g ++ (ls.map fun g => f g ++ h g).flatten).Perm (f g ++ (ls.map f).flatten ++ (h g ++ (ls.map h).flatten))
    refine (List.Perm.append_left _ ih).trans ?_
    rw [List.append_assoc, List.append_assoc]
    refine List.Perm.append_left _ ?_
    rw [← List.append_assoc, ← List.append_assoc]
    exact List.Perm.append_right _ List.perm_append_comm
theorem flat_nil {α β : Type} : ∀ ls : List α, (ls.map fun _ => ([] : List β)).flatten = []
  | [] => rfl
  | _ :: ls => flat_nil ls
theorem flat_swap {α β γ : Type} (A : α → β → List γ) (ls : List β) : ∀ ns : List α, ((ns.map fun n => (ls.map (A n)).flatten).flatten).Perm ((ls.map fun g => (ns.map fun n => A n g).flatten).flatten)
  | [] => by
    show ([] : List γ).Perm (ls.map fun _ => []).flatten
    rw [flat_nil]
  | n :: ns => by
    have ih := flat_swap A ls ns
    show ((ls.map (A n)).flatten ++ (ns.map fun n => (ls.map (A n)).flatten).flatten).Perm ((ls.map fun g => A n g ++ (ns.map fun n => A n g).flatten).flatten)
    exact (List.Perm.append_left _ ih).trans (flat_add (A n) (fun g => (ns.map fun n => A n g).flatten) ls).symm
theorem one_hot0 {α β : Type} [DecidableEq α] {k : α} {F : List β} : ∀ {ks : List α}, k ∉ ks → (ks.map fun x => if k = x then F else []).flatten = []
  | [], _ => rfl
  | x :: ks, h => by
    rw [List.map_cons, List.flatten_cons, if_neg (fun z => h (by rw [z]; exact List.mem_cons_self)), one_hot0 (fun z => h (List.mem_cons_of_mem _ z))]
    rfl
theorem one_hot {α β : Type} [DecidableEq α] {k : α} {F : List β} : ∀ {ks : List α}, ks.Nodup → k ∈ ks → (ks.map fun x => if k = x then F else []).flatten = F
  | [], _, h => nomatch h
  | x :: ks, nd, h => by
    obtain ⟨nx, nd⟩ := List.nodup_cons.mp nd
    rw [List.map_cons, List.flatten_cons]
    rcases List.mem_cons.mp h with rfl | m
    · rw [if_pos rfl, one_hot0 nx, List.append_nil]
    · rw [if_neg (fun z => nx (by rw [← z]; exact m)), one_hot nd m]
      rfl
theorem fmap_flat {α : Type} (f : α → Option Int) : ∀ xs : List α, xs.filterMap f = (xs.map fun x => (f x).toList).flatten
  | [] => rfl
  | x :: xs => by
    rw [List.map_cons, List.flatten_cons, ← fmap_flat f xs]
    cases e : f x with
    | none => rw [List.filterMap_cons_none e]; rfl
    | some v => rw [List.filterMap_cons_some e]; rfl
def allOf (ls : List Lg) : List Int := (ls.map fun g => g.slots.filterMap fun s => lastO s.vers).flatten
theorem perm_flat {α : Type} {f h : α → List Int} : ∀ {ls : List α}, (∀ g ∈ ls, (f g).Perm (h g)) → ((ls.map f).flatten).Perm ((ls.map h).flatten)
  | [], _ => .refl _
  | g :: ls, k => (k g List.mem_cons_self).append (perm_flat fun x hx => k x (List.mem_cons_of_mem _ hx))
/-- over windows each once, among them those of all slots: every last version once -/
theorem all_windows {L : Int} {ns : List Str} {ls : List Lg} {ws : List Int} (nd : ws.Nodup) (hw : ∀ k ∈ wsOf L ls, k ∈ ws) (hn : ∀ g ∈ ls, g.name ∈ ns) : ((ws.map fun w => rdOf L w ns ls).flatten).Perm (allOf ls) := by
  refine (flat_swap (fun w => rdLog L w ns) ls ws).trans (perm_flat fun g hg => ?_)
  have e1 : (ws.map fun w => rdLog L w ns g) = ws.map fun w => (g.slots.map fun s => (slotIn L w g.off s).toList).flatten := List.map_congr_left fun w _ => by
    unfold rdLog
    rw [if_pos (hn g hg), fmap_flat]
  rw [e1, fmap_flat]
  refine (flat_swap (fun w s => (slotIn L w g.off s).toList) g.slots ws).trans (perm_flat fun s hs => ?_)
  have e2 : (ws.map fun w => (slotIn L w g.off s).toList) = ws.map fun w => if (s.stamp + g.off) / L = w then (lastO s.vers).toList else [] := List.map_congr_left fun w _ => by
    unfold slotIn
    split <;> rfl
  rw [e2, one_hot nd (hw _ (wsOf_in hg hs))]
/-- meter by meter: the same as together -/
theorem all_names {L w : Int} {ns : List Str} {ls : List Lg} (nd : ns.Nodup) (hn : ∀ g ∈ ls, g.name ∈ ns) : ((ns.map fun n => rdOf L w [n] ls).flatten).Perm (rdOf L w ns ls) := by
  refine (flat_swap (fun n => rdLog L w [n]) ls ns).trans (perm_flat fun g hg => ?_)
  have e2 : (ns.map fun n => rdLog L w [n] g) = ns.map fun n => if g.name = n then rdLog L w ns g else [] := List.map_congr_left fun n _ => by
    unfold rdLog
    rw [if_pos (hn g hg)]
    by_cases e : g.name = n
    · rw [if_pos e, if_pos (by rw [e]; exact List.mem_singleton.mpr rfl)]
    · rw [if_neg e, if_neg (fun z => e (List.mem_singleton.mp z))]
  rw [e2, one_hot nd (hn g hg)]
theorem no_window {L w : Int} {ns : List Str} {ls : List Lg} (h : w ∉ wsOf L ls) : rdOf L w ns ls = [] := by
  unfold rdOf
  refine List.flatten_eq_nil_iff.mpr fun r hr => ?_
  obtain ⟨g, hg, rfl⟩ := List.mem_map.mp hr
  unfold rdLog
  split
  · refine List.filterMap_eq_nil_iff.mpr fun s hs => ?_
    unfold slotIn
    rw [if_neg (fun z => h (by rw [← z]; exact wsOf_in hg hs))]
  · rfl
def preS (low : Int) (s : Sl) : Sl := ⟨s.stamp, some low :: s.vers⟩
def Pre (g o : Lg) : Prop := o.name = g.name ∧ o.off = g.off ∧ ∃ low, o.slots = g.slots.map (preS low)
theorem last_pre {low : Int} {vs : List (Option Int)} (h : vs ≠ []) : lastO (some low :: vs) = lastO vs := by
  unfold lastO
  cases vs with
  | nil => exact absurd rfl h
  | cons v r => rw [List.getLast?_cons_cons]
theorem fm_congr {α : Type} {f g : α → Option Int} : ∀ {xs : List α}, (∀ x ∈ xs, f x = g x) → xs.filterMap f = xs.filterMap g
  | [], _ => rfl
  | x :: xs, h => by
    rw [fmap_flat, fmap_flat, List.map_cons, List.map_cons, h x List.mem_cons_self, List.flatten_cons, List.flatten_cons, ← fmap_flat, ← fmap_flat, fm_congr fun y hy => h y (List.mem_cons_of_mem _ hy)]
theorem pre_log {L w : Int} {ns : List Str} {g o : Lg} (h : Pre g o) (hv : ∀ s ∈ g.slots, s.vers ≠ []) : rdLog L w ns o = rdLog L w ns g := by
  obtain ⟨e1, e2, low, e3⟩ := h
  unfold rdLog
  rw [e1, e2, e3, List.filterMap_map]
  split
  · refine fm_congr fun s hs => ?_
    show slotIn L w g.off (preS low s) = slotIn L w g.off s
    unfold slotIn preS
    rw [last_pre (hv s hs)]
  · rfl
theorem pre_rd {L w : Int} {ns : List Str} : ∀ {ls lo : List Lg}, Paired Pre ls lo → Vsd ls → rdOf L w ns lo = rdOf L w ns ls
  | _, _, .nil, _ => rfl
  | g :: ls, o :: lo, .cons a r, v => by
    have e := pre_rd (L := L) (w := w) (ns := ns) r fun g' hg => v g' (List.mem_cons_of_mem _ hg)
    show rdLog L w ns o ++ rdOf L w ns lo = rdLog L w ns g ++ rdOf L w ns ls
    rw [e, pre_log a (v g List.mem_cons_self)]
theorem ints_opt (xs : List Int) : xs.map V.int = (xs.map some).map optV := by
  rw [List.map_map]
  rfl
theorem ints_dp {K : PySem.W.Frag} {H : Hp} {t : Addr} {xs : List Int} (h : H t = some (.tup (xs.map V.int))) : Dp K H (.ref t) (.tuple ((xs.map some).map optD)) := by
  rw [ints_opt] at h
  exact .tup (.inl (.inl h)) (opts_dp _)
theorem ints_eqv {xs ys : List Int} (h : xs = ys) : PyData.eqv (.tuple ((xs.map some).map optD)) (.tuple ((ys.map some).map optD)) = true := by
  rw [vers_eqv, h]
  exact decide_eq_true rfl

/-! plain values and balances -/
def srt (xs : List Int) : List Int := xs.mergeSort fun a b => decide (a ≤ b)
theorem srt_perm (xs : List Int) : (srt xs).Perm xs := List.mergeSort_perm _ _
theorem srt_up (xs : List Int) : (srt xs).Pairwise (· ≤ ·) := by
  refine (List.pairwise_mergeSort (le := fun a b : Int => decide (a ≤ b)) (fun a b c h1 h2 => ?_) (fun a b => ?_) xs).imp fun h => of_decide_eq_true h
  · have x := of_decide_eq_true h1
    have y := of_decide_eq_true h2
    exact decide_eq_true (by omega)
  · rcases Int.le_total a b with h | h
    · rw [decide_eq_true h]; rfl
    · rw [decide_eq_true h, Bool.or_true]
theorem srt_is {xs zs : List Int} (p : zs.Perm xs) (u : zs.Pairwise (· ≤ ·)) : zs = srt xs := sorted_same (p.trans (srt_perm xs).symm) u (srt_up xs)
def valP (L w : Int) (ns : List Str) (ls : List Lg) (g : Ag) : V := valOf g (srt (rdOf L w ns ls))
def RdFew (L : Int) (ls : List Lg) : Prop := ∀ w ns, (rdOf L w ns ls).length ≤ 1000
theorem HistOk.rdFew {P : Pl} {c L : Int} {ls : List Lg} (ok : HistOk P c ls) (h : P.ms.length ≤ 6) : RdFew L ls := by
  have hl := (show Paired (fun m x => LgOk m c x) P.ms ls from ok).length
  have key : ∀ l2 : List Lg, (∀ g ∈ l2, g.slots.length ≤ 50) → ∀ w ns, (rdOf L w ns l2).length ≤ 50 * l2.length := by
    intro l2
    induction l2 with
    | nil => exact fun _ _ _ => Nat.zero_le _
    | cons g r ih =>
      intro h w ns
      have a := h g List.mem_cons_self
      have b := rdLog_len (L := L) (w := w) (ns := ns) (g := g)
      have c := ih (fun g' hg => h g' (List.mem_cons_of_mem _ hg)) w ns
      show (rdLog L w ns g ++ rdOf L w ns r).length ≤ _
      rw [List.length_append, List.length_cons]
      omega
  intro w ns
  have := key ls (fun g hg => let ⟨_, _, k⟩ := paired_mem ok g hg; k.few) w ns
  omega
structure Tm where
  f : Int
  cnt : Bool
  ns : List Str
  w : Int
def Tm.ag (t : Tm) : Ag := if t.cnt = true then .count else .sum
def TmAt (H : Hp) (a : Addr) (t : Tm) : Prop := ∃ ga na, H a = some (.tup [.int t.f, .ref ga, .ref na, .int t.w]) ∧ AgAt H ga t.ag ∧ H na = some (.tup (t.ns.map V.str))
theorem TmAt.kept {H H' : Hp} (k : KT H H') {a : Addr} {t : Tm} (h : TmAt H a t) : TmAt H' a t := let ⟨ga, na, x, y, z⟩ := h; ⟨ga, na, k _ _ x, k _ _ y, k _ _ z⟩
theorem tms_kept {H H' : Hp} (k : KT H H') {as : List Addr} {ts : List Tm} (h : Paired (TmAt H) as ts) : Paired (TmAt H') as ts := L2.Paired.mapP h fun _ _ y => y.kept k
def tmv (L : Int) (ls : List Lg) (t : Tm) : Int := if t.cnt = true then ((srt (rdOf L t.w t.ns ls)).length : Nat) else (srt (rdOf L t.w t.ns ls)).sum
theorem valP_tm {L : Int} {ls : List Lg} (t : Tm) : valP L t.w t.ns ls t.ag = .int (tmv L ls t) := by
  unfold valP tmv Tm.ag
  cases t.cnt <;> rfl
theorem Tm.agOk (t : Tm) : t.ag.Ok := by
  unfold Tm.ag
  cases t.cnt <;> trivial
theorem tms_at {H : Hp} : ∀ {as : List Addr} {ts : List Tm} {i : Nat} {a : Addr}, Paired (TmAt H) as ts → as[i]? = some a → ∃ t, ts[i]? = some t ∧ TmAt H a t
  | _, _, _, _, .nil, h => by simp at h
  | _, _, 0, _, .cons a _, h => by
    cases (Option.some.inj h)
    exact ⟨_, rfl, a⟩
  | _, _, i + 1, _, .cons _ r, h => tms_at (i := i) r h
theorem paired_of {α β : Type} {R : α → β → Prop} {G : β → Prop} : ∀ (as : List α), (∀ a ∈ as, ∃ t, R a t ∧ G t) → ∃ ts, Paired R as ts ∧ ∀ t ∈ ts, G t
  | [], _ => ⟨[], .nil, fun _ z => nomatch z⟩
  | a :: as, h => by
    obtain ⟨t, r, g⟩ := h a List.mem_cons_self
    obtain ⟨ts, p, q⟩ := paired_of as fun x hx => h x (List.mem_cons_of_mem _ hx)
    refine ⟨t :: ts, .cons r p, fun x hx => ?_⟩
    rcases List.mem_cons.mp hx with rfl | m
    · exact g
    · exact q x m
/-! a history moved in time -/
def movS (off z : Int) (s : Sl) : Sl := ⟨s.stamp + off + z, s.vers⟩
def Mov (z : Int) (g o : Lg) : Prop := o.name = g.name ∧ o.off = 0 ∧ o.slots = g.slots.map (movS g.off z)
theorem mov_log {L w k : Int} (hL : 1 ≤ L) {ns : List Str} {g o : Lg} (h : Mov (k * L) g o) : rdLog L (w + k) ns o = rdLog L w ns g := by
  obtain ⟨e1, e2, e3⟩ := h
  unfold rdLog
  rw [e1, e3, List.filterMap_map]
  split
  · refine fm_congr fun s hs => ?_
    show slotIn L (w + k) o.off (movS g.off (k * L) s) = slotIn L w g.off s
    unfold slotIn movS
    rw [e2, Int.add_zero]
    show (if (s.stamp + g.off + k * L) / L = w + k then lastO s.vers else none) = _
    rw [Int.add_mul_ediv_right _ _ (by omega)]
    by_cases c : (s.stamp + g.off) / L = w
    · rw [if_pos c, if_pos (by omega)]
    · rw [if_neg c, if_neg (by omega)]
  · rfl
theorem mov_rd {L w k : Int} (hL : 1 ≤ L) {ns : List Str} : ∀ {ls lo : List Lg}, Paired (Mov (k * L)) ls lo → rdOf L (w + k) ns lo = rdOf L w ns ls
  | _, _, .nil => rfl
  | g :: ls, o :: lo, .cons a r => by
    have e := mov_rd (w := w) hL (ns := ns) r
    show rdLog L (w + k) ns o ++ rdOf L (w + k) ns lo = rdLog L w ns g ++ rdOf L w ns ls
    rw [e, mov_log hL a]
theorem mov_rd' {L w k : Int} (hL : 1 ≤ L) {ns : List Str} {ls lo : List Lg} (h : Paired (Mov (k * L)) ls lo) : rdOf L w ns lo = rdOf L (w - k) ns ls := by
  have e := mov_rd (w := w - k) hL (ns := ns) h
  rw [Int.sub_add_cancel] at e
  exact e
/-! how great a value may be -/
theorem rd_bound {P : Pl} {c L w : Int} {ns : List Str} {ls : List Lg} (ok : HistOk P c ls) (po : PlanOk c P) : ∀ x ∈ rdOf L w ns ls, x.natAbs ≤ 2 * c.natAbs + 3 + 10 ^ 20 := by
  intro x hx
  unfold rdOf at hx
  obtain ⟨r, hr, hx⟩ := List.mem_flatten.mp hx
  obtain ⟨g, hg, rfl⟩ := List.mem_map.mp hr
  obtain ⟨m, hm, k⟩ := paired_mem ok g hg
  obtain ⟨st, z⟩ := k.slots
  have mo := po.each m hm
  unfold rdLog at hx
  split at hx
  · obtain ⟨s, hs, e⟩ := List.mem_filterMap.mp hx
    have lo : lastO s.vers = some x := by
      unfold slotIn at e
      split at e
      · exact e
      · cases e
    have mem : some x ∈ s.vers := by
      unfold lastO at lo
      split at lo
      · next v h =>
        cases lo
        exact List.mem_of_getLast? h
      · cases lo
    have b := (z.vers s hs).each x mem
    have b1 := mo.lowB
    have b2 := mo.highB
    omega
  · cases hx
theorem sum_bound {M : Nat} : ∀ {xs : List Int}, (∀ x ∈ xs, x.natAbs ≤ M) → xs.sum.natAbs ≤ xs.length * M
  | [], _ => Nat.zero_le _
  | x :: xs, h => by
    have a := h x List.mem_cons_self
    have b := sum_bound fun y hy => h y (List.mem_cons_of_mem _ hy)
    rw [List.sum_cons, List.length_cons, Nat.add_mul, Nat.one_mul]
    omega
theorem tmv_bound {L : Int} {ls : List Lg} {M : Nat} (fw : RdFew L ls) (hb : ∀ w ns, ∀ x ∈ rdOf L w ns ls, x.natAbs ≤ M) (h1 : 1 ≤ M) (t : Tm) : (tmv L ls t).natAbs ≤ 1000 * M := by
  have l := fw t.w t.ns
  have e := (srt_perm (rdOf L t.w t.ns ls)).length_eq
  unfold tmv
  split
  · have : (((srt (rdOf L t.w t.ns ls)).length : Nat) : Int).natAbs = (srt (rdOf L t.w t.ns ls)).length := Int.natAbs_natCast _
    rw [this]
    have k : 1000 * 1 ≤ 1000 * M := Nat.mul_le_mul_left _ h1
    omega
  · have b := sum_bound (M := M) (xs := srt (rdOf L t.w t.ns ls)) fun x hx => hb _ _ x ((srt_perm _).mem_iff.mp hx)
    have k : (srt (rdOf L t.w t.ns ls)).length * M ≤ 1000 * M := Nat.mul_le_mul_right _ (by omega)
    omega
theorem sumf_snoc {α : Type} {f : α → Int} {xs : List α} {i : Nat} {x : α} (h : xs[i]? = some x) : (xs.take (i + 1)).map f = (xs.take i).map f ++ [f x] := by
  rw [List.take_add_one, h, List.map_append]
  rfl

def topS (i : Nat) : Stmt := PySem.Challenge.pw_toldwhensure_k20_whole_plain_values.main.body.getD i (.Pass ⟨0, 0, 0, 0⟩)
abbrev s_window_of : Stmt := topS 1
theorem sc_window_of : FnScope ["plan", "time"] ["plan", "time"] (defScope s_window_of) := ⟨rfl, rfl, rfl, by decide +kernel, rfl, by decide +kernel, by decide +kernel⟩
abbrev s_readings : Stmt := topS 3
theorem sc_readings : FnScope ["plan", "history", "meters", "window", "name", "offset", "slots", "stamp", "versions"] ["plan", "history", "meters", "window"] (defScope s_readings) := ⟨rfl, rfl, rfl, by decide +kernel, rfl, by decide +kernel, by decide +kernel⟩
abbrev s_value_of : Stmt := topS 4
theorem sc_value_of : FnScope ["aggregate", "values", "kind", "numbers", "low", "high", "part", "whole", "value"] ["aggregate", "values"] (defScope s_value_of) := ⟨rfl, rfl, rfl, by decide +kernel, rfl, by decide +kernel, by decide +kernel⟩
abbrev s_plain_value : Stmt := topS 5
theorem sc_plain_value : FnScope ["plan", "history", "aggregate", "meters", "window"] ["plan", "history", "aggregate", "meters", "window"] (defScope s_plain_value) := ⟨rfl, rfl, rfl, by decide +kernel, rfl, by decide +kernel, by decide +kernel⟩
abbrev s_plain_balance : Stmt := topS 6
theorem sc_plain_balance : FnScope ["plan", "history", "balance", "factor", "aggregate", "meters", "window"] ["plan", "history", "balance"] (defScope s_plain_balance) := ⟨rfl, rfl, rfl, by decide +kernel, rfl, by decide +kernel, by decide +kernel⟩
abbrev s_l_draws : Stmt := topS 8
theorem sc_l_draws : FnScope ["script", "many", "cells", "rest", "draws", "k", "at", "once", "cell"] ["script", "many"] (defScope s_l_draws) := ⟨rfl, rfl, rfl, by decide +kernel, rfl, by decide +kernel, by decide +kernel⟩
abbrev s_l_take : Stmt := topS 9
theorem sc_l_take : FnScope ["draws", "many"] ["draws", "many"] (defScope s_l_take) := ⟨rfl, rfl, rfl, by decide +kernel, rfl, by decide +kernel, by decide +kernel⟩
abbrev s_l_cell : Stmt := topS 10
theorem sc_l_cell : FnScope ["script", "draws"] ["script", "draws"] (defScope s_l_cell) := ⟨rfl, rfl, rfl, by decide +kernel, rfl, by decide +kernel, by decide +kernel⟩
abbrev s_l_word : Stmt := topS 11
theorem sc_l_word : FnScope ["number", "word", "k"] ["number"] (defScope s_l_word) := ⟨rfl, rfl, rfl, by decide +kernel, rfl, by decide +kernel, by decide +kernel⟩
abbrev s_l_some_word : Stmt := topS 12
theorem sc_l_some_word : FnScope ["draws", "number", "great"] ["draws"] (defScope s_l_some_word) := ⟨rfl, rfl, rfl, by decide +kernel, rfl, by decide +kernel, by decide +kernel⟩
abbrev s_l_is_integer : Stmt := topS 13
theorem sc_l_is_integer : FnScope ["value"] ["value"] (defScope s_l_is_integer) := ⟨rfl, rfl, rfl, by decide +kernel, rfl, by decide +kernel, by decide +kernel⟩
abbrev s_l_reading : Stmt := topS 14
theorem sc_l_reading : FnScope ["draws", "meter", "number"] ["draws", "meter"] (defScope s_l_reading) := ⟨rfl, rfl, rfl, by decide +kernel, rfl, by decide +kernel, by decide +kernel⟩
abbrev s_l_plan : Stmt := topS 15
theorem sc_l_plan : FnScope ["draws", "cell", "many", "meters", "name", "low", "wide", "length", "k"] ["draws", "cell"] (defScope s_l_plan) := ⟨rfl, rfl, rfl, by decide +kernel, rfl, by decide +kernel, by decide +kernel⟩
abbrev s_l_versions : Stmt := topS 16
theorem sc_l_versions : FnScope ["draws", "meter", "versions", "many", "k", "value"] ["draws", "meter"] (defScope s_l_versions) := ⟨rfl, rfl, rfl, by decide +kernel, rfl, by decide +kernel, by decide +kernel⟩
abbrev s_l_slots : Stmt := topS 17
theorem sc_l_slots : FnScope ["draws", "meter", "most", "cell", "stamp", "slots", "k", "step"] ["draws", "meter", "most", "cell"] (defScope s_l_slots) := ⟨rfl, rfl, rfl, by decide +kernel, rfl, by decide +kernel, by decide +kernel⟩
abbrev s_l_history : Stmt := topS 18
theorem sc_l_history : FnScope ["draws", "plan", "most", "cell", "logs", "meter", "offset", "slots"] ["draws", "plan", "most", "cell"] (defScope s_l_history) := ⟨rfl, rfl, rfl, by decide +kernel, rfl, by decide +kernel, by decide +kernel⟩
abbrev s_l_chosen : Stmt := topS 19
theorem sc_l_chosen : FnScope ["draws", "names", "found", "name"] ["draws", "names"] (defScope s_l_chosen) := ⟨rfl, rfl, rfl, by decide +kernel, rfl, by decide +kernel, by decide +kernel⟩
abbrev s_l_readings : Stmt := topS 20
theorem sc_l_readings : FnScope ["plan", "history", "chosen", "window", "found", "log", "slot", "time", "value"] ["plan", "history", "chosen", "window"] (defScope s_l_readings) := ⟨rfl, rfl, rfl, by decide +kernel, rfl, by decide +kernel, by decide +kernel⟩
abbrev s_l_windows : Stmt := topS 21
theorem sc_l_windows : FnScope ["plan", "history", "found", "log", "slot"] ["plan", "history"] (defScope s_l_windows) := ⟨rfl, rfl, rfl, by decide +kernel, rfl, by decide +kernel, by decide +kernel⟩
abbrev s_l_window : Stmt := topS 22
theorem sc_l_window : FnScope ["draws", "plan", "history", "cell", "found", "window"] ["draws", "plan", "history", "cell"] (defScope s_l_window) := ⟨rfl, rfl, rfl, by decide +kernel, rfl, by decide +kernel, by decide +kernel⟩
abbrev s_l_value_of : Stmt := topS 23
theorem sc_l_value_of : FnScope ["aggregate", "values", "value"] ["aggregate", "values"] (defScope s_l_value_of) := ⟨rfl, rfl, rfl, by decide +kernel, rfl, by decide +kernel, by decide +kernel⟩
abbrev s_l_aggregate : Stmt := topS 24
theorem sc_l_aggregate : FnScope ["draws", "plan", "cell", "kind", "meter", "ends", "one", "other", "q"] ["draws", "plan", "cell"] (defScope s_l_aggregate) := ⟨rfl, rfl, rfl, by decide +kernel, rfl, by decide +kernel, by decide +kernel⟩
abbrev s_l_term : Stmt := topS 25
theorem sc_l_term : FnScope ["draws", "plan", "history", "cell", "names", "factor", "chosen", "meter"] ["draws", "plan", "history", "cell"] (defScope s_l_term) := ⟨rfl, rfl, rfl, by decide +kernel, rfl, by decide +kernel, by decide +kernel⟩
abbrev s_l_due : Stmt := topS 26
theorem sc_l_due : FnScope ["plan", "history", "aggregate", "chosen", "window"] ["plan", "history", "aggregate", "chosen", "window"] (defScope s_l_due) := ⟨rfl, rfl, rfl, by decide +kernel, rfl, by decide +kernel, by decide +kernel⟩
abbrev s_l_moved : Stmt := topS 27
theorem sc_l_moved : FnScope ["plan", "history", "windows", "later", "logs", "log", "slot"] ["plan", "history", "windows"] (defScope s_l_moved) := ⟨rfl, rfl, rfl, by decide +kernel, rfl, by decide +kernel, by decide +kernel⟩
abbrev s_l_same_value : Stmt := topS 28
theorem sc_l_same_value : FnScope ["actual", "due"] ["actual", "due"] (defScope s_l_same_value) := ⟨rfl, rfl, rfl, by decide +kernel, rfl, by decide +kernel, by decide +kernel⟩
abbrev s_law : Stmt := topS 29
theorem sc_law : FnScope ["script", "draws", "cell", "plan", "history", "names", "later", "moved", "k", "aggregate", "chosen", "window", "due", "terms", "total", "shifted", "meter", "term"] ["script"] (defScope s_law) := ⟨rfl, rfl, rfl, by decide +kernel, rfl, by decide +kernel, by decide +kernel⟩
/-- what the top has left: where each def stands; the built-ins' names are not taken -/
structure Ctx (K : PySem.W.Frag) (mg : Str → Option Value) where
  f_window_of : Addr
  fd_window_of : FuncData
  F_window_of : Fun K "window_of" "window_of" s_window_of f_window_of fd_window_of
  b_window_of : Binds K fd_window_of ["plan", "time"] []
  g_window_of : mg "window_of" = some (.ref f_window_of)
  f_readings : Addr
  fd_readings : FuncData
  F_readings : Fun K "readings" "readings" s_readings f_readings fd_readings
  b_readings : Binds K fd_readings ["plan", "history", "meters", "window"] []
  g_readings : mg "readings" = some (.ref f_readings)
  f_value_of : Addr
  fd_value_of : FuncData
  F_value_of : Fun K "value_of" "value_of" s_value_of f_value_of fd_value_of
  b_value_of : Binds K fd_value_of ["aggregate", "values"] []
  g_value_of : mg "value_of" = some (.ref f_value_of)
  f_plain_value : Addr
  fd_plain_value : FuncData
  F_plain_value : Fun K "plain_value" "plain_value" s_plain_value f_plain_value fd_plain_value
  b_plain_value : Binds K fd_plain_value ["plan", "history", "aggregate", "meters", "window"] []
  g_plain_value : mg "plain_value" = some (.ref f_plain_value)
  f_plain_balance : Addr
  fd_plain_balance : FuncData
  F_plain_balance : Fun K "plain_balance" "plain_balance" s_plain_balance f_plain_balance fd_plain_balance
  b_plain_balance : Binds K fd_plain_balance ["plan", "history", "balance"] []
  g_plain_balance : mg "plain_balance" = some (.ref f_plain_balance)
  f_l_draws : Addr
  fd_l_draws : FuncData
  F_l_draws : Fun K "_law_draws" "_law_draws" s_l_draws f_l_draws fd_l_draws
  b_l_draws : Binds K fd_l_draws ["script", "many"] []
  g_l_draws : mg "_law_draws" = some (.ref f_l_draws)
  f_l_take : Addr
  fd_l_take : FuncData
  F_l_take : Fun K "_law_take" "_law_take" s_l_take f_l_take fd_l_take
  b_l_take : Binds K fd_l_take ["draws", "many"] []
  g_l_take : mg "_law_take" = some (.ref f_l_take)
  f_l_cell : Addr
  fd_l_cell : FuncData
  F_l_cell : Fun K "_law_cell" "_law_cell" s_l_cell f_l_cell fd_l_cell
  b_l_cell : Binds K fd_l_cell ["script", "draws"] []
  g_l_cell : mg "_law_cell" = some (.ref f_l_cell)
  f_l_word : Addr
  fd_l_word : FuncData
  F_l_word : Fun K "_law_word" "_law_word" s_l_word f_l_word fd_l_word
  b_l_word : Binds K fd_l_word ["number"] []
  g_l_word : mg "_law_word" = some (.ref f_l_word)
  f_l_some_word : Addr
  fd_l_some_word : FuncData
  F_l_some_word : Fun K "_law_some_word" "_law_some_word" s_l_some_word f_l_some_word fd_l_some_word
  b_l_some_word : Binds K fd_l_some_word ["draws"] []
  g_l_some_word : mg "_law_some_word" = some (.ref f_l_some_word)
  f_l_is_integer : Addr
  fd_l_is_integer : FuncData
  F_l_is_integer : Fun K "_law_is_integer" "_law_is_integer" s_l_is_integer f_l_is_integer fd_l_is_integer
  b_l_is_integer : Binds K fd_l_is_integer ["value"] []
  g_l_is_integer : mg "_law_is_integer" = some (.ref f_l_is_integer)
  f_l_reading : Addr
  fd_l_reading : FuncData
  F_l_reading : Fun K "_law_reading" "_law_reading" s_l_reading f_l_reading fd_l_reading
  b_l_reading : Binds K fd_l_reading ["draws", "meter"] []
  g_l_reading : mg "_law_reading" = some (.ref f_l_reading)
  f_l_plan : Addr
  fd_l_plan : FuncData
  F_l_plan : Fun K "_law_plan" "_law_plan" s_l_plan f_l_plan fd_l_plan
  b_l_plan : Binds K fd_l_plan ["draws", "cell"] []
  g_l_plan : mg "_law_plan" = some (.ref f_l_plan)
  f_l_versions : Addr
  fd_l_versions : FuncData
  F_l_versions : Fun K "_law_versions" "_law_versions" s_l_versions f_l_versions fd_l_versions
  b_l_versions : Binds K fd_l_versions ["draws", "meter"] []
  g_l_versions : mg "_law_versions" = some (.ref f_l_versions)
  f_l_slots : Addr
  fd_l_slots : FuncData
  F_l_slots : Fun K "_law_slots" "_law_slots" s_l_slots f_l_slots fd_l_slots
  b_l_slots : Binds K fd_l_slots ["draws", "meter", "most", "cell"] []
  g_l_slots : mg "_law_slots" = some (.ref f_l_slots)
  f_l_history : Addr
  fd_l_history : FuncData
  F_l_history : Fun K "_law_history" "_law_history" s_l_history f_l_history fd_l_history
  b_l_history : Binds K fd_l_history ["draws", "plan", "most", "cell"] []
  g_l_history : mg "_law_history" = some (.ref f_l_history)
  f_l_chosen : Addr
  fd_l_chosen : FuncData
  F_l_chosen : Fun K "_law_chosen" "_law_chosen" s_l_chosen f_l_chosen fd_l_chosen
  b_l_chosen : Binds K fd_l_chosen ["draws", "names"] []
  g_l_chosen : mg "_law_chosen" = some (.ref f_l_chosen)
  f_l_readings : Addr
  fd_l_readings : FuncData
  F_l_readings : Fun K "_law_readings" "_law_readings" s_l_readings f_l_readings fd_l_readings
  b_l_readings : Binds K fd_l_readings ["plan", "history", "chosen", "window"] []
  g_l_readings : mg "_law_readings" = some (.ref f_l_readings)
  f_l_windows : Addr
  fd_l_windows : FuncData
  F_l_windows : Fun K "_law_windows" "_law_windows" s_l_windows f_l_windows fd_l_windows
  b_l_windows : Binds K fd_l_windows ["plan", "history"] []
  g_l_windows : mg "_law_windows" = some (.ref f_l_windows)
  f_l_window : Addr
  fd_l_window : FuncData
  F_l_window : Fun K "_law_window" "_law_window" s_l_window f_l_window fd_l_window
  b_l_window : Binds K fd_l_window ["draws", "plan", "history", "cell"] []
  g_l_window : mg "_law_window" = some (.ref f_l_window)
  f_l_value_of : Addr
  fd_l_value_of : FuncData
  F_l_value_of : Fun K "_law_value_of" "_law_value_of" s_l_value_of f_l_value_of fd_l_value_of
  b_l_value_of : Binds K fd_l_value_of ["aggregate", "values"] []
  g_l_value_of : mg "_law_value_of" = some (.ref f_l_value_of)
  f_l_aggregate : Addr
  fd_l_aggregate : FuncData
  F_l_aggregate : Fun K "_law_aggregate" "_law_aggregate" s_l_aggregate f_l_aggregate fd_l_aggregate
  b_l_aggregate : Binds K fd_l_aggregate ["draws", "plan", "cell"] []
  g_l_aggregate : mg "_law_aggregate" = some (.ref f_l_aggregate)
  f_l_term : Addr
  fd_l_term : FuncData
  F_l_term : Fun K "_law_term" "_law_term" s_l_term f_l_term fd_l_term
  b_l_term : Binds K fd_l_term ["draws", "plan", "history", "cell"] []
  g_l_term : mg "_law_term" = some (.ref f_l_term)
  f_l_due : Addr
  fd_l_due : FuncData
  F_l_due : Fun K "_law_due" "_law_due" s_l_due f_l_due fd_l_due
  b_l_due : Binds K fd_l_due ["plan", "history", "aggregate", "chosen", "window"] []
  g_l_due : mg "_law_due" = some (.ref f_l_due)
  f_l_moved : Addr
  fd_l_moved : FuncData
  F_l_moved : Fun K "_law_moved" "_law_moved" s_l_moved f_l_moved fd_l_moved
  b_l_moved : Binds K fd_l_moved ["plan", "history", "windows"] []
  g_l_moved : mg "_law_moved" = some (.ref f_l_moved)
  f_l_same_value : Addr
  fd_l_same_value : FuncData
  F_l_same_value : Fun K "_law_same_value" "_law_same_value" s_l_same_value f_l_same_value fd_l_same_value
  b_l_same_value : Binds K fd_l_same_value ["actual", "due"] []
  g_l_same_value : mg "_law_same_value" = some (.ref f_l_same_value)
  f_law : Addr
  fd_law : FuncData
  F_law : Fun K "law" "law" s_law f_law fd_law
  b_law : Binds K fd_law ["script"] []
  g_law : mg "law" = some (.ref f_law)
  m_abs : mg "abs" = none
  m_bool : mg "bool" = none
  m_int : mg "int" = none
  m_isinstance : mg "isinstance" = none
  m_len : mg "len" = none
  m_list : mg "list" = none
  m_max : mg "max" = none
  m_min : mg "min" = none
  m_range : mg "range" = none
  m_set : mg "set" = none
  m_sorted : mg "sorted" = none
  m_sum : mg "sum" = none
  m_tuple : mg "tuple" = none
def sp_window_of (K : PySem.W.Frag) : Sp := fun vs H Q _ => ∃ (p : Addr) (L t : Int) (xs : List V), vs = [.ref p, .int t] ∧ H p = some (.tup (.int L :: xs)) ∧ 1 ≤ L ∧ Q (.int (t / L)) H
section
variable {P : Program} {w : World} {K : PySem.W.Frag} {mg : Str → Option Value} {base : Heap}
theorem ok_window_of (T : Ctx K mg) (hN : base.NoSeer) (ht : P.given.tree = none) : FnOk P w K mg base CX0 34 T.f_window_of T.fd_window_of ["plan", "time"] (sp_window_of K) := by
  refine T.F_window_of.ok sc_window_of (fun vs H Q E h => ?_) (fun cdv A outer s H vs Q E hr h => ?_)
  · obtain ⟨p, L, t, xs, rfl, _⟩ := h
    rfl
  · obtain ⟨p, L, t, xs, rfl, hp, hL, q⟩ := h
    have hd0 := hr.dp
    have hd : (A.deeper (envOfC "window_of" (defScope s_window_of) s.heap.objs.size T.f_window_of cdv)).depth + 100 < recursionLimit := by omega
    refine ⟨_, (pss_one (ps_ret (pe_op (Big.op_fdivP hN ht rfl rfl rfl hd) (pv 1) (pe_ix ix_tup (pv 0) pe_int (fun _ _ => rfl))))), ?_⟩
    exact ⟨.int t, rfl, .ref p, rfl, p, _, 0, _, rfl, rfl, .inl (.inl hp), atI_nat (j := 0) rfl, _, _, rfl, rfl, (show (0 : Int) < L by omega), q⟩
end
def sp_readings (K : PySem.W.Frag) : Sp := fun vs H Q _ => ∃ (p h t : Addr) (L w : Int) (xs : List V) (ls : List Lg) (ns : List Str), vs = [.ref p, .ref h, .ref t, .int w] ∧ H p = some (.tup (.int L :: xs)) ∧ 1 ≤ L ∧ HistAt H h ls ∧ HistFew ls ∧ Vsd ls ∧ H t = some (.tup (ns.map V.str)) ∧
  ∀ (H' : Hp) (b : Addr) (zs : List Int), Same H H' → H' b = some (.tup (zs.map V.int)) → zs.Perm (rdOf L w ns ls) → zs.Pairwise (· ≤ ·) → Q (.ref b) H'
section
variable {P : Program} {w : World} {K : PySem.W.Frag} {mg : Str → Option Value} {base : Heap}
set_option pp.maxSteps 300 in
set_option maxHeartbeats 600000 in
theorem ok_readings (T : Ctx K mg) (hN : base.NoSeer) (ht : P.given.tree = none) : FnOk P w K mg base CX0 35 T.f_readings T.fd_readings ["plan", "history", "meters", "window"] (sp_readings K) := by
  refine T.F_readings.ok sc_readings (fun vs H Q E h => ?_) (fun cdv A outer s H vs Q E hr h => ?_)
  · obtain ⟨p, h', t, L, w, xs, ls, ns, rfl, _⟩ := h
    rfl
  · obtain ⟨p, h0, t, L, w, xs, ls, ns, rfl, hp, hL, ⟨gs, hh, hgs⟩, few, vsd, hns, q⟩ := h
    refine ⟨_, (pss_one (ps_ret (pe_callTy call_tuple_of (by rfl) T.m_tuple (by decide +kernel) (pa_cons (pe_callB cr_sortedI (by rfl) T.m_sorted (by decide +kernel) (pa_cons (pe_lc2 (own := [("name", 4), ("offset", 5), ("slots", 6), ("stamp", 7), ("versions", 8)]) (vs1 := [7, 8]) (g := gTup K 3 (gCons (gName 4) (gCons (gName 5) (gCons (gName 6) gNil)))) (g1 := gTup K 2 (gCons (gName 7) (gCons (gName 8) gNil))) (by rfl) sc_readings.nd (pi_tup (pv 1)) (blkOk_by (own := [("name", 4), ("offset", 5), ("slots", 6), ("stamp", 7), ("versions", 8)]) (N := ["plan", "history", "meters", "window", "name", "offset", "slots", "stamp", "versions"]) (sc := defScope s_readings) (by decide +kernel)) (by decide) (fun _ _ _ _ _ => pg_tup rfl (pgs_cons (pg_name (i := 4) sc_readings.nd rfl (Or.inl rfl)) (pgs_cons (pg_name (i := 5) sc_readings.nd rfl (Or.inl rfl)) (pgs_cons (pg_name (i := 6) sc_readings.nd rfl (Or.inl rfl)) pgs_nil)))) (fun _ _ _ _ _ => (pts_one (pt_cmpR (show OpR _ (compareOp .In) (rIn K false) from op_in_seq) (pv 4) (pv 2) rfl))) (fun _ _ _ _ _ => (show PI _ _ _ (iTup K _) from (pi_tup (pv 6)))) (fun _ _ _ _ _ => pg_tup rfl (pgs_cons (pg_name (i := 7) sc_readings.nd rfl (Or.inl rfl)) (pgs_cons (pg_name (i := 8) sc_readings.nd rfl (Or.inl rfl)) pgs_nil))) (fun _ _ _ _ _ => (pts_one (PW.pt (pw_and (pt_cmpR op_notN (pe_ix (show IxR _ (rIxT K) from ix_tup) (pv 8) (pe_un un_neg pe_int) (fun _ _ => rfl)) pe_non (nomark _)) (pw_and1 (pt_cmpR op_eq (pe_call (ok_window_of T hN ht) (hr.mono (by decide)) (by rfl) T.g_window_of T.F_window_of.kp T.b_window_of .nil pass0 (pa_cons (pv 0) (pa_cons (pe_op op_add (pv 7) (pv 5)) pa_nil))) (pv 3) (nomark _))))))) (fun _ _ _ _ _ => (pe_ix (show IxR _ (rIxT K) from ix_tup) (pv 8) (pe_un un_neg pe_int) (fun _ _ => rfl)))) pa_nil)) pa_nil)))), ?_⟩
    have big : (40000 : Nat) < sizeLine := by decide
    have gl : gs.length = ls.length := hgs.length
    have f1 := few.logs
    refine ⟨.ref h0, rfl, h0, rfl, ⟨_, .inl (.inl hh)⟩, fun D nD => EnumT.walk_threeT (K := K) (a := h0) (xs := gs.map V.ref) (by decide) (by decide) (by decide) (by decide) (by decide) (by decide) (show 4 < 9 by decide) (show 5 < 9 by decide) (show 6 < 9 by decide) (fun i H' => Same H H' ∧ H' D = some (.lst ((rdOf L w ns (ls.take i)).map V.int))) ⟨same_new nD, by rw [upd_same, List.take_zero]; rfl⟩ (fun i H' z => .inl (.inl (z.1 _ _ hh))) (fun i x H1 hx z => ?_) (fun H1 z => ?_)⟩
    · obtain ⟨s1, hD1⟩ := z
      rw [List.getElem?_map] at hx
      obtain ⟨ga, hga, rfl⟩ := Option.map_eq_some_iff.mp hx
      have il := (List.getElem?_eq_some_iff.mp hga).1
      obtain ⟨g, hg, tt, ss, hat, htt, hss⟩ := lgs_at hgs hga
      have gm := List.mem_of_getElem? hg
      have sl := few.slots g gm
      have ed := rdOf_snoc (L := L) (w := w) (ns := ns) hg
      have lacc := rdOf_len (L := L) (w := w) (ns := ns) (few.take i).slots
      rw [List.length_take] at lacc
      refine ⟨ga, _, _, _, rfl, .inl (.inl (s1 _ _ hat)), fun σ1 n1 o1 a1 a2 a3 => ?_⟩
      have n1' : σ1.length = 9 := n1
      refine ⟨.str g.name, a1, .ref t, o1 2 (by decide), t, _, rfl, .inr (.inl (.inl (s1 _ _ hns))), rfl, flat_names _, _, rfl, ?_⟩
      show if inV (.str g.name) (ns.map V.str) = true then _ else _
      rw [in_names]
      refine ite2 (fun e => ?_) (fun e => ?_)
      · have hin : g.name ∈ ns := of_decide_eq_true e
        refine ⟨.ref tt, a3, tt, rfl, ⟨_, .inl (.inl (s1 _ _ htt))⟩, EnumT.walk_twoT (K := K) (a := tt) (xs := ss.map V.ref) (by decide) (by decide) (by decide) (by omega) (by omega) (fun j H' => Same H H' ∧ H' D = some (.lst ((rdOf L w ns (ls.take i) ++ (g.slots.take j).filterMap (slotIn L w g.off)).map V.int)))
          ⟨s1, by rw [List.take_zero, List.filterMap_nil, List.append_nil]; exact hD1⟩ (fun j H' z => .inl (.inl (z.1 _ _ htt))) (fun j x H2 hx z => ?_) (fun H2 z => ?_)⟩
        · obtain ⟨s2, hD2⟩ := z
          rw [List.getElem?_map] at hx
          obtain ⟨sa, hsa0, rfl⟩ := Option.map_eq_some_iff.mp hx
          have hj := (List.getElem?_eq_some_iff.mp hsa0).1
          obtain ⟨s, hs, tv, hsa, htv⟩ := sls_at hss hsa0
          have sm := List.mem_of_getElem? hs
          obtain ⟨o, ho, hlo, _⟩ := last_at (vsd g gm s sm)
          have es := fmap_snoc (f := slotIn L w g.off) hs
          have hacc : (rdOf L w ns (ls.take i) ++ (g.slots.take j).filterMap (slotIn L w g.off)).length ≤ 4000 := by
            have := List.length_filterMap_le (slotIn L w g.off) (g.slots.take j)
            rw [List.length_take] at this
            rw [List.length_append]
            omega
          refine ⟨sa, _, _, rfl, .inl (.inl (s2 _ _ hsa)), fun σ2 n2 o2 b1 b2 => ?_⟩
          have hV : SqT K H2 tv (s.vers.map optV) := .inl (.inl (s2 _ _ htv))
          refine ⟨.ref tv, b2, _, rfl, tv, _, -1, _, rfl, rfl, hV, ho, rfl, _, rfl, ?_⟩
          cases o with
          | none =>
            refine iteF ⟨s2, ?_⟩
            have e2 : slotIn L w g.off s = none := by
              unfold slotIn
              rw [hlo]
              split <;> rfl
            rw [es, e2]
            show H2 D = some (.lst ((rdOf L w ns (ls.take i) ++ ((g.slots.take j).filterMap (slotIn L w g.off) ++ [])).map V.int))
            rw [List.append_nil]
            exact hD2
          | some v =>
            refine iteT ⟨.ref p, (o2 0 (by decide)).trans (o1 0 (by decide)), .int s.stamp, b1, .int g.off, (o2 5 (by decide)).trans a2, _, _, rfl, rfl, p, L, s.stamp + g.off, xs, rfl, s2 _ _ hp, hL, .int w, (o2 3 (by decide)).trans (o1 3 (by decide)), rfl, _, rfl, ite2 (fun e2 => ?_) (fun e2 => ?_)⟩
            · have ew : (s.stamp + g.off) / L = w := V.int.inj (of_decide_eq_true e2)
              refine ⟨.ref tv, b2, _, rfl, tv, _, -1, _, rfl, rfl, hV, ho, _, hD2, by rw [List.length_map]; omega, same_keep s2 nD, ?_⟩
              have e3 : slotIn L w g.off s = some v := by
                unfold slotIn
                rw [if_pos ew, hlo]
              rw [upd_same, es, e3, ← List.append_assoc, List.map_append (l₂ := (some v).toList)]
              rfl
            · have nw : ¬ (s.stamp + g.off) / L = w := fun z => e2 (decide_eq_true (congrArg V.int z))
              have e3 : slotIn L w g.off s = none := by
                unfold slotIn
                rw [if_neg nw]
              refine ⟨s2, ?_⟩
              rw [es, e3]
              show H2 D = some (.lst ((rdOf L w ns (ls.take i) ++ ((g.slots.take j).filterMap (slotIn L w g.off) ++ [])).map V.int))
              rw [List.append_nil]
              exact hD2
        · obtain ⟨s2, hD2⟩ := z
          rw [List.length_map, hss.length, List.take_length] at hD2
          refine ⟨s2, ?_⟩
          rw [ed]
          unfold rdLog
          rw [if_pos hin]
          exact hD2
      · have hin : ¬ g.name ∈ ns := fun z => e (decide_eq_true z)
        refine ⟨s1, ?_⟩
        rw [ed]
        unfold rdLog
        rw [if_neg hin, List.append_nil]
        exact hD1
    · obtain ⟨s1, hD1⟩ := z
      rw [List.length_map, gl, List.take_length] at hD1
      exact ⟨D, _, rfl, .inl (.inl hD1), fun ws L' pm up nL => ⟨L', _, rfl, .inl ⟨.inl (.inl upd_same), fun b nb => q _ b ws ((s1.trans (same_new nL)).trans (same_new nb)) upd_same pm up⟩⟩⟩
end
def sp_value_of (K : PySem.W.Frag) : Sp := fun vs H Q _ => ∃ (a v : Addr) (g : Ag) (xs : List Int), vs = [.ref a, .ref v] ∧ AgAt H a g ∧ H v = some (.tup (xs.map V.int)) ∧ xs.length ≤ 1000 ∧ g.Ok ∧ ∀ H', Same H H' → Q (valOf g xs) H'
section
variable {P : Program} {w : World} {K : PySem.W.Frag} {mg : Str → Option Value} {base : Heap}
theorem ok_value_of (T : Ctx K mg) : FnOk P w K mg base CX0 1 T.f_value_of T.fd_value_of ["aggregate", "values"] (sp_value_of K) := by
  refine T.F_value_of.ok sc_value_of (fun vs H Q E h => ?_) (fun cdv A outer s H vs Q E hr h => ?_)
  · obtain ⟨a, v, g, xs, rfl, _⟩ := h
    rfl
  · obtain ⟨a, v, g, xs, rfl, ha, hv, few, ok, q⟩ := h
    refine ⟨_, (pss_cons (ps_asg (pv 0) (Star2.pg_star (i := 1) rfl (pgs_cons (pg_name (i := 2) sc_value_of.nd rfl (Or.inl rfl)) (Star2.pgs_star (pg_name (i := 3) sc_value_of.nd rfl (Or.inl rfl))))))
      (pss_cons (ps_if (pt_cmpR op_eq (pv 2) pe_str (nomark _))
        (pss_one (ps_ret (pe_callB call_len_seq (by rfl) T.m_len (by decide +kernel) (pa_cons (pv 1) pa_nil))))
        pss_nil)
      (pss_cons (ps_if (pt_cmpR op_eq (pv 2) pe_str (nomark _))
        (pss_cons (ps_asg (pv 3) (pg_lst (by rfl) (pgs_cons (pg_name (i := 4) sc_value_of.nd rfl (Or.inr rfl)) (pgs_cons (pg_name (i := 5) sc_value_of.nd rfl (Or.inr rfl)) pgs_nil))))
      (pss_one (ps_ret (pe_callB call_len_seq (by rfl) T.m_len (by decide +kernel) (pa_cons (pe_lc (own := [("value", 8)]) (g := gName 8) (by rfl) sc_value_of.nd (pi_tup (pv 1)) (blkOk_by (own := [("value", 8)]) (N := ["aggregate", "values", "kind", "numbers", "low", "high", "part", "whole", "value"]) (sc := defScope s_value_of) (by decide +kernel)) (fun _ _ _ _ _ => pg_name (i := 8) sc_value_of.nd rfl (Or.inl rfl)) (fun _ _ _ _ _ => (pts_one (pt_chain op_le op_le (pv 4) (pv 8) (pv 5)))) (fun _ _ _ _ _ => (pv 8))) pa_nil)))))
        pss_nil)
      (pss_cons (ps_if (pt_cmpR op_eq (pv 2) pe_str (nomark _))
        (pss_one (ps_ret (pe_callB (SumT.cr_sumT rfl) (by rfl) T.m_sum (by decide +kernel) (pa_cons (pv 1) pa_nil))))
        pss_nil)
      (pss_cons (ps_if (pt_cmpR op_eq (pe_callB call_len_seq (by rfl) T.m_len (by decide +kernel) (pa_cons (pv 1) pa_nil)) pe_int (nomark _))
        (pss_one (ps_ret pe_non))
        pss_nil)
      (pss_cons (ps_asg (pv 3) (pg_lst (by rfl) (pgs_cons (pg_name (i := 6) sc_value_of.nd rfl (Or.inl rfl)) (pgs_cons (pg_name (i := 7) sc_value_of.nd rfl (Or.inl rfl)) pgs_nil))))
      (pss_one (ps_ret (pe_ix ix_tup (pv 1) (pe_op op_fdiv (pe_op op_mul (pe_op op_sub (pe_callB call_len_seq (by rfl) T.m_len (by decide +kernel) (pa_cons (pv 1) pa_nil)) pe_int) (pv 6)) (pv 7)) (fun _ _ => rfl)))))))))), ?_⟩
    cases g with
    | count =>
      refine ⟨.ref a, rfl, a, _, rfl, .inl (.inl ha), by decide, fun N nN => ⟨_, _, rfl, _, _, rfl, rfl, .str "count", rfl, rfl, _, rfl, ite2 (fun _ => ?_) (fun e => absurd (decide_eq_true rfl) e)⟩⟩
      have s1 := same_new (o := .lst (List.drop 1 (Ag.vals .count))) nN
      have qq := q _ s1
      refine ⟨.ref v, rfl, v, _, rfl, .inr (.inl (.inl (s1 _ _ hv))), ?_⟩
      rw [List.length_map]
      exact qq
    | among lo hi =>
      refine ⟨.ref a, rfl, a, _, rfl, .inl (.inl ha), by show 1 ≤ 3; omega, fun N nN => ⟨_, _, rfl, _, _, rfl, rfl, .str "among", rfl, rfl, _, rfl, ite2 (fun e => absurd e (by decide +kernel)) (fun _ => ?_)⟩⟩
      have s1 := same_new (o := .lst (List.drop 1 (Ag.vals (.among lo hi)))) nN
      have hN : upd H N (.lst (List.drop 1 (Ag.vals (.among lo hi)))) N = some (.lst [.int lo, .int hi]) := upd_same
      generalize upd H N (.lst (List.drop 1 (Ag.vals (.among lo hi)))) = H1 at s1 hN ⊢
      refine ⟨.str "among", rfl, rfl, _, rfl, ite2 (fun _ => ?_) (fun e => absurd (decide_eq_true rfl) e)⟩
      refine ⟨.ref N, rfl, N, _, rfl, .inl (.inl hN), rfl, _, _, rfl, _, _, rfl, rfl, ?_⟩
      have hv1 := s1 _ _ hv
      refine ⟨.ref v, rfl, v, rfl, ⟨_, .inl (.inl hv1)⟩, fun C nC => lc_tup (K := K) (a := v) (xs := xs.map V.int) (fun i H' => Same H1 H' ∧ H' C = some (.lst (((xs.take i).filter (within lo hi)).map V.int))) ⟨same_new nC, upd_same⟩ (fun i H' _ z => .inl (.inl (z.1 _ _ hv1))) (fun i x H' hx z => ?_) (fun H' z => ?_)⟩
      · obtain ⟨s2, hC⟩ := z
        obtain ⟨k, hk, rfl⟩ := int_at hx
        have il := (List.getElem?_eq_some_iff.mp hk).1
        have fl := filt_snoc (within lo hi) hk
        have l1 : ((xs.take i).filter (within lo hi)).length ≤ i := Nat.le_trans (List.length_filter_le _ _) (by rw [List.length_take]; omega)
        refine ⟨rfl, .int lo, rfl, .int k, rfl, _, _, rfl, rfl, _, rfl, ite2 (fun e1 => ?_) (fun e1 => ?_)⟩
        · have c1 : lo ≤ k := of_decide_eq_true e1
          refine ⟨.int hi, rfl, _, _, rfl, rfl, _, rfl, ite2 (fun e2 => ?_) (fun e2 => ?_)⟩
          · have c2 : k ≤ hi := of_decide_eq_true e2
            have w : within lo hi k = true := by
              show (decide (lo ≤ k) && decide (k ≤ hi)) = true
              rw [e1, e2]; rfl
            rw [if_pos w] at fl
            refine ⟨.int k, rfl, _, hC, by rw [List.length_map]; exact small (by omega), same_keep s2 nC, ?_⟩
            rw [upd_same, fl, List.map_append]
            rfl
          · have w : ¬ within lo hi k = true := fun z => e2 (Bool.and_eq_true_iff.mp z).2
            rw [if_neg w, List.append_nil] at fl
            exact ⟨s2, by rw [fl]; exact hC⟩
        · have w : ¬ within lo hi k = true := fun z => e1 (Bool.and_eq_true_iff.mp z).1
          rw [if_neg w, List.append_nil] at fl
          exact ⟨_, rfl, iteF ⟨s2, by rw [fl]; exact hC⟩⟩
      · obtain ⟨s2, hC⟩ := z
        rw [List.length_map, List.take_length] at hC
        refine ⟨C, _, rfl, .inl (.inl (.inl hC)), ?_⟩
        rw [List.length_map]
        exact q _ (s1.trans s2)
    | sum =>
      refine ⟨.ref a, rfl, a, _, rfl, .inl (.inl ha), by decide, fun N nN => ⟨_, _, rfl, _, _, rfl, rfl, .str "sum", rfl, rfl, _, rfl, ite2 (fun e => absurd e (by decide +kernel)) (fun _ => ?_)⟩⟩
      have s1 := same_new (o := .lst (List.drop 1 (Ag.vals .sum))) nN
      have qq := q _ s1
      refine ⟨.str "sum", rfl, rfl, _, rfl, ite2 (fun e => absurd e (by decide +kernel)) (fun _ => ?_)⟩
      refine ⟨.str "sum", rfl, rfl, _, rfl, ite2 (fun _ => ?_) (fun e => absurd (decide_eq_true rfl) e)⟩
      exact ⟨.ref v, rfl, v, xs, rfl, .inl (.inl (s1 _ _ hv)), qq⟩
    | rank pp qq =>
      refine ⟨.ref a, rfl, a, _, rfl, .inl (.inl ha), by show 1 ≤ 3; omega, fun N nN => ⟨_, _, rfl, _, _, rfl, rfl, .str "rank", rfl, rfl, _, rfl, ite2 (fun e => absurd e (by decide +kernel)) (fun _ => ?_)⟩⟩
      have s1 := same_new (o := .lst (List.drop 1 (Ag.vals (.rank pp qq)))) nN
      have hN : upd H N (.lst (List.drop 1 (Ag.vals (.rank pp qq)))) N = some (.lst [.int pp, .int qq]) := upd_same
      generalize upd H N (.lst (List.drop 1 (Ag.vals (.rank pp qq)))) = H1 at s1 hN ⊢
      have q1 := q _ s1
      have hT : SqT K H1 v (xs.map V.int) := .inl (.inl (s1 _ _ hv))
      refine ⟨.str "rank", rfl, rfl, _, rfl, ite2 (fun e => absurd e (by decide +kernel)) (fun _ => ?_)⟩
      refine ⟨.str "rank", rfl, rfl, _, rfl, ite2 (fun e => absurd e (by decide +kernel)) (fun _ => ?_)⟩
      refine ⟨.ref v, rfl, v, _, rfl, .inr hT, rfl, _, rfl, ite2 (fun e => ?_) (fun e => ?_)⟩
      · have e0 : xs = [] := by
          have z : ((xs.map V.int).length : Int) = 0 := V.int.inj (of_decide_eq_true e)
          rw [List.length_map] at z
          exact List.length_eq_zero_iff.mp (by omega)
        rw [e0, rank_nil] at q1
        exact q1
      · have hn : xs ≠ [] := fun z => by
          subst z
          exact e (decide_eq_true rfl)
        obtain ⟨h0, h1, h2, h3⟩ := ok
        obtain ⟨k, hk, ea, ev⟩ := rank_at hn h0 h1 h2
        rw [ev] at q1
        refine ⟨.ref N, rfl, N, _, rfl, .inl (.inl hN), rfl, _, _, rfl, _, _, rfl, rfl, ?_⟩
        refine ⟨.ref v, rfl, .ref v, rfl, v, _, rfl, .inr hT, _, _, rfl, rfl, .int pp, rfl, _, _, rfl, rfl, .inl ⟨?_, ?_⟩, .int qq, rfl, _, _, rfl, rfl, ?_, v, _, _, _, rfl, rfl, hT, ?_, q1⟩
        · rw [List.length_map]; omega
        · rw [List.length_map]; omega
        · exact ⟨by omega, by omega⟩
        · rw [List.length_map]
          exact ea
end
def sp_plain_value (K : PySem.W.Frag) : Sp := fun vs H Q _ => ∃ (p h a t : Addr) (L w : Int) (xs : List V) (ls : List Lg) (ns : List Str) (g : Ag), vs = [.ref p, .ref h, .ref a, .ref t, .int w] ∧ H p = some (.tup (.int L :: xs)) ∧ 1 ≤ L ∧ HistAt H h ls ∧ HistFew ls ∧ Vsd ls ∧ RdFew L ls ∧ AgAt H a g ∧ g.Ok ∧ H t = some (.tup (ns.map V.str)) ∧
  ∀ (H' : Hp), Same H H' → Q (valP L w ns ls g) H'
section
variable {P : Program} {w : World} {K : PySem.W.Frag} {mg : Str → Option Value} {base : Heap}
set_option pp.maxSteps 300 in
theorem ok_plain_value (T : Ctx K mg) (hN : base.NoSeer) (ht : P.given.tree = none) : FnOk P w K mg base CX0 36 T.f_plain_value T.fd_plain_value ["plan", "history", "aggregate", "meters", "window"] (sp_plain_value K) := by
  refine T.F_plain_value.ok sc_plain_value (fun vs H Q E h => ?_) (fun cdv A outer s H vs Q E hr h => ?_)
  · obtain ⟨p, h', a, t, L, w, xs, ls, ns, g, rfl, _⟩ := h
    rfl
  · obtain ⟨p, h0, a, t, L, w, xs, ls, ns, g, rfl, hp, hL, hh, few, vsd, fw, ha, ok, hns, q⟩ := h
    refine ⟨_, (pss_one (ps_ret (pe_call (ok_value_of T) (hr.mono (by decide)) (by rfl) T.g_value_of T.F_value_of.kp T.b_value_of .nil pass0 (pa_cons (pv 2) (pa_cons (pe_call (ok_readings T hN ht) (hr.mono (by decide)) (by rfl) T.g_readings T.F_readings.kp T.b_readings .nil pass0 (pa_cons (pv 0) (pa_cons (pv 1) (pa_cons (pv 3) (pa_cons (pv 4) pa_nil))))) pa_nil))))), ?_⟩
    refine ⟨.ref a, rfl, .ref p, rfl, .ref h0, rfl, .ref t, rfl, .int w, rfl, p, h0, t, L, w, xs, ls, ns, rfl, hp, hL, hh, few, vsd, hns, fun H1 b zs s1 hb pm up => ?_⟩
    obtain rfl := srt_is pm up
    have lz := pm.length_eq
    have l2 := fw w ns
    exact ⟨a, b, g, _, rfl, s1 _ _ ha, hb, by omega, ok, fun H2 s2 => q H2 (s1.trans s2)⟩
end
def sp_plain_balance (K : PySem.W.Frag) : Sp := fun vs H Q _ => ∃ (p h b : Addr) (L : Int) (xs : List V) (ls : List Lg) (as : List Addr) (ts : List Tm), vs = [.ref p, .ref h, .ref b] ∧ H p = some (.tup (.int L :: xs)) ∧ 1 ≤ L ∧ HistAt H h ls ∧ HistFew ls ∧ Vsd ls ∧ RdFew L ls ∧ H b = some (.tup (as.map V.ref)) ∧ Paired (TmAt H) as ts ∧ ts.length ≤ 1000 ∧ (∀ t ∈ ts, CMulX t.f (tmv L ls t)) ∧
  ∀ (H' : Hp), Same H H' → Q (.int (ts.map fun t => t.f * tmv L ls t).sum) H'
section
variable {P : Program} {w : World} {K : PySem.W.Frag} {mg : Str → Option Value} {base : Heap}
set_option pp.maxSteps 300 in
set_option maxHeartbeats 600000 in
theorem ok_plain_balance (T : Ctx K mg) (hN : base.NoSeer) (ht : P.given.tree = none) : FnOk P w K mg base CX0 37 T.f_plain_balance T.fd_plain_balance ["plan", "history", "balance"] (sp_plain_balance K) := by
  refine T.F_plain_balance.ok sc_plain_balance (fun vs H Q E h => ?_) (fun cdv A outer s H vs Q E hr h => ?_)
  · obtain ⟨p, h', b, L, xs, ls, as, ts, rfl, _⟩ := h
    rfl
  · obtain ⟨p, h0, b, L, xs, ls, as, ts, rfl, hp, hL, hh, few, vsd, fw, hb, hts, tl, hm, q⟩ := h
    refine ⟨_, (pss_one (ps_ret (pe_callB (cr_sum rfl) (by rfl) T.m_sum (by decide +kernel) (pa_cons (pe_lc (own := [("factor", 3), ("aggregate", 4), ("meters", 5), ("window", 6)]) (g := gTup K 4 (gCons (gName 3) (gCons (gName 4) (gCons (gName 5) (gCons (gName 6) gNil))))) (by rfl) sc_plain_balance.nd (pi_tup (pv 2)) (blkOk_by (own := [("factor", 3), ("aggregate", 4), ("meters", 5), ("window", 6)]) (N := ["plan", "history", "balance", "factor", "aggregate", "meters", "window"]) (sc := defScope s_plain_balance) (by decide +kernel)) (fun _ _ _ _ _ => pg_tup rfl (pgs_cons (pg_name (i := 3) sc_plain_balance.nd rfl (Or.inl rfl)) (pgs_cons (pg_name (i := 4) sc_plain_balance.nd rfl (Or.inl rfl)) (pgs_cons (pg_name (i := 5) sc_plain_balance.nd rfl (Or.inl rfl)) (pgs_cons (pg_name (i := 6) sc_plain_balance.nd rfl (Or.inl rfl)) pgs_nil))))) (fun _ _ _ _ _ => pts_nil) (fun _ _ _ _ _ => (pe_op op_mulX (pv 3) (pe_call (ok_plain_value T hN ht) (hr.mono (by decide)) (by rfl) T.g_plain_value T.F_plain_value.kp T.b_plain_value .nil pass0 (pa_cons (pv 0) (pa_cons (pv 1) (pa_cons (pv 4) (pa_cons (pv 5) (pa_cons (pv 6) pa_nil))))))))) pa_nil)))), ?_⟩
    have al := hts.length
    refine ⟨.ref b, rfl, b, rfl, ⟨_, .inl (.inl hb)⟩, fun C nC => lc_tup (K := K) (a := b) (xs := as.map V.ref) (fun i H' => Same H H' ∧ H' C = some (.lst (((ts.take i).map fun t => t.f * tmv L ls t).map V.int))) ⟨same_new nC, by rw [upd_same, List.take_zero]; rfl⟩ (fun i H' _ z => .inl (.inl (z.1 _ _ hb))) (fun i x H1 hx z => ?_) (fun H1 z => ?_)⟩
    · obtain ⟨s1, hC⟩ := z
      rw [List.getElem?_map] at hx
      obtain ⟨a, ha, rfl⟩ := Option.map_eq_some_iff.mp hx
      have il := (List.getElem?_eq_some_iff.mp ha).1
      obtain ⟨t, hti, ga, na, h1, h2, h3⟩ := tms_at hts ha
      have tm := List.mem_of_getElem? hti
      refine ⟨a, _, rfl, .inl (.inl (s1 _ _ h1)), rfl, _, _, rfl, _, _, rfl, _, _, rfl, _, _, rfl, rfl, rfl, ?_⟩
      refine ⟨.int t.f, rfl, .ref p, rfl, .ref h0, rfl, .ref ga, rfl, .ref na, rfl, .int t.w, rfl, p, h0, ga, na, L, t.w, xs, ls, t.ns, t.ag, rfl, s1 _ _ hp, hL, hh.kept (Same.kt s1), few, vsd, fw, s1 _ _ h2, t.agOk, s1 _ _ h3, fun H2 s2 => ?_⟩
      rw [valP_tm]
      refine ⟨_, _, rfl, rfl, hm t tm, _, s2 _ _ hC, by rw [List.length_map, List.length_map, List.length_take]; exact small (n := 1000) (by omega) |> Nat.lt_of_le_of_lt (by omega), same_keep (s1.trans s2) nC, ?_⟩
      rw [upd_same, sumf_snoc hti, List.map_append (l₂ := [t.f * tmv L ls t])]
      rfl
    · obtain ⟨s1, hC⟩ := z
      rw [List.length_map, al, List.take_length] at hC
      exact ⟨C, _, rfl, .inl (.inl hC), q _ s1⟩
end
def sp_l_draws (K : PySem.W.Frag) : Sp := fun vs H Q _ => ∃ (a : Addr) (ns : List Int) (m : Nat), vs = [.ref a, .int (m : Int)] ∧ SqL K H a (ns.map V.int) ∧ ns.length ≤ 1000 ∧ m ≤ 1000 ∧
  ∀ H' d, Same H H' → H d = none → DrA H' d → Q (.ref d) H'
section
variable {P : Program} {w : World} {K : PySem.W.Frag} {mg : Str → Option Value} {base : Heap}
theorem ok_l_draws (T : Ctx K mg) : FnOk P w K mg base CX0 1 T.f_l_draws T.fd_l_draws ["script", "many"] (sp_l_draws K) := by
  refine T.F_l_draws.ok sc_l_draws (fun vs H Q E h => ?_) (fun cdv A outer s H vs Q E hr h => ?_)
  · obtain ⟨a, ns, m, rfl, _⟩ := h
    rfl
  · obtain ⟨a, ns, m, rfl, hS, hlen, hm, q⟩ := h
    refine ⟨_, (pss_cons (ps_setLc (i := 2) (own := [("cell", 8)]) (g := gName 8) (by rfl) sc_l_draws.nd rfl rfl (sw_true rfl rfl rfl (by decide +kernel)) (pi_list (pv 0)) (blkOk_by (own := [("cell", 8)]) (N := ["script", "many", "cells", "rest", "draws", "k", "at", "once", "cell"]) (sc := defScope s_l_draws) (by decide +kernel)) (fun _ _ _ _ _ => pg_name (i := 8) sc_l_draws.nd rfl (Or.inl rfl)) (fun _ _ _ _ _ => pts_nil) (fun _ _ _ _ _ => (pe_callTy call_int1 (by rfl) T.m_int (by decide +kernel) (pa_cons (pv 8) pa_nil))))
      (pss_cons (ps_if (pt_cmpR op_eq (pe_callB call_len_seq (by rfl) T.m_len (by decide +kernel) (pa_cons (pv 2) pa_nil)) pe_int (nomark _))
        (pss_one (ps_expr (pe_bm PySem.F.plainAttrs_list PySem.F.slot_list_append PySem.F.type_list_append mt_append (pv 2) (pa_cons pe_int pa_nil))))
        pss_nil)
      (pss_cons (ps_set (i := 3) sc_l_draws.nd rfl (.inl rfl) (pe_callTy call_list_of (by rfl) T.m_list (by decide +kernel) (pa_cons (pv 2) pa_nil)))
      (pss_cons (ps_set (i := 4) sc_l_draws.nd rfl (.inl rfl) (pe_lst pa_nil))
      (pss_cons (ps_for PassesOwn.never rfl (pi_range1 (by rfl) T.m_range (pa_cons (pv 1) pa_nil)) (pg_name (i := 5) sc_l_draws.nd rfl (.inl rfl))
        (pss_cons (ps_set (i := 6) sc_l_draws.nd rfl (.inl rfl) (pe_op op_mod (pv 5) (pe_callB call_len_seq (by rfl) T.m_len (by decide +kernel) (pa_cons (pv 2) pa_nil))))
      (pss_one (ps_if (pt_cmpR op_ge (pe_ix ix_list (pv 2) (pv 6) (fun _ _ => rfl)) (pe_op op_pow pe_int pe_int) (nomark _))
        (pss_cons (ps_expr (pe_bm PySem.F.plainAttrs_list PySem.F.slot_list_append PySem.F.type_list_append mt_append (pv 4) (pa_cons (pe_op op_mod (pe_callTy call_int1 (by rfl) T.m_int (by decide +kernel) (pa_cons (pe_ix ix_list (pv 3) (pv 6) (fun _ _ => rfl)) pa_nil)) pe_int) pa_nil)))
      (pss_one (ps_asg (pe_op op_fdiv (pe_ix ix_list (pv 3) (pv 6) (fun _ _ => rfl)) pe_int) (pg_sub (pv 3) (pv 6) set_list))))
        (pss_cons (ps_set (i := 7) sc_l_draws.nd rfl (.inl rfl) (pe_op op_mod (pe_callTy call_int1 (by rfl) T.m_int (by decide +kernel) (pa_cons (pe_op op_add (pe_op op_add (pe_op op_mul (pe_ix ix_list (pv 2) (pv 6) (fun _ _ => rfl)) pe_int) (pe_op op_mul (pv 5) pe_int)) pe_int) pa_nil)) pe_int))
      (pss_one (ps_expr (pe_bm PySem.F.plainAttrs_list PySem.F.slot_list_append PySem.F.type_list_append mt_append (pv 4) (pa_cons (pe_op op_mod (pe_callTy call_int1 (by rfl) T.m_int (by decide +kernel) (pa_cons (pe_op op_add (pe_op op_add (pe_op op_mul (pv 7) (pv 7)) (pe_op op_mul pe_int (pv 7))) (pv 5)) pa_nil)) pe_int) pa_nil)))))))))
      (pss_cons (ps_expr (pe_bm0 PySem.F.plainAttrs_list PySem.F.slot_list_reverse PySem.F.type_list_reverse mt_reverse (pv 4)))
      (pss_one (ps_ret (pv 4))))))))), ?_⟩
    -- cells = [int(cell) for cell in script]
    refine ⟨.ref a, rfl, a, rfl, ⟨_, hS⟩, fun C hC => lc_list (K := K) (a := a) (xs := ns.map V.int) (fun i H1 => Same H H1 ∧ H1 C = some (.lst ((ns.take i).map V.int))) ⟨same_new hC, upd_same⟩ (fun i H1 _ p => p.1.seq hS) (fun i x H1 hx p => ?_) (fun H1 p => ?_)⟩
    · obtain ⟨hlt, hx'⟩ := List.getElem?_eq_some_iff.mp hx
      rw [List.length_map] at hlt
      have ex : x = .int ns[i] := by
        rw [← hx', List.getElem_map]
      subst ex
      refine ⟨rfl, _, rfl, .inl ⟨_, rfl, _, p.2, ?_, ?_, ?_⟩⟩
      · rw [List.length_map, List.length_take]
        exact small (by omega)
      · exact fun b o e => by
          rw [upd_ne (ne_of_none e hC)]
          exact p.1 b o e
      · rw [upd_same, List.take_add_one, List.getElem?_eq_getElem hlt, List.map_append]
        rfl
    · rw [List.length_map, List.take_length] at p
      obtain ⟨s1, hc⟩ := p
      refine ⟨.ref C, rfl, C, _, rfl, .inl (.inl (.inl hc)), rfl, _, rfl, ite2 (fun e => ?c1) (fun e => ?c2)⟩
      case' c1 =>
        have e0 : ns = [] := by
          have z : ((ns.map V.int).length : Int) = 0 := V.int.inj (of_decide_eq_true e)
          rw [List.length_map] at z
          exact List.length_eq_zero_iff.mp (by omega)
        subst e0
        refine ⟨.ref C, rfl, .inl ⟨rfl, _, .inl (.inl hc)⟩, C, _, _, rfl, rfl, hc, small (by decide), ?_⟩
        obtain ⟨H2, cs, hH, hcs, hcl, s2, hc2⟩ : ∃ (H2 : Hp) (cs : List Int), H2 = upd H1 C (.lst (List.map V.int [] ++ [.int 0])) ∧ cs ≠ [] ∧ cs.length ≤ 1000 ∧ Same H H2 ∧ H2 C = some (.lst (cs.map V.int)) :=
          ⟨_, [0], rfl, by simp, by decide, fun b o e => by rw [upd_ne (ne_of_none e hC)]; exact s1 b o e, upd_same⟩
        rw [← hH]
      case' c2 =>
        obtain ⟨H2, cs, hH, hcs, hcl, s2, hc2⟩ : ∃ (H2 : Hp) (cs : List Int), H2 = H1 ∧ cs ≠ [] ∧ cs.length ≤ 1000 ∧ Same H H2 ∧ H2 C = some (.lst (cs.map V.int)) :=
          ⟨H1, ns, rfl, fun z => by subst z; exact e (decide_eq_true rfl), hlen, s1, hc⟩
        rw [← hH]
      all_goals (
        have hcl0 : 0 < cs.length := by cases cs with | nil => exact absurd rfl hcs | cons x r => exact Nat.succ_pos _
        refine ⟨.ref C, rfl, C, _, rfl, .inl (.inl (.inl hc2)), fun r nr => ⟨Nat.zero_le _, fun D nD => ⟨.int m, rfl, m, rfl, by omega, by omega, ?_⟩⟩⟩
        have nrC : C ≠ r := ne_of_none hc2 nr
        have nDr : D ≠ r := fun e => by rw [e, upd_same] at nD; cases nD
        have nDC : C ≠ D := fun e => by rw [← e, upd_ne nrC, hc2] at nD; cases nD
        have nHD : H D = none := s2.free (by rw [upd_ne nDr] at nD; exact nD)
        have nHr : H r = none := s2.free nr
        refine for_range (lo := 0) (n := m) (fun i σ H3 => ∃ (y5 y6 y7 y8 : Option V) (rs ds : List Int), σ = [some (.ref a), some (.int m), some (.ref C), some (.ref r), some (.ref D), y5, y6, y7, y8] ∧
          Same H H3 ∧ H3 C = some (.lst (cs.map V.int)) ∧ H3 r = some (.lst (rs.map V.int)) ∧ rs.length = cs.length ∧ H3 D = some (.lst (ds.map V.int)) ∧ ds.length = i) ?_ (fun i σ H3 hi hp => ?_) (fun σ H3 hp => ?_)
        · refine ⟨none, none, none, none, cs, [], rfl, (s2.trans (same_new nr)).trans (same_new nD), ?_, ?_, rfl, upd_same, rfl⟩
          · rw [upd_ne nDC, upd_ne nrC]; exact hc2
          · rw [upd_ne nDr.symm, upd_same]
        · obtain ⟨y5, y6, y7, y8, rs, ds, rfl, s3, hC3, hr3, hrl, hD3, hdl⟩ := hp
          have e0 : (0 : Int) + (i : Int) = (i : Int) := by omega
          have hk0 : 0 ≤ ((0 : Int) + (i : Int)) % (cs.length : Int) := Int.emod_nonneg _ (by omega)
          have hk1 : ((0 : Int) + (i : Int)) % (cs.length : Int) < (cs.length : Int) := Int.emod_lt_of_pos _ (by omega)
          have hlenC : ((cs.map V.int).length : Int) = (cs.length : Int) := by rw [List.length_map]
          have hSC : SqL K H3 C (cs.map V.int) := .inl (.inl hC3)
          have hSr : SqL K H3 r (rs.map V.int) := .inl (.inl hr3)
          have more : ∀ (z : Int) (H4 : Hp), (∀ b o, H3 b = some o → b ≠ D → b ≠ r → H4 b = some o) → ∀ rs' : List Int, rs'.length = cs.length → H4 r = some (.lst (rs'.map V.int)) → H4 D = some (.lst (ds.map V.int ++ [.int z])) → ∀ y6 y7 : Option V,
              ∃ (z5 z6 z7 z8 : Option V) (rs ds : List Int), [some (.ref a), some (.int m), some (.ref C), some (.ref r), some (.ref D), some (.int ((0 : Int) + (i : Int))), y6, y7, y8] = [some (.ref a), some (.int m), some (.ref C), some (.ref r), some (.ref D), z5, z6, z7, z8] ∧
              Same H H4 ∧ H4 C = some (.lst (cs.map V.int)) ∧ H4 r = some (.lst (rs.map V.int)) ∧ rs.length = cs.length ∧ H4 D = some (.lst (ds.map V.int)) ∧ ds.length = i + 1 := fun z H4 k rs' hl' hr' hd' y6 y7 => by
            refine ⟨_, _, _, _, rs', ds ++ [z], rfl, fun b o e => k b o (s3 b o e) (ne_of_none e nHD) (ne_of_none e nHr), k C _ hC3 nDC nrC, hr', hl', ?_, ?_⟩
            · rw [hd', List.map_append]; rfl
            · rw [List.length_append, hdl]; rfl
          refine ⟨.int (0 + (i : Int)), rfl, .ref C, rfl, C, _, rfl, .inl hSC, _, _, rfl, rfl, by rw [hlenC]; omega, ?_⟩
          rw [hlenC]
          dsimp only
          generalize hkk : ((0 : Int) + (i : Int)) % (cs.length : Int) = kk at hk0 hk1 ⊢
          have hat : atI (cs.map V.int) kk = some (.int (cs[kk.toNat]'(by omega))) := atM_pos hk0 hk1
          have har : atI (rs.map V.int) kk = some (.int (rs[kk.toNat]'(by omega))) := atM_pos hk0 (by omega)
          generalize cs[kk.toNat]'(by omega) = cv at hat
          generalize rs[kk.toNat]'(by omega) = rv at har
          refine ⟨.ref C, rfl, .int kk, rfl, C, _, kk, _, rfl, rfl, hSC, hat, 10, 18, rfl, rfl, ⟨by decide, by decide, by decide⟩, _, _, rfl, rfl, _, rfl, ite2 (fun e => ?_) (fun e => ?_)⟩
          · have hge : (10 : Int) ^ (18 : Int).toNat ≤ cv := of_decide_eq_true e
            refine ⟨.ref D, rfl, .inl ⟨rfl, _, .inl (.inl hD3)⟩, .ref r, rfl, .int kk, rfl, r, _, kk, _, rfl, rfl, hSr, har, .inl ⟨_, rfl, _, _, rfl, rfl, (show (0 : Int) < 1000 by decide), D, _, _, rfl, rfl, hD3, ?_, ?_⟩⟩
            · rw [List.length_map]; exact small (by omega)
            · have nrD : r ≠ D := nDr.symm
              have hr4 : upd H3 D (.lst (ds.map V.int ++ [.int (rv % 1000)])) r = some (.lst (rs.map V.int)) := by rw [upd_ne nrD]; exact hr3
              have hj : ixN (rs.map V.int).length kk = some kk.toNat := by
                unfold ixN
                rw [if_pos hk0, if_pos (by rw [List.length_map]; omega)]
              refine ⟨.ref r, rfl, .int kk, rfl, r, _, kk, _, rfl, rfl, .inl (.inl hr4), har, _, _, rfl, rfl, ⟨by decide, by decide⟩, .ref r, rfl, .int kk, rfl, r, _, kk, _, rfl, rfl, hr4, hj, ?_⟩
              refine more (rv % 1000) _ (fun b o e n1 n2 => ?_) (rs.set kk.toNat (rv / 1000)) (by rw [List.length_set]; exact hrl) ?_ ?_ _ _
              · rw [upd_ne n2, upd_ne n1]; exact e
              · rw [upd_same, List.map_set]
              · rw [upd_ne nDr, upd_same]
          · refine ⟨.ref C, rfl, .int kk, rfl, C, _, kk, _, rfl, rfl, hSC, hat, _, _, rfl, rfl, .inr ⟨by decide, by decide⟩, .int (0 + (i : Int)), rfl, _, _, rfl, rfl, .inr ⟨by decide, by decide⟩, _, _, rfl, rfl, _, _, rfl, rfl, .inl ⟨_, rfl, _, _, rfl, rfl, (show (0 : Int) < 2147483647 by decide), ?_⟩⟩
            have o0 : 0 ≤ (cv * 48271 + (0 + (i : Int)) * 69621 + 11) % 2147483647 := Int.emod_nonneg _ (by decide)
            have o1 : (cv * 48271 + (0 + (i : Int)) * 69621 + 11) % 2147483647 < 2147483647 := Int.emod_lt_of_pos _ (by decide)
            dsimp only
            generalize (cv * 48271 + (0 + (i : Int)) * 69621 + 11) % 2147483647 = on at o0 o1 ⊢
            refine ⟨.ref D, rfl, .inl ⟨rfl, _, .inl (.inl hD3)⟩, .int on, rfl, .int on, rfl, _, _, rfl, rfl, .inl ⟨by omega, by omega⟩, .int on, rfl, _, _, rfl, rfl, .inl ⟨by decide, by decide⟩, _, _, rfl, rfl, .int (0 + (i : Int)), rfl, _, _, rfl, rfl, .inl ⟨_, rfl, _, _, rfl, rfl, (show (0 : Int) < 1000003 by decide), D, _, _, rfl, rfl, hD3, ?_, ?_⟩⟩
            · rw [List.length_map]; exact small (by omega)
            · exact more _ _ (fun b o e n1 n2 => by rw [upd_ne n1]; exact e) rs hrl (by rw [upd_ne nDr.symm]; exact hr3) upd_same _ _
        · obtain ⟨y5, y6, y7, y8, rs, ds, rfl, s3, hC3, hr3, hrl, hD3, hdl⟩ := hp
          refine ⟨.ref D, rfl, .inl ⟨rfl, _, .inl (.inl hD3)⟩, D, _, rfl, rfl, hD3, .ref D, rfl, ?_⟩
          refine q _ D (fun b o e => ?_) nHD ⟨ds.reverse, ?_⟩
          · rw [upd_ne (ne_of_none e nHD)]; exact s3 b o e
          · rw [upd_same, List.map_reverse])
end
def sp_l_take (K : PySem.W.Frag) : Sp := fun vs H Q _ => ∃ (d : Addr) (m : Int), vs = [.ref d, .int m] ∧ DrA H d ∧ 0 < m ∧ ∀ H' r, Dr d H H' → 0 ≤ r → r < m → Q (.int r) H'
section
variable {P : Program} {w : World} {K : PySem.W.Frag} {mg : Str → Option Value} {base : Heap}
theorem ok_l_take (T : Ctx K mg) : FnOk P w K mg base CX0 1 T.f_l_take T.fd_l_take ["draws", "many"] (sp_l_take K) := by
  refine T.F_l_take.ok sc_l_take (fun vs H Q E h => ?_) (fun cdv A outer s H vs Q E hr h => ?_)
  · obtain ⟨d, m, rfl, _⟩ := h
    rfl
  · obtain ⟨d, m, rfl, ⟨ns, hd⟩, hm, q⟩ := h
    refine ⟨_, (pss_cons (ps_if (pt_cmpR op_eq (pe_callB call_len_seq (by rfl) T.m_len (by decide +kernel) (pa_cons (pv 0) pa_nil)) pe_int (nomark _))
        (pss_one (ps_ret pe_int))
        pss_nil)
      (pss_one (ps_ret (pe_op op_mod (pe_callTy call_int1 (by rfl) T.m_int (by decide +kernel) (pa_cons (pe_bm0 PySem.F.plainAttrs_list PySem.F.slot_list_pop PySem.F.type_list_pop mt_pop (pv 0)) pa_nil)) (pv 1))))), ?_⟩
    have hS : SqL K H d (ns.map V.int) := .inl (.inl hd)
    refine ⟨.ref d, rfl, d, _, rfl, .inl hS, rfl, _, rfl, ite2 (fun e => ?_) (fun e => ?_)⟩
    · exact q H 0 ⟨fun _ _ _ h => h, ns, hd⟩ (Int.le_refl 0) hm
    · have hne : ns ≠ [] := fun z => by
        subst z
        exact e (decide_eq_true rfl)
      have hl : (ns.map V.int)[(ns.map V.int).length - 1]? = some (.int (ns.getLast hne)) := by
        rw [List.getElem?_map, List.length_map, at_last hne]
        rfl
      refine ⟨.ref d, rfl, .inl ⟨rfl, _, hS⟩, d, _, _, rfl, rfl, hd, hl, .inl ⟨_, rfl, .int m, rfl, _, _, rfl, rfl, hm, ?_⟩⟩
      rw [← List.map_dropLast]
      exact q _ _ (dr_upd _) (Int.emod_nonneg _ (by omega)) (Int.emod_lt_of_pos _ hm)
end
def sp_l_cell (K : PySem.W.Frag) : Sp := fun vs H Q _ => ∃ (a d : Addr) (ns : List Int), vs = [.ref a, .ref d] ∧ (∀ H', Dr d H H' → SqL K H' a (ns.map V.int)) ∧ DrA H d ∧
  ∀ H' c, Dr d H H' → (c = 0 ∨ c ∈ ns) → Q (.int c) H'
section
variable {P : Program} {w : World} {K : PySem.W.Frag} {mg : Str → Option Value} {base : Heap}
theorem ok_l_cell (T : Ctx K mg) : FnOk P w K mg base CX0 2 T.f_l_cell T.fd_l_cell ["script", "draws"] (sp_l_cell K) := by
  refine T.F_l_cell.ok sc_l_cell (fun vs H Q E h => ?_) (fun cdv A outer s H vs Q E hr h => ?_)
  · obtain ⟨a, d, ns, rfl, _⟩ := h
    rfl
  · obtain ⟨a, d, ns, rfl, hK, hd, q⟩ := h
    have hS := hK H (Dr.refl hd)
    refine ⟨_, (pss_cons (ps_if (pt_cmpR op_eq (pe_callB call_len_seq (by rfl) T.m_len (by decide +kernel) (pa_cons (pv 0) pa_nil)) pe_int (nomark _))
        (pss_one (ps_ret pe_int))
        pss_nil)
      (pss_one (ps_ret (pe_callTy call_int1 (by rfl) T.m_int (by decide +kernel) (pa_cons (pe_ix ix_list (pv 0) (pe_call (ok_l_take T) (hr.mono (by decide)) (by rfl) T.g_l_take T.F_l_take.kp T.b_l_take .nil pass0 (pa_cons (pv 1) (pa_cons (pe_callB call_len_seq (by rfl) T.m_len (by decide +kernel) (pa_cons (pv 0) pa_nil)) pa_nil))) (fun _ _ => rfl)) pa_nil))))), ?_⟩
    refine ⟨.ref a, rfl, a, _, rfl, .inl hS, rfl, _, rfl, ite2 (fun e => ?_) (fun e => ?_)⟩
    · exact q H 0 (Dr.refl hd) (.inl rfl)
    · have hne : ns ≠ [] := fun z => by
        subst z
        exact e (decide_eq_true rfl)
      have hl : 0 < ns.length := by cases ns with | nil => exact absurd rfl hne | cons x r => exact Nat.succ_pos _
      refine ⟨.ref a, rfl, .ref d, rfl, .ref a, rfl, a, _, rfl, .inl hS, d, _, rfl, hd, by rw [List.length_map]; omega, fun H1 r r1 h0 h1 => ?_⟩
      rw [List.length_map] at h1
      have hS1 : SqL K H1 a (ns.map V.int) := hK H1 r1
      exact ⟨a, _, r, _, rfl, rfl, hS1, atM_pos h0 h1, .inl ⟨_, rfl, q H1 _ r1 (.inr (List.getElem_mem _))⟩⟩
end
/-- the word of a number, sign by sign -/
def wcps : Nat → Int → List Nat → List Nat
  | 0, _, acc => acc
  | f + 1, n, acc => if n < 1 then acc else wcps f ((n - 1) / 26) ((97 + ((n - 1) % 26).toNat) :: acc)
def wordS (n : Int) : Str := ⟨(wcps 60 n []).toArray⟩
theorem wcps_stop : ∀ (f : Nat) (n : Int) (acc : List Nat), n < 1 → wcps f n acc = acc
  | 0, _, _, _ => rfl
  | f + 1, n, acc, h => by
    show (if n < 1 then acc else _) = acc
    rw [if_pos h]
def abc : Str := "abcdefghijklmnopqrstuvwxyz"
theorem abc_at : ∀ j : Nat, j < 26 → abc.cps.toList[j]? = some (97 + j) := by decide +kernel
theorem abc_len : abc.cps.toList.length = 26 := by decide +kernel
theorem wcps_isW : ∀ (f : Nat) (n : Int) (acc : List Nat), (∀ c ∈ acc, 97 ≤ c ∧ c ≤ 122) → (∀ c ∈ wcps f n acc, 97 ≤ c ∧ c ≤ 122) ∧ (wcps f n acc).length ≤ f + acc.length ∧ (acc ≠ [] → wcps f n acc ≠ [])
  | 0, n, acc, h => ⟨h, by show acc.length ≤ _; omega, fun z => z⟩
  | f + 1, n, acc, h => by
    by_cases c : n < 1
    · rw [wcps_stop _ _ _ c]
      exact ⟨h, by omega, fun z => z⟩
    · have e : wcps (f + 1) n acc = wcps f ((n - 1) / 26) ((97 + ((n - 1) % 26).toNat) :: acc) := if_neg c
      have h0 : 0 ≤ (n - 1) % 26 := Int.emod_nonneg _ (by decide)
      have h1 : (n - 1) % 26 < 26 := Int.emod_lt_of_pos _ (by decide)
      obtain ⟨a, b, d⟩ := wcps_isW f ((n - 1) / 26) ((97 + ((n - 1) % 26).toNat) :: acc) (fun x hx => by
        rcases List.mem_cons.mp hx with z | z
        · omega
        · exact h x z)
      rw [e]
      exact ⟨a, by simp only [List.length_cons] at b; omega, fun _ => d (List.cons_ne_nil _ _)⟩
theorem wordS_isW {n : Int} (h : 1 ≤ n) : IsW (wordS n) := by
  have e : wcps 60 n [] = wcps 59 ((n - 1) / 26) [97 + ((n - 1) % 26).toNat] := if_neg (by omega)
  have h0 : 0 ≤ (n - 1) % 26 := Int.emod_nonneg _ (by decide)
  have h1 : (n - 1) % 26 < 26 := Int.emod_lt_of_pos _ (by decide)
  obtain ⟨a, b, d⟩ := wcps_isW 59 ((n - 1) / 26) [97 + ((n - 1) % 26).toNat] (fun x hx => by
    rw [List.mem_singleton.mp hx]
    omega)
  rw [← e] at a b d
  refine ⟨by simpa [wordS] using d (by simp), by simpa [wordS] using a, ?_⟩
  show (wcps 60 n []).toArray.size ≤ 200
  simp only [List.size_toArray]
  simp only [List.length_cons, List.length_nil] at b
  omega
def sp_l_word (K : PySem.W.Frag) : Sp := fun vs H Q _ => ∃ n : Int, vs = [.int n] ∧ Q (.str (wordS n)) H
section
variable {P : Program} {w : World} {K : PySem.W.Frag} {mg : Str → Option Value} {base : Heap}
theorem ok_l_word (T : Ctx K mg) : FnOk P w K mg base CX0 1 T.f_l_word T.fd_l_word ["number"] (sp_l_word K) := by
  refine T.F_l_word.ok sc_l_word (fun vs H Q E h => ?_) (fun cdv A outer s H vs Q E hr h => ?_)
  · obtain ⟨n, rfl, _⟩ := h
    rfl
  · obtain ⟨n, rfl, q⟩ := h
    refine ⟨_, (pss_cons (ps_set (i := 1) sc_l_word.nd rfl (.inl rfl) pe_str)
      (pss_cons (ps_for PassesOwn.never rfl (pi_range1 (by rfl) T.m_range (pa_cons pe_int pa_nil)) (pg_name (i := 2) sc_l_word.nd rfl (.inl rfl))
        (pss_cons (ps_if (pt_cmpR op_lt (pv 0) pe_int (nomark _))
        (pss_one ps_break)
        pss_nil)
      (pss_cons (ps_set (i := 1) sc_l_word.nd rfl (.inl rfl) (pe_op op_add_str (pe_ix ix_str pe_str (pe_op op_mod (pe_callTy call_int1 (by rfl) T.m_int (by decide +kernel) (pa_cons (pe_op op_sub (pv 0) pe_int) pa_nil)) pe_int) (fun _ _ => rfl)) (pv 1)))
      (pss_one (ps_set (i := 0) sc_l_word.nd rfl (.inl rfl) (pe_op op_fdiv (pe_op op_sub (pv 0) pe_int) pe_int))))))
      (pss_one (ps_ret (pv 1))))), ?_⟩
    refine ⟨60, rfl, by decide, by decide, ?_⟩
    refine for_range (lo := 0) (n := 60) (fun i σ H3 => ∃ (m : Int) (acc : List Nat) (y2 : Option V), σ = [some (.int m), some (.str ⟨acc.toArray⟩), y2] ∧ H3 = H ∧ wcps 60 n [] = wcps (60 - i) m acc ∧ acc.length ≤ i) ⟨n, [], none, rfl, rfl, rfl, Nat.le_refl 0⟩ (fun i σ H3 hi hp => ?_) (fun σ H3 hp => ?_)
    · obtain ⟨m, acc, y2, rfl, rfl, hw, hl⟩ := hp
      refine ⟨.int m, rfl, _, _, rfl, rfl, _, rfl, ite2 (fun e => ?_) (fun e => ?_)⟩
      · have hm : m < 1 := of_decide_eq_true e
        rw [wcps_stop _ _ _ hm] at hw
        refine ⟨.str ⟨acc.toArray⟩, rfl, ?_⟩
        rw [← hw]
        exact q
      · have hm : ¬ m < 1 := fun z => e (decide_eq_true z)
        have h0 : 0 ≤ (m - 1) % 26 := Int.emod_nonneg _ (by decide)
        have h1 : (m - 1) % 26 < 26 := Int.emod_lt_of_pos _ (by decide)
        have hat : atI abc.cps.toList ((m - 1) % 26) = some (97 + ((m - 1) % 26).toNat) := by
          have ez : (m - 1) % 26 = (((m - 1) % 26).toNat : Int) := by omega
          have q := abc_at ((m - 1) % 26).toNat (by omega)
          rw [ez]
          exact atI_nat q
        refine ⟨.int m, rfl, _, _, rfl, rfl, .inl ⟨_, rfl, _, _, rfl, rfl, (show (0 : Int) < 26 by decide), abc, _, _, rfl, rfl, by decide +kernel, hat, .str ⟨acc.toArray⟩, rfl, _, _, rfl, rfl, ?_, .int m, rfl, _, _, rfl, rfl, _, _, rfl, rfl, ⟨by decide, by decide⟩, ?_⟩⟩
        · show 1 + acc.toArray.size ≤ sizeLine
          have : acc.toArray.size = acc.length := by simp
          rw [this]
          exact small' (by omega)
        · refine ⟨(m - 1) / 26, (97 + ((m - 1) % 26).toNat) :: acc, some (.int (0 + (i : Int))), ?_, rfl, ?_, by simp only [List.length_cons]; omega⟩
          · have ea : (⟨#[97 + ((m - 1) % 26).toNat]⟩ : Str) ++ ⟨acc.toArray⟩ = ⟨((97 + ((m - 1) % 26).toNat) :: acc).toArray⟩ := by
              show Str.mk (#[97 + ((m - 1) % 26).toNat] ++ acc.toArray) = _
              congr 1
              simp
            rw [ea]
            rfl
          · rw [hw]
            have ef : 60 - i = (60 - (i + 1)) + 1 := by omega
            rw [ef]
            show (if m < 1 then acc else _) = _
            rw [if_neg hm]
    · obtain ⟨m, acc, y2, rfl, rfl, hw, hl⟩ := hp
      refine ⟨.str ⟨acc.toArray⟩, rfl, ?_⟩
      have e : wordS n = ⟨acc.toArray⟩ := by
        unfold wordS
        rw [hw]
        rfl
      rw [← e]
      exact q
end
theorem isW_cat {a b : Str} (ha : ∀ c ∈ a.cps.toList, 97 ≤ c ∧ c ≤ 122) (hl : a.length ≤ 60) (hb : IsW b) (hb2 : b.length ≤ 100) : IsW (a ++ b) := by
  have e : (a ++ b).cps.toList = a.cps.toList ++ b.cps.toList := by
    show (a.cps ++ b.cps).toList = _
    simp
  refine ⟨?_, ?_, ?_⟩
  · rw [e]
    intro z
    exact hb.1 (List.append_eq_nil_iff.mp z).2
  · rw [e]
    intro c hc
    rcases List.mem_append.mp hc with z | z
    · exact ha c z
    · exact hb.2.1 c z
  · show (a.cps ++ b.cps).size ≤ 200
    rw [Array.size_append]
    have h1 : a.cps.size ≤ 60 := hl
    have h2 : b.cps.size ≤ 100 := hb2
    omega
theorem wordS_len (n : Int) : (wordS n).length ≤ 60 := by
  show (wcps 60 n []).toArray.size ≤ 60
  simp only [List.size_toArray]
  have h := (wcps_isW 60 n [] (fun _ z => nomatch z)).2.1
  simpa using h
theorem ljkl_ok : ∀ c ∈ (Str.ofString "abcdefghijkl").cps.toList, 97 ≤ c ∧ c ≤ 122 := by decide +kernel
theorem ljkl_len : (Str.ofString "abcdefghijkl").length ≤ 60 := by decide +kernel
def sp_l_some_word (K : PySem.W.Frag) : Sp := fun vs H Q _ => ∃ d : Addr, vs = [.ref d] ∧ DrA H d ∧ ∀ H' w, Dr d H H' → IsW w → Q (.str w) H'
section
variable {P : Program} {w : World} {K : PySem.W.Frag} {mg : Str → Option Value} {base : Heap}
theorem ok_l_some_word (T : Ctx K mg) : FnOk P w K mg base CX0 2 T.f_l_some_word T.fd_l_some_word ["draws"] (sp_l_some_word K) := by
  refine T.F_l_some_word.ok sc_l_some_word (fun vs H Q E h => ?_) (fun cdv A outer s H vs Q E hr h => ?_)
  · obtain ⟨d, rfl, _⟩ := h
    rfl
  · obtain ⟨d, rfl, hd, q⟩ := h
    refine ⟨_, (pss_cons (ps_set (i := 1) sc_l_some_word.nd rfl (.inl rfl) (pe_call (ok_l_take T) (hr.mono (by decide)) (by rfl) T.g_l_take T.F_l_take.kp T.b_l_take .nil pass0 (pa_cons (pv 0) (pa_cons pe_int pa_nil))))
      (pss_cons (ps_if (pt_cmpR op_lt (pv 1) pe_int (nomark _))
        (pss_one (ps_ret (pe_call (ok_l_word T) (hr.mono (by decide)) (by rfl) T.g_l_word T.F_l_word.kp T.b_l_word .nil pass0 (pa_cons (pe_op op_add (pe_op op_add pe_int (pe_op op_mod (pv 1) pe_int)) (pe_op op_mul pe_int (pe_op op_mod (pe_op op_fdiv (pv 1) pe_int) pe_int))) pa_nil))))
        pss_nil)
      (pss_cons (ps_if (pt_cmpR op_lt (pv 1) pe_int (nomark _))
        (pss_one (ps_ret (pe_call (ok_l_word T) (hr.mono (by decide)) (by rfl) T.g_l_word T.F_l_word.kp T.b_l_word .nil pass0 (pa_cons (pe_op op_add pe_int (pe_call (ok_l_take T) (hr.mono (by decide)) (by rfl) T.g_l_take T.F_l_take.kp T.b_l_take .nil pass0 (pa_cons (pv 0) (pa_cons pe_int pa_nil)))) pa_nil))))
        pss_nil)
      (pss_cons (ps_if (pt_cmpR op_lt (pv 1) pe_int (nomark _))
        (pss_one (ps_ret (pe_op op_add_str pe_str (pe_call (ok_l_word T) (hr.mono (by decide)) (by rfl) T.g_l_word T.F_l_word.kp T.b_l_word .nil pass0 (pa_cons (pe_op op_add pe_int (pe_call (ok_l_take T) (hr.mono (by decide)) (by rfl) T.g_l_take T.F_l_take.kp T.b_l_take .nil pass0 (pa_cons (pv 0) (pa_cons pe_int pa_nil)))) pa_nil)))))
        pss_nil)
      (pss_cons (ps_set (i := 2) sc_l_some_word.nd rfl (.inl rfl) (pe_op op_add (pe_op op_mul pe_int (pe_call (ok_l_take T) (hr.mono (by decide)) (by rfl) T.g_l_take T.F_l_take.kp T.b_l_take .nil pass0 (pa_cons (pv 0) (pa_cons pe_int pa_nil)))) (pe_op op_mul pe_int (pe_call (ok_l_take T) (hr.mono (by decide)) (by rfl) T.g_l_take T.F_l_take.kp T.b_l_take .nil pass0 (pa_cons (pv 0) (pa_cons pe_int pa_nil))))))
      (pss_cons (ps_if (pt_cmpR op_ge (pv 1) pe_int (nomark _))
        (pss_one (ps_set (i := 2) sc_l_some_word.nd rfl (.inl rfl) (pe_op op_mul (pv 2) (pe_op op_pow pe_int pe_int))))
        pss_nil)
      (pss_one (ps_ret (pe_call (ok_l_word T) (hr.mono (by decide)) (by rfl) T.g_l_word T.F_l_word.kp T.b_l_word .nil pass0 (pa_cons (pe_op op_add (pe_op op_add pe_int (pv 2)) (pe_call (ok_l_take T) (hr.mono (by decide)) (by rfl) T.g_l_take T.F_l_take.kp T.b_l_take .nil pass0 (pa_cons (pv 0) (pa_cons pe_int pa_nil)))) pa_nil)))))))))), ?_⟩
    refine ⟨.ref d, rfl, d, _, rfl, hd, by decide, fun H1 u r1 u0 u1 => ?_⟩
    refine ⟨_, rfl, _, _, rfl, rfl, _, rfl, ite2 (fun e => ?_) (fun e => ?_)⟩
    · exact ⟨_, rfl, _, _, rfl, rfl, (show (0 : Int) < 6 by decide), _, _, rfl, rfl, _, rfl, _, _, rfl, rfl, ⟨by decide, by decide⟩, _, _, rfl, rfl, (show (0 : Int) < 2 by decide), _, _, rfl, rfl, .inl ⟨by decide, by decide⟩, _, _, rfl, rfl, _, rfl, q _ _ r1 (wordS_isW (by omega))⟩
    refine ⟨_, rfl, _, _, rfl, rfl, _, rfl, ite2 (fun e => ?_) (fun e => ?_)⟩
    · exact ⟨.ref d, rfl, d, _, rfl, r1.at_, by decide, fun H2 v r2 v0 v1 => ⟨_, _, rfl, rfl, _, rfl, q _ _ (r1.trans r2) (wordS_isW (by omega))⟩⟩
    refine ⟨_, rfl, _, _, rfl, rfl, _, rfl, ite2 (fun e => ?_) (fun e => ?_)⟩
    · exact ⟨.ref d, rfl, d, _, rfl, r1.at_, by decide, fun H2 v r2 v0 v1 => ⟨_, _, rfl, rfl, _, rfl, _, _, rfl, rfl, small' (by have := ljkl_len; have := wordS_len (1 + v); omega), q _ _ (r1.trans r2) (isW_cat ljkl_ok ljkl_len (wordS_isW (by omega)) (by have := wordS_len (1 + v); omega))⟩⟩
    refine ⟨.ref d, rfl, d, _, rfl, r1.at_, by decide, fun H2 v r2 v0 v1 => ?_⟩
    refine ⟨_, _, rfl, rfl, .inl ⟨by decide, by decide⟩, .ref d, rfl, d, _, rfl, r2.at_, by decide, fun H3 x r3 x0 x1 => ?_⟩
    refine ⟨_, _, rfl, rfl, .inl ⟨by decide, by decide⟩, _, _, rfl, rfl, ?_⟩
    refine ⟨_, rfl, _, _, rfl, rfl, _, rfl, ite2 (fun e => ?_) (fun e => ?_)⟩
    · refine ⟨_, rfl, _, _, rfl, rfl, ⟨by decide, by decide, by decide⟩, _, _, rfl, rfl, .inl ⟨by omega, by omega⟩, ?_⟩
      refine ⟨_, rfl, _, _, rfl, rfl, .ref d, rfl, d, _, rfl, r3.at_, by decide, fun H4 y r4 y0 y1 => ⟨_, _, rfl, rfl, _, rfl, q _ _ (((r1.trans r2).trans r3).trans r4) (wordS_isW ?_)⟩⟩
      have z : 0 ≤ (1000000 * v + 1000 * x) * 10 ^ (15 : Int).toNat := Int.mul_nonneg (by omega) (by decide)
      omega
    · refine ⟨_, rfl, _, _, rfl, rfl, .ref d, rfl, d, _, rfl, r3.at_, by decide, fun H4 y r4 y0 y1 => ⟨_, _, rfl, rfl, _, rfl, q _ _ (((r1.trans r2).trans r3).trans r4) (wordS_isW (by omega))⟩⟩
end
def sp_l_is_integer (K : PySem.W.Frag) : Sp := fun vs H Q _ => ∃ i : Int, vs = [.int i] ∧ Q (.bl true) H
section
variable {P : Program} {w : World} {K : PySem.W.Frag} {mg : Str → Option Value} {base : Heap}
theorem ok_l_is_integer (T : Ctx K mg) : FnOk P w K mg base CX0 1 T.f_l_is_integer T.fd_l_is_integer ["value"] (sp_l_is_integer K) := by
  refine T.F_l_is_integer.ok sc_l_is_integer (fun vs H Q E h => ?_) (fun cdv A outer s H vs Q E hr h => ?_)
  · obtain ⟨i, rfl, _⟩ := h
    rfl
  · obtain ⟨i, rfl, q⟩ := h
    refine ⟨_, (pss_one (ps_ret (pe_and (pe_callB call_isi (by rfl) T.m_isinstance (by decide +kernel) (pa_cons (pv 0) (pa_cons (pe_bltn (v := .ty "int") (by rfl) T.m_int (by decide +kernel) rfl) pa_nil))) (pe_one (pe_not (pe_callB call_isi (by rfl) T.m_isinstance (by decide +kernel) (pa_cons (pv 0) (pa_cons (pe_bltn (v := .ty "bool") (by rfl) T.m_bool (by decide +kernel) rfl) pa_nil)))))))), ?_⟩
    refine ⟨.int i, rfl, .int i, .ty "int", .type "int", .type "int", true, rfl, .ty _, .base (.int _), kit_ty (by decide +kernel), true, rfl, iteT ?_⟩
    exact ⟨.int i, rfl, .int i, .ty "bool", .type "int", .type "bool", false, rfl, .ty _, .base (.int _), kit_ty (by decide +kernel), false, rfl, q⟩
end
def sp_l_reading (K : PySem.W.Frag) : Sp := fun vs H Q _ => ∃ (d t : Addr) (m : Mt), vs = [.ref d, .ref t] ∧ DrA H d ∧ MtAt H t m ∧ m.low ≤ m.high ∧ ∀ H' v, Dr d H H' → m.low ≤ v → v ≤ m.high → Q (.int v) H'
section
variable {P : Program} {w : World} {K : PySem.W.Frag} {mg : Str → Option Value} {base : Heap}
theorem ok_l_reading (T : Ctx K mg) : FnOk P w K mg base CX0 2 T.f_l_reading T.fd_l_reading ["draws", "meter"] (sp_l_reading K) := by
  refine T.F_l_reading.ok sc_l_reading (fun vs H Q E h => ?_) (fun cdv A outer s H vs Q E hr h => ?_)
  · obtain ⟨d, t, m, rfl, _⟩ := h
    rfl
  · obtain ⟨d, t, m, rfl, hd, hm, ho, q⟩ := h
    refine ⟨_, (pss_cons (ps_set (i := 2) sc_l_reading.nd rfl (.inl rfl) (pe_call (ok_l_take T) (hr.mono (by decide)) (by rfl) T.g_l_take T.F_l_take.kp T.b_l_take .nil pass0 (pa_cons (pv 0) (pa_cons pe_int pa_nil))))
      (pss_cons (ps_if (pt_cmpR op_eq (pe_op op_mod (pv 2) pe_int) pe_int (nomark _))
        (pss_one (ps_ret (pe_ix ix_tup (pv 1) pe_int (fun _ _ => rfl))))
        pss_nil)
      (pss_cons (ps_if (pt_cmpR op_eq (pe_op op_mod (pv 2) pe_int) pe_int (nomark _))
        (pss_one (ps_ret (pe_ix ix_tup (pv 1) pe_int (fun _ _ => rfl))))
        pss_nil)
      (pss_cons (ps_if (pt_cmpR op_eq (pe_op op_mod (pv 2) pe_int) pe_int (nomark _))
        (pss_one (ps_ret (pe_op op_fdiv (pe_op op_add (pe_ix ix_tup (pv 1) pe_int (fun _ _ => rfl)) (pe_ix ix_tup (pv 1) pe_int (fun _ _ => rfl))) pe_int)))
        pss_nil)
      (pss_one (ps_ret (pe_op op_add (pe_ix ix_tup (pv 1) pe_int (fun _ _ => rfl)) (pe_op op_mod (pe_op op_fdiv (pv 2) pe_int) (pe_op op_add (pe_op op_sub (pe_ix ix_tup (pv 1) pe_int (fun _ _ => rfl)) (pe_ix ix_tup (pv 1) pe_int (fun _ _ => rfl))) pe_int))))))))), ?_⟩
    refine ⟨.ref d, rfl, d, _, rfl, hd, by decide, fun H1 u r1 u0 u1 => ?_⟩
    have hT : SqT K H1 t [.str m.name, .int m.low, .int m.high, .int m.err] := .inl (.inl (r1.tup hd hm))
    refine ⟨.int u, rfl, _, _, rfl, rfl, (show (0 : Int) < 4 by decide), rfl, _, rfl, ite2 (fun e => ?_) (fun e => ?_)⟩
    · exact ⟨.ref t, rfl, t, _, 1, _, rfl, rfl, hT, atI_nat (j := 1) rfl, q _ _ r1 (Int.le_refl _) ho⟩
    refine ⟨.int u, rfl, _, _, rfl, rfl, (show (0 : Int) < 4 by decide), rfl, _, rfl, ite2 (fun e => ?_) (fun e => ?_)⟩
    · exact ⟨.ref t, rfl, t, _, 2, _, rfl, rfl, hT, atI_nat (j := 2) rfl, q _ _ r1 ho (Int.le_refl _)⟩
    refine ⟨.int u, rfl, _, _, rfl, rfl, (show (0 : Int) < 16 by decide), rfl, _, rfl, ite2 (fun e => ?_) (fun e => ?_)⟩
    · refine ⟨.ref t, rfl, t, _, 1, _, rfl, rfl, hT, atI_nat (j := 1) rfl, .ref t, rfl, t, _, 2, _, rfl, rfl, hT, atI_nat (j := 2) rfl, _, _, rfl, rfl, _, _, rfl, rfl, ⟨by decide, by decide⟩, q _ _ r1 ?_ ?_⟩
      · show m.low ≤ (m.low + m.high) / 2
        omega
      · show (m.low + m.high) / 2 ≤ m.high
        omega
    · have p : 0 < m.high - m.low + 1 := by omega
      refine ⟨.ref t, rfl, t, _, 1, _, rfl, rfl, hT, atI_nat (j := 1) rfl, .int u, rfl, _, _, rfl, rfl, ⟨by decide, by decide⟩, .ref t, rfl, t, _, 2, _, rfl, rfl, hT, atI_nat (j := 2) rfl, .ref t, rfl, t, _, 1, _, rfl, rfl, hT, atI_nat (j := 1) rfl, _, _, rfl, rfl, _, _, rfl, rfl, _, _, rfl, rfl, p, _, _, rfl, rfl, ?_⟩
      have a0 := Int.emod_nonneg (u / 4) (Int.ne_of_gt p)
      have a1 := Int.emod_lt_of_pos (u / 4) p
      exact q _ _ r1 (by show m.low ≤ m.low + u / 4 % (m.high - m.low + 1); omega) (by show m.low + u / 4 % (m.high - m.low + 1) ≤ m.high; omega)
end
def sp_l_plan (K : PySem.W.Frag) : Sp := fun vs H Q _ => ∃ (d : Addr) (c : Int), vs = [.ref d, .int c] ∧ DrA H d ∧
  ∀ H' p tm ts P, Dr d H H' → PlanAt H' p tm ts P → PlanOk c P → (∀ m ∈ P.ms, IsW m.name) → Q (.ref p) H'
section
variable {P : Program} {w : World} {K : PySem.W.Frag} {mg : Str → Option Value} {base : Heap}
theorem ok_l_plan (T : Ctx K mg) : FnOk P w K mg base CX0 3 T.f_l_plan T.fd_l_plan ["draws", "cell"] (sp_l_plan K) := by
  refine T.F_l_plan.ok sc_l_plan (fun vs H Q E h => ?_) (fun cdv A outer s H vs Q E hr h => ?_)
  · obtain ⟨d, c, rfl, _⟩ := h
    rfl
  · obtain ⟨d, c, rfl, hd, q⟩ := h
    refine ⟨_, (pss_cons (ps_set (i := 2) sc_l_plan.nd rfl (.inl rfl) (pe_op op_add pe_int (pe_call (ok_l_take T) (hr.mono (by decide)) (by rfl) T.g_l_take T.F_l_take.kp T.b_l_take .nil pass0 (pa_cons (pv 0) (pa_cons pe_int pa_nil)))))
      (pss_cons (ps_if (pt_cmpR op_eq (pe_call (ok_l_take T) (hr.mono (by decide)) (by rfl) T.g_l_take T.F_l_take.kp T.b_l_take .nil pass0 (pa_cons (pv 0) (pa_cons pe_int pa_nil))) pe_int (nomark _))
        (pss_one (ps_set (i := 2) sc_l_plan.nd rfl (.inl rfl) (pe_op op_add (pv 2) pe_int)))
        pss_nil)
      (pss_cons (ps_set (i := 3) sc_l_plan.nd rfl (.inl rfl) (pe_lst pa_nil))
      (pss_cons (ps_for PassesOwn.never rfl (pi_list (pe_callB (Tset.cr_sortedSetS rfl) (by rfl) T.m_sorted (by decide +kernel) (pa_cons (pe_callTy (Tset.cr_setOfS rfl) (by rfl) T.m_set (by decide +kernel) (pa_cons (pe_lc (own := [("k", 8)]) (g := gName 8) (by rfl) sc_l_plan.nd (pi_range1 (by rfl) T.m_range (pa_cons (pv 2) pa_nil)) (blkOk_by (own := [("k", 8)]) (N := ["draws", "cell", "many", "meters", "name", "low", "wide", "length", "k"]) (sc := defScope s_l_plan) (by decide +kernel)) (fun _ _ _ _ _ => pg_name (i := 8) sc_l_plan.nd rfl (Or.inl rfl)) (fun _ _ _ _ _ => pts_nil) (fun _ _ _ _ _ => (pe_call (ok_l_some_word T) (hr.mono (by decide)) (by rfl) T.g_l_some_word T.F_l_some_word.kp T.b_l_some_word .nil pass0 (pa_cons (pv 0) pa_nil)))) pa_nil)) pa_nil))) (pg_name (i := 4) sc_l_plan.nd rfl (.inl rfl))
        (pss_cons (ps_set (i := 5) sc_l_plan.nd rfl (.inl rfl) (pe_ix ix_list (pe_lst (pa_cons (pe_op op_sub (pe_call (ok_l_take T) (hr.mono (by decide)) (by rfl) T.g_l_take T.F_l_take.kp T.b_l_take .nil pass0 (pa_cons (pv 0) (pa_cons pe_int pa_nil))) pe_int) (pa_cons (pv 1) pa_nil))) (pe_op op_fdiv (pe_call (ok_l_take T) (hr.mono (by decide)) (by rfl) T.g_l_take T.F_l_take.kp T.b_l_take .nil pass0 (pa_cons (pv 0) (pa_cons pe_int pa_nil))) pe_int) (fun _ _ => rfl)))
      (pss_cons (ps_set (i := 6) sc_l_plan.nd rfl (.inl rfl) (pe_ix ix_list (pe_lst (pa_cons pe_int (pa_cons pe_int (pa_cons pe_int (pa_cons pe_int (pa_cons pe_int (pa_cons pe_int (pa_cons (pe_op op_pow pe_int pe_int) (pa_cons (pe_callB call_abs (by rfl) T.m_abs (by decide +kernel) (pa_cons (pv 1) pa_nil)) pa_nil))))))))) (pe_call (ok_l_take T) (hr.mono (by decide)) (by rfl) T.g_l_take T.F_l_take.kp T.b_l_take .nil pass0 (pa_cons (pv 0) (pa_cons pe_int pa_nil))) (fun _ _ => rfl)))
      (pss_one (ps_expr (pe_bm PySem.F.plainAttrs_list PySem.F.slot_list_append PySem.F.type_list_append mt_append (pv 3) (pa_cons (pe_tup (pa_cons (pv 4) (pa_cons (pv 5) (pa_cons (pe_op op_add (pv 5) (pv 6)) (pa_cons (pe_ix ix_list (pe_lst (pa_cons pe_int (pa_cons pe_int (pa_cons pe_int (pa_cons pe_int (pa_cons pe_int (pa_cons pe_int pa_nil))))))) (pe_call (ok_l_take T) (hr.mono (by decide)) (by rfl) T.g_l_take T.F_l_take.kp T.b_l_take .nil pass0 (pa_cons (pv 0) (pa_cons pe_int pa_nil))) (fun _ _ => rfl)) pa_nil))))) pa_nil)))))))
      (pss_cons (ps_set (i := 7) sc_l_plan.nd rfl (.inl rfl) (pe_ix ix_list (pe_lst (pa_cons pe_int (pa_cons pe_int (pa_cons pe_int (pa_cons pe_int (pa_cons pe_int (pa_cons (pe_op op_add pe_int (pe_callB call_abs (by rfl) T.m_abs (by decide +kernel) (pa_cons (pv 1) pa_nil))) pa_nil))))))) (pe_call (ok_l_take T) (hr.mono (by decide)) (by rfl) T.g_l_take T.F_l_take.kp T.b_l_take .nil pass0 (pa_cons (pv 0) (pa_cons pe_int pa_nil))) (fun _ _ => rfl)))
      (pss_one (ps_ret (pe_tup (pa_cons (pv 7) (pa_cons (pe_callTy call_tuple_of (by rfl) T.m_tuple (by decide +kernel) (pa_cons (pv 3) pa_nil)) pa_nil)))))))))), ?_⟩
    refine ⟨.ref d, rfl, d, _, rfl, hd, by decide, fun H1 u r1 u0 u1 => ⟨_, _, rfl, rfl, ?_⟩⟩
    refine ⟨.ref d, rfl, d, _, rfl, r1.at_, by decide, fun H2 v r2 v0 v1 => ⟨rfl, _, rfl, ite2 (fun e => ?c1) (fun e => ?c2)⟩⟩
    case' c1 =>
      refine ⟨_, rfl, _, _, rfl, rfl, ?_⟩
      dsimp only
      obtain ⟨mn, emn, m0, m1⟩ : ∃ mn : Int, mn = 1 + u + 3 ∧ 1 ≤ mn ∧ mn ≤ 6 := ⟨_, rfl, by omega, by omega⟩
      rw [← emn]
    case' c2 =>
      dsimp only
      obtain ⟨mn, emn, m0, m1⟩ : ∃ mn : Int, mn = 1 + u ∧ 1 ≤ mn ∧ mn ≤ 6 := ⟨_, rfl, by omega, by omega⟩
      rw [← emn]
    all_goals (
      refine ⟨Nat.zero_le _, fun M nM => ?_⟩
      have r12 := r1.trans r2
      have rM : Dr d H (upd H2 M (.lst [])) := r12.then (same_new nM)
      have nMd : M ≠ d := r12.ne nM
      refine ⟨.int mn, rfl, mn, rfl, by omega, by omega, fun C nC => ?_⟩
      have nCd : C ≠ d := rM.ne nC
      have nCM : C ≠ M := fun z => by rw [z, upd_same] at nC; cases nC
      refine lc_range (lo := 0) (n := mn.toNat) (fun i H3 => Dr d H H3 ∧ H3 M = some (.lst []) ∧ ∃ ws : List Str, H3 C = some (.lst (ws.map V.str)) ∧ ws.length = i ∧ ∀ w ∈ ws, IsW w) ⟨rM.then (same_new nC), by rw [upd_ne nCM.symm, upd_same], [], upd_same, rfl, fun _ z => nomatch z⟩ (fun i H3 hi hp => ?_) (fun H3 hp => ?_)
      · obtain ⟨r3, hM3, ws, hC3, hwl, hws⟩ := hp
        refine ⟨rfl, .ref d, rfl, d, rfl, r3.at_, fun H4 wd r4 hw => ⟨_, r4.keep _ _ nCd hC3, ?_, r3.trans r4 |>.keepNew nCd ?_, ?_, ws ++ [wd], ?_, ?_, ?_⟩⟩
        · rw [List.length_map]
          exact small (by omega)
        · exact rM.free hd nC
        · rw [upd_ne nCM.symm]
          exact r4.keep _ _ nMd hM3
        · rw [upd_same, List.map_append]
          rfl
        · rw [List.length_append, hwl]
          rfl
        · intro w hm
          rcases List.mem_append.mp hm with z | z
          · exact hws w z
          · rw [List.mem_singleton.mp z]
            exact hw
      · obtain ⟨r3, hM3, ws, hC3, hwl, hws⟩ := hp
        refine ⟨C, ws, rfl, .inl (.inl hC3), by omega, fun S ls nS hm hll => ⟨S, ls, rfl, upd_same, by omega, fun ys L pm nd so nL => ?_⟩⟩
        have nSd : S ≠ d := r3.ne nS
        have rS := r3.then (same_new (o := Tset.SetS P w S ls) nS)
        have nLd : L ≠ d := rS.ne nL
        have nMS : M ≠ S := ne_of_none hM3 nS
        have hMS : upd H3 S (Tset.SetS P w S ls) M = some (.lst []) := by rw [upd_ne nMS]; exact hM3
        have nML : M ≠ L := ne_of_none hMS nL
        have ysW : ∀ y ∈ ys, IsW y := fun y hy => hws y ((hm y).mp (pm.mem_iff.mp hy))
        have ysl : ys.length ≤ 6 := by rw [pm.length_eq]; omega
        have ysne : ys ≠ [] := fun z => by
          rw [z] at pm
          have e0 : ls = [] := List.length_eq_zero_iff.mp (by have := pm.length_eq; simpa using this.symm)
          have : 0 < ws.length := by omega
          cases ws with
          | nil => exact absurd this (by decide)
          | cons x r =>
            have := (hm x).mpr List.mem_cons_self
            rw [e0] at this
            cases this
        refine ⟨L, rfl, ⟨_, .inl (.inl upd_same)⟩, for_list (K := K) (a := L) (xs := ys.map V.str) (fun i σ H4 => ∃ (y4 y5 y6 y7 : Option V) (ts : List Addr) (ms : List Mt), σ = [some (.ref d), some (.int c), some (.int mn), some (.ref M), y4, y5, y6, y7, none] ∧
          Dr d H H4 ∧ H4 L = some (.lst (ys.map V.str)) ∧ H4 M = some (.lst (ts.map V.ref)) ∧ Paired (MtAt H4) ts ms ∧ ms.map Mt.name = ys.take i ∧ (∀ m ∈ ms, MtOk c m)) ?_ (fun i σ H4 _ hp => ?_) (fun i x σ H4 hx hp => ?_) (fun σ H4 hp => ?_)⟩
        · exact ⟨none, none, none, none, [], [], rfl, rS.then (same_new nL), upd_same, by rw [upd_ne nML]; exact hMS, .nil, rfl, fun _ z => nomatch z⟩
        · obtain ⟨_, _, _, _, _, _, _, _, hL, _⟩ := hp
          exact .inl (.inl hL)
        · obtain ⟨y4, y5, y6, y7, ts, ms, rfl, r4, hL4, hM4, hP4, hn4, ho4⟩ := hp
          obtain ⟨hlt, hx'⟩ := List.getElem?_eq_some_iff.mp hx
          rw [List.length_map] at hlt
          have ex : x = .str ys[i] := by rw [← hx', List.getElem_map]
          subst ex
          have hml : ms.length = i := by
            have := congrArg List.length hn4
            rw [List.length_map, List.length_take] at this
            omega
          have htl : ts.length = i := by rw [← hml]; exact hP4.length
          -- low
          refine ⟨.ref d, rfl, d, _, rfl, r4.at_, by decide, fun H5 x5 r5 x50 x51 => ⟨_, _, rfl, rfl, .int c, rfl, small' (n := 2) (by decide), fun p5 n5 => ?_⟩⟩
          have r45 := r4.trans r5
          have q5 := r45.then (same_new (o := .lst [.int (x5 - 3), .int c]) n5)
          have n5d : p5 ≠ d := r45.ne n5
          refine ⟨.ref d, rfl, d, _, rfl, q5.at_, by decide, fun H6 x6 r6 x60 x61 => ?_⟩
          have h6 : H6 p5 = some (.lst [.int (x5 - 3), .int c]) := r6.keep _ _ n5d upd_same
          obtain ⟨lv, lvm, lva⟩ := pick (xs := [x5 - 3, c]) (vs := [.int (x5 - 3), .int c]) (k := x6 / 8) rfl (by omega) (by show x6 / 8 < 2; omega)
          have lvB : lv.natAbs ≤ c.natAbs + 3 := by
            rcases List.mem_cons.mp lvm with z | z
            · omega
            · rw [List.mem_singleton.mp z]; omega
          refine ⟨_, _, rfl, rfl, ⟨by decide, by decide⟩, p5, _, _, _, rfl, rfl, .inl (.inl h6), lva, ?_⟩
          -- wide
          refine ⟨_, _, rfl, rfl, ⟨by decide, by decide, by decide⟩, .int c, rfl, c, rfl, small' (n := 8) (by decide), fun p7 n7 => ?_⟩
          rw [abs_eq]
          have q6 := q5.trans r6
          have q7 := q6.then (same_new (o := .lst [.int 0, .int 1, .int 1, .int 2, .int 5, .int 40, .int (10 ^ (20 : Int).toNat), .int (c.natAbs : Int)]) n7)
          have n7d : p7 ≠ d := q6.ne n7
          refine ⟨.ref d, rfl, d, _, rfl, q7.at_, by decide, fun H8 x8 r8 x80 x81 => ?_⟩
          have h8 : H8 p7 = some (.lst [.int 0, .int 1, .int 1, .int 2, .int 5, .int 40, .int (10 ^ (20 : Int).toNat), .int (c.natAbs : Int)]) := r8.keep _ _ n7d upd_same
          obtain ⟨wv, wvm, wva⟩ := pick (xs := [0, 1, 1, 2, 5, 40, 10 ^ (20 : Int).toNat, (c.natAbs : Int)]) (vs := [.int 0, .int 1, .int 1, .int 2, .int 5, .int 40, .int (10 ^ (20 : Int).toNat), .int (c.natAbs : Int)]) (k := x8) rfl (by omega) (by show x8 < 8; omega)
          have wvB : 0 ≤ wv ∧ wv ≤ c.natAbs + 10 ^ 20 := by
            have et : (10 : Int) ^ (20 : Int).toNat = 10 ^ 20 := rfl
            rw [et] at wvm
            simp only [List.mem_cons, List.not_mem_nil, or_false] at wvm
            omega
          refine ⟨p7, _, _, _, rfl, rfl, .inl (.inl h8), wva, ?_⟩
          -- the meter
          have q8 := q7.trans r8
          have hM8 : H8 M = some (.lst (ts.map V.ref)) := by
            have a5 : H5 M = some (.lst (ts.map V.ref)) := r5.keep _ _ nMd hM4
            have a6 := r6.keep _ _ nMd (show upd H5 p5 _ M = some (.lst (ts.map V.ref)) by rw [upd_ne (ne_of_none a5 n5)]; exact a5)
            exact r8.keep _ _ nMd (by rw [upd_ne (ne_of_none a6 n7)]; exact a6)
          have hL8 : H8 L = some (.lst (ys.map V.str)) := by
            have a5 : H5 L = some (.lst (ys.map V.str)) := r5.keep _ _ nLd hL4
            have a6 := r6.keep _ _ nLd (show upd H5 p5 _ L = some (.lst (ys.map V.str)) by rw [upd_ne (ne_of_none a5 n5)]; exact a5)
            exact r8.keep _ _ nLd (by rw [upd_ne (ne_of_none a6 n7)]; exact a6)
          have hP8 : Paired (MtAt H8) ts ms :=
            r8.mts q7.at_ (same_mts (same_new n7) (r6.mts q5.at_ (same_mts (same_new n5) (r5.mts r4.at_ hP4))))
          refine ⟨.ref M, rfl, .inl ⟨rfl, _, .inl (.inl hM8)⟩, .str ys[i], rfl, .int lv, rfl, .int lv, rfl, .int wv, rfl, _, _, rfl, rfl, small' (n := 6) (by decide), fun p9 n9 => ?_⟩
          have n9d : p9 ≠ d := q8.ne n9
          have q9 := q8.then (same_new (o := .lst [.int 0, .int 0, .int 1, .int 2, .int 7, .int 60]) n9)
          refine ⟨.ref d, rfl, d, _, rfl, q9.at_, by decide, fun HA xA rA xA0 xA1 => ?_⟩
          have hA : HA p9 = some (.lst [.int 0, .int 0, .int 1, .int 2, .int 7, .int 60]) := rA.keep _ _ n9d upd_same
          obtain ⟨ev, evm, eva⟩ := pick (xs := [0, 0, 1, 2, 7, 60]) (vs := [.int 0, .int 0, .int 1, .int 2, .int 7, .int 60]) (k := xA) rfl (by omega) (by show xA < 6; omega)
          have evB : 0 ≤ ev ∧ ev ≤ 60 := by
            simp only [List.mem_cons, List.not_mem_nil, or_false] at evm
            omega
          refine ⟨p9, _, _, _, rfl, rfl, .inl (.inl hA), eva, small' (n := 4) (by decide), fun t nt => ?_⟩
          have qA := q9.trans rA
          have hMA : HA M = some (.lst (ts.map V.ref)) := rA.keep _ _ nMd (by rw [upd_ne (ne_of_none hM8 n9)]; exact hM8)
          have hLA : HA L = some (.lst (ys.map V.str)) := rA.keep _ _ nLd (by rw [upd_ne (ne_of_none hL8 n9)]; exact hL8)
          have hPA : Paired (MtAt HA) ts ms := rA.mts q9.at_ (same_mts (same_new n9) hP8)
          have qT := qA.then (same_new (o := .tup [.str ys[i], .int lv, .int (lv + wv), .int ev]) nt)
          have nMt : M ≠ t := ne_of_none hMA nt
          have nLt : L ≠ t := ne_of_none hLA nt
          have nMfree : H M = none := r12.free hd nM
          refine ⟨M, _, _, rfl, rfl, by rw [upd_ne nMt]; exact hMA, by rw [List.length_map, htl]; exact small (by omega), ?_⟩
          have kp : Same HA (upd HA t (.tup [.str ys[i], .int lv, .int (lv + wv), .int ev])) := same_new nt
          refine ⟨_, _, _, _, ts ++ [t], ms ++ [⟨ys[i], lv, lv + wv, ev⟩], rfl, qT.keepNew nMd nMfree, ?_, ?_, ?_, ?_, ?_⟩
          · rw [upd_ne (show L ≠ M from nML.symm), upd_ne nLt]
            exact hLA
          · rw [upd_same, map_snoc]
          · have tupM : ∀ b xs, (upd HA t (.tup [.str ys[i], .int lv, .int (lv + wv), .int ev])) b = some (.tup xs) → upd (upd HA t (.tup [.str ys[i], .int lv, .int (lv + wv), .int ev])) M (.lst (ts.map V.ref ++ [V.ref t])) b = some (.tup xs) := fun b xs z => by
              have nb : b ≠ M := fun zz => by
                rw [zz, upd_ne nMt, hMA] at z
                cases z
              rw [upd_ne nb]
              exact z
            have lift : ∀ {us : List Addr} {ls : List Mt}, Paired (MtAt HA) us ls → Paired (MtAt (upd (upd HA t (.tup [.str ys[i], .int lv, .int (lv + wv), .int ev])) M (.lst (ts.map V.ref ++ [V.ref t])))) us ls := fun {us ls} z => L2.Paired.mapP z fun a b y => tupM _ _ (kp _ _ y)
            exact (lift hPA).snoc (tupM t _ upd_same)
          · rw [List.map_append, hn4, List.take_add_one, List.getElem?_eq_getElem hlt]
            rfl
          · intro m hm
            rcases List.mem_append.mp hm with z | z
            · exact ho4 m z
            · rw [List.mem_singleton.mp z]
              exact ⟨by show lv ≤ lv + wv; omega, evB.1, evB.2, lvB, by show (lv + wv).natAbs ≤ _; omega⟩
        · obtain ⟨y4, y5, y6, y7, ts, ms, rfl, r4, hL4, hM4, hP4, hn4, ho4⟩ := hp
          rw [List.length_map, List.take_length] at hn4
          refine ⟨.int c, rfl, c, rfl, _, _, rfl, rfl, small' (n := 6) (by decide), fun p5 n5 => ?_⟩
          rw [abs_eq]
          have n5d : p5 ≠ d := r4.ne n5
          have q5 := r4.then (same_new (o := .lst [.int 1, .int 2, .int 5, .int 10, .int 60, .int (1 + (c.natAbs : Int))]) n5)
          refine ⟨.ref d, rfl, d, _, rfl, q5.at_, by decide, fun H6 x6 r6 x60 x61 => ?_⟩
          have h6 : H6 p5 = some (.lst [.int 1, .int 2, .int 5, .int 10, .int 60, .int (1 + (c.natAbs : Int))]) := r6.keep _ _ n5d upd_same
          obtain ⟨lv, lvm, lva⟩ := pick (xs := [1, 2, 5, 10, 60, 1 + (c.natAbs : Int)]) (vs := [.int 1, .int 2, .int 5, .int 10, .int 60, .int (1 + (c.natAbs : Int))]) (k := x6) rfl (by omega) (by show x6 < 6; omega)
          have lvB : 1 ≤ lv ∧ lv ≤ c.natAbs + 60 := by
            simp only [List.mem_cons, List.not_mem_nil, or_false] at lvm
            omega
          refine ⟨p5, _, _, _, rfl, rfl, .inl (.inl h6), lva, ?_⟩
          have q6 := q5.trans r6
          have hM6 : H6 M = some (.lst (ts.map V.ref)) := r6.keep _ _ nMd (by rw [upd_ne (ne_of_none hM4 n5)]; exact hM4)
          have hP6 : Paired (MtAt H6) ts ms := r6.mts q5.at_ (same_mts (same_new n5) hP4)
          refine ⟨.int lv, rfl, .ref M, rfl, M, _, rfl, .inl ⟨.inl (.inl hM6), fun tm ntm => ⟨small' (n := 2) (by decide), fun p np => ?_⟩⟩⟩
          have s1 := same_new (o := .tup (ts.map V.ref)) ntm
          have s2 := same_new (o := .tup [.int lv, .ref tm]) np
          have nn : tm ≠ p := fun z => by
            rw [← z, upd_same] at np
            cases np
          refine q _ p tm ts ⟨lv, ms⟩ ((q6.then s1).then s2) ⟨upd_same, by rw [upd_ne nn, upd_same], same_mts s2 (same_mts s1 hP6)⟩ ⟨lvB.1, lvB.2, fun z => ysne ?_, ?_, ?_, ho4⟩ fun m hm => ysW _ ?_
          · have z' : ms = [] := z
            rw [z'] at hn4
            exact hn4.symm
          · have := congrArg List.length hn4
            rw [List.length_map] at this
            show ms.length ≤ 6
            omega
          · show Risen (ms.map Mt.name)
            rw [hn4]
            exact ⟨so, nd⟩
          · rw [← hn4]
            exact List.mem_map_of_mem hm)
end
def sp_l_versions (K : PySem.W.Frag) : Sp := fun vs H Q _ => ∃ (d t : Addr) (m : Mt), vs = [.ref d, .ref t] ∧ DrA H d ∧ MtAt H t m ∧ m.low ≤ m.high ∧ ∀ H' tv os, Dr d H H' → H' tv = some (.tup (os.map optV)) → VersOk m os → Q (.ref tv) H'
section
variable {P : Program} {w : World} {K : PySem.W.Frag} {mg : Str → Option Value} {base : Heap}
theorem ok_l_versions (T : Ctx K mg) : FnOk P w K mg base CX0 3 T.f_l_versions T.fd_l_versions ["draws", "meter"] (sp_l_versions K) := by
  refine T.F_l_versions.ok sc_l_versions (fun vs H Q E h => ?_) (fun cdv A outer s H vs Q E hr h => ?_)
  · obtain ⟨d, t, m, rfl, _⟩ := h
    rfl
  · obtain ⟨d, t, m, rfl, hd, hm, ho, q⟩ := h
    refine ⟨_, (pss_cons (ps_set (i := 2) sc_l_versions.nd rfl (.inl rfl) (pe_lst (pa_cons (pe_call (ok_l_reading T) (hr.mono (by decide)) (by rfl) T.g_l_reading T.F_l_reading.kp T.b_l_reading .nil pass0 (pa_cons (pv 0) (pa_cons (pv 1) pa_nil))) pa_nil)))
      (pss_cons (ps_set (i := 3) sc_l_versions.nd rfl (.inl rfl) (pe_ix ix_list (pe_lst (pa_cons pe_int (pa_cons pe_int (pa_cons pe_int (pa_cons pe_int (pa_cons pe_int (pa_cons pe_int pa_nil))))))) (pe_call (ok_l_take T) (hr.mono (by decide)) (by rfl) T.g_l_take T.F_l_take.kp T.b_l_take .nil pass0 (pa_cons (pv 0) (pa_cons pe_int pa_nil))) (fun _ _ => rfl)))
      (pss_cons (ps_if (pt_cmpR op_eq (pe_call (ok_l_take T) (hr.mono (by decide)) (by rfl) T.g_l_take T.F_l_take.kp T.b_l_take .nil pass0 (pa_cons (pv 0) (pa_cons pe_int pa_nil))) pe_int (nomark _))
        (pss_one (ps_set (i := 3) sc_l_versions.nd rfl (.inl rfl) pe_int))
        pss_nil)
      (pss_cons (ps_for PassesOwn.never rfl (pi_range1 (by rfl) T.m_range (pa_cons (pv 3) pa_nil)) (pg_name (i := 4) sc_l_versions.nd rfl (.inl rfl))
        (pss_cons (ps_set (i := 5) sc_l_versions.nd rfl (.inl rfl) (pe_call (ok_l_reading T) (hr.mono (by decide)) (by rfl) T.g_l_reading T.F_l_reading.kp T.b_l_reading .nil pass0 (pa_cons (pv 0) (pa_cons (pv 1) pa_nil))))
      (pss_cons (ps_if (pt_cmpR op_eq (pe_call (ok_l_take T) (hr.mono (by decide)) (by rfl) T.g_l_take T.F_l_take.kp T.b_l_take .nil pass0 (pa_cons (pv 0) (pa_cons pe_int pa_nil))) pe_int (nomark _))
        (pss_one (ps_set (i := 5) sc_l_versions.nd rfl (.inl rfl) pe_non))
        pss_nil)
      (pss_one (ps_expr (pe_bm PySem.F.plainAttrs_list PySem.F.slot_list_append PySem.F.type_list_append mt_append (pv 2) (pa_cons (pv 5) pa_nil)))))))
      (pss_one (ps_ret (pe_callTy call_tuple_of (by rfl) T.m_tuple (by decide +kernel) (pa_cons (pv 2) pa_nil)))))))), ?_⟩
    refine ⟨.ref d, rfl, .ref t, rfl, d, t, m, rfl, hd, hm, ho, fun H1 v0 r1 a0 a1 => ⟨small' (n := 1) (by decide), fun W nW => ?_⟩⟩
    have nWd : W ≠ d := r1.ne nW
    have nHW : H W = none := r1.free hd nW
    have r2 := r1.then (same_new (o := .lst [.int v0]) nW)
    refine ⟨small' (n := 6) (by decide), fun p np => ?_⟩
    have npd : p ≠ d := r2.ne np
    have hW2 : upd (upd H1 W (.lst [.int v0])) p (.lst [.int 0, .int 0, .int 0, .int 1, .int 2, .int 5]) W = some (.lst [.int v0]) := same_new np _ _ upd_same
    have r3 := r2.then (same_new (o := .lst [.int 0, .int 0, .int 0, .int 1, .int 2, .int 5]) np)
    refine ⟨.ref d, rfl, d, _, rfl, r3.at_, by decide, fun H4 x r4 x0 x1 => ?_⟩
    have h4 : H4 p = some (.lst [.int 0, .int 0, .int 0, .int 1, .int 2, .int 5]) := r4.keep _ _ npd upd_same
    obtain ⟨lv, lvm, lva⟩ := pick (xs := [0, 0, 0, 1, 2, 5]) (vs := [.int 0, .int 0, .int 0, .int 1, .int 2, .int 5]) (k := x) rfl (by omega) (by show x < 6; omega)
    have lvB : 0 ≤ lv ∧ lv ≤ 11 := by
      simp only [List.mem_cons, List.not_mem_nil, or_false] at lvm
      omega
    have hW4 := r4.keep _ _ nWd hW2
    have r34 := r3.trans r4
    refine ⟨p, _, _, _, rfl, rfl, .inl (.inl h4), lva, ?_⟩
    refine ⟨.ref d, rfl, d, _, rfl, r4.at_, by decide, fun H5 y r5 y0 y1 => ⟨rfl, _, rfl, ite2 (fun e => ?c1) (fun e => ?c2)⟩⟩
    case' c1 =>
      obtain ⟨mn, emn, m0, m1⟩ : ∃ mn : Int, mn = 11 ∧ 0 ≤ mn ∧ mn ≤ 11 := ⟨11, rfl, by decide, by decide⟩
      rw [← emn]
    case' c2 =>
      obtain ⟨mn, emn, m0, m1⟩ : ∃ mn : Int, mn = lv ∧ 0 ≤ mn ∧ mn ≤ 11 := ⟨lv, rfl, lvB.1, lvB.2⟩
      rw [← emn]
    all_goals (
      clear emn
      have r35 := r34.trans r5
      have hW5 := r5.keep _ _ nWd hW4
      refine ⟨.int mn, rfl, mn, rfl, by omega, by omega, for_range (lo := 0) (n := mn.toNat) (fun i σ H' => ∃ (y4 y5 : Option V) (os : List (Option Int)), σ = [some (.ref d), some (.ref t), some (.ref W), some (.int mn), y4, y5] ∧ Dr d H H' ∧ H' W = some (.lst (os.map optV)) ∧ (∃ v r, os = some v :: r) ∧ os.length = i + 1 ∧ ∀ v, some v ∈ os → m.low ≤ v ∧ v ≤ m.high)
        ⟨none, none, [some v0], rfl, r35, hW5, ⟨v0, [], rfl⟩, rfl, fun v hv => by cases List.mem_singleton.mp hv; exact ⟨a0, a1⟩⟩ (fun i σ H' hi hp => ?_) (fun σ H' hp => ?_)⟩
      · obtain ⟨y4, y5, os, rfl, r6, hW6, ⟨v1, r1', eos⟩, lo6, ea6⟩ := hp
        have hm6 : MtAt H' t m := r6.tup hd hm
        refine ⟨.ref d, rfl, .ref t, rfl, d, t, m, rfl, r6.at_, hm6, ho, fun H7 v r7 b0 b1 => ?_⟩
        refine ⟨.ref d, rfl, d, _, rfl, r7.at_, by decide, fun H8 z r8 z0 z1 => ⟨rfl, _, rfl, ?_⟩⟩
        have r68 := (r6.trans r7).trans r8
        have hW8 := r8.keep _ _ nWd (r7.keep _ _ nWd hW6)
        have fin : ∀ (o : Option Int) (w : V), w = optV o → (∀ u, o = some u → m.low ≤ u ∧ u ≤ m.high) → ∀ σ, σ = [some (.ref d), some (.ref t), some (.ref W), some (.int mn), some (.int (0 + (i : Int))), some w] → ∃ (y4 y5 : Option V) (ns : List (Option Int)), σ = [some (.ref d), some (.ref t), some (.ref W), some (.int mn), y4, y5] ∧ Dr d H (upd H8 W (.lst (os.map optV ++ [w]))) ∧ upd H8 W (.lst (os.map optV ++ [w])) W = some (.lst (ns.map optV)) ∧ (∃ v r, ns = some v :: r) ∧ ns.length = i + 1 + 1 ∧ (∀ v, some v ∈ ns → m.low ≤ v ∧ v ≤ m.high) := by
          rintro o w rfl hw σ rfl
          refine ⟨_, _, os ++ [o], rfl, r68.keepNew nWd nHW, ?_, ⟨v1, r1' ++ [o], by rw [eos]; rfl⟩, by rw [List.length_append, lo6]; rfl, fun u hu => ?_⟩
          · rw [upd_same, List.map_append]
            rfl
          · rcases List.mem_append.mp hu with q1 | q1
            · exact ea6 u q1
            · exact hw u (List.mem_singleton.mp q1).symm
        have ln : (os.map optV).length < sizeLine := by
          rw [List.length_map]
          exact small (by omega)
        refine ite2 (fun _ => ?_) (fun _ => ?_)
        · exact ⟨.ref W, rfl, .inl ⟨rfl, _, .inl (.inl hW8)⟩, .non, rfl, W, _, _, rfl, rfl, hW8, ln, fin none _ rfl (fun _ z => nomatch z) _ rfl⟩
        · exact ⟨.ref W, rfl, .inl ⟨rfl, _, .inl (.inl hW8)⟩, .int v, rfl, W, _, _, rfl, rfl, hW8, ln, fin (some v) _ rfl (fun u z => by cases z; exact ⟨b0, b1⟩) _ rfl⟩
      · obtain ⟨y4, y5, os, rfl, r6, hW6, hd6, lo6, ea6⟩ := hp
        refine ⟨.ref W, rfl, W, _, rfl, .inl ⟨.inl (.inl hW6), fun tv ntv => q _ tv os (r6.then (same_new ntv)) upd_same ⟨hd6, by omega, ea6⟩⟩⟩)
end
def sp_l_slots (K : PySem.W.Frag) : Sp := fun vs H Q _ => ∃ (d t : Addr) (m : Mt) (most c : Int), vs = [.ref d, .ref t, .int most, .int c] ∧ DrA H d ∧ MtAt H t m ∧ m.low ≤ m.high ∧ 0 ≤ most ∧ most ≤ 20 ∧
  ∀ H' tt us xs st, Dr d H H' → H' tt = some (.tup (us.map V.ref)) → Paired (SlAt H') us xs → SlsOk m c st xs → us.length ≤ 50 → Q (.ref tt) H'
section
variable {P : Program} {w : World} {K : PySem.W.Frag} {mg : Str → Option Value} {base : Heap}
theorem ok_l_slots (T : Ctx K mg) : FnOk P w K mg base CX0 4 T.f_l_slots T.fd_l_slots ["draws", "meter", "most", "cell"] (sp_l_slots K) := by
  refine T.F_l_slots.ok sc_l_slots (fun vs H Q E h => ?_) (fun cdv A outer s H vs Q E hr h => ?_)
  · obtain ⟨d, t, m, most, c, rfl, _⟩ := h
    rfl
  · obtain ⟨d, t, m, most, c, rfl, hd, hm, ho, m0, m1, q⟩ := h
    refine ⟨_, (pss_cons (ps_set (i := 4) sc_l_slots.nd rfl (.inl rfl) (pe_ix ix_list (pe_lst (pa_cons (pe_op op_sub (pe_call (ok_l_take T) (hr.mono (by decide)) (by rfl) T.g_l_take T.F_l_take.kp T.b_l_take .nil pass0 (pa_cons (pv 0) (pa_cons pe_int pa_nil))) pe_int) (pa_cons (pv 3) pa_nil))) (pe_op op_fdiv (pe_call (ok_l_take T) (hr.mono (by decide)) (by rfl) T.g_l_take T.F_l_take.kp T.b_l_take .nil pass0 (pa_cons (pv 0) (pa_cons pe_int pa_nil))) pe_int) (fun _ _ => rfl)))
      (pss_cons (ps_set (i := 5) sc_l_slots.nd rfl (.inl rfl) (pe_lst pa_nil))
      (pss_cons (ps_for PassesOwn.never rfl (pi_range1 (by rfl) T.m_range (pa_cons (pe_call (ok_l_take T) (hr.mono (by decide)) (by rfl) T.g_l_take T.F_l_take.kp T.b_l_take .nil pass0 (pa_cons (pv 0) (pa_cons (pe_op op_add (pv 2) pe_int) pa_nil))) pa_nil)) (pg_name (i := 6) sc_l_slots.nd rfl (.inl rfl))
        (pss_cons (ps_set (i := 4) sc_l_slots.nd rfl (.inl rfl) (pe_op op_add (pv 4) (pe_ix ix_list (pe_lst (pa_cons pe_int (pa_cons pe_int (pa_cons pe_int (pa_cons pe_int (pa_cons pe_int pa_nil)))))) (pe_call (ok_l_take T) (hr.mono (by decide)) (by rfl) T.g_l_take T.F_l_take.kp T.b_l_take .nil pass0 (pa_cons (pv 0) (pa_cons pe_int pa_nil))) (fun _ _ => rfl))))
      (pss_one (ps_expr (pe_bm PySem.F.plainAttrs_list PySem.F.slot_list_append PySem.F.type_list_append mt_append (pv 5) (pa_cons (pe_tup (pa_cons (pv 4) (pa_cons (pe_call (ok_l_versions T) (hr.mono (by decide)) (by rfl) T.g_l_versions T.F_l_versions.kp T.b_l_versions .nil pass0 (pa_cons (pv 0) (pa_cons (pv 1) pa_nil))) pa_nil))) pa_nil))))))
      (pss_cons (ps_if (pt_cmpR op_eq (pe_call (ok_l_take T) (hr.mono (by decide)) (by rfl) T.g_l_take T.F_l_take.kp T.b_l_take .nil pass0 (pa_cons (pv 0) (pa_cons pe_int pa_nil))) pe_int (nomark _))
        (pss_cons (ps_set (i := 7) sc_l_slots.nd rfl (.inl rfl) (pe_call (ok_l_take T) (hr.mono (by decide)) (by rfl) T.g_l_take T.F_l_take.kp T.b_l_take .nil pass0 (pa_cons (pv 0) (pa_cons pe_int pa_nil))))
      (pss_one (ps_for PassesOwn.never rfl (pi_range1 (by rfl) T.m_range (pa_cons pe_int pa_nil)) (pg_name (i := 6) sc_l_slots.nd rfl (.inl rfl))
        (pss_one (ps_expr (pe_bm PySem.F.plainAttrs_list PySem.F.slot_list_append PySem.F.type_list_append mt_append (pv 5) (pa_cons (pe_tup (pa_cons (pe_op op_add (pv 4) (pe_op op_mul (pv 7) (pe_op op_fdiv (pv 6) pe_int))) (pa_cons (pe_ix ix_list (pe_lst (pa_cons (pe_tup (pa_cons (pe_ix ix_tup (pv 1) pe_int (fun _ _ => rfl)) pa_nil)) (pa_cons (pe_tup (pa_cons (pe_ix ix_tup (pv 1) pe_int (fun _ _ => rfl)) (pa_cons pe_non pa_nil))) (pa_cons (pe_tup (pa_cons (pe_ix ix_tup (pv 1) pe_int (fun _ _ => rfl)) pa_nil)) pa_nil)))) (pe_op op_mod (pv 6) pe_int) (fun _ _ => rfl)) pa_nil))) pa_nil)))))))
        pss_nil)
      (pss_one (ps_ret (pe_callTy call_tuple_of (by rfl) T.m_tuple (by decide +kernel) (pa_cons (pv 5) pa_nil)))))))), ?_⟩
    -- stamp
    refine ⟨.ref d, rfl, d, _, rfl, hd, by decide, fun H1 x5 r1 x50 x51 => ⟨_, _, rfl, rfl, .int c, rfl, small' (n := 2) (by decide), fun p1 n1 => ?_⟩⟩
    have n1d : p1 ≠ d := r1.ne n1
    have q1 := r1.then (same_new (o := .lst [.int (x5 - 12), .int c]) n1)
    refine ⟨.ref d, rfl, d, _, rfl, q1.at_, by decide, fun H2 x6 r2 x60 x61 => ?_⟩
    have h2 : H2 p1 = some (.lst [.int (x5 - 12), .int c]) := r2.keep _ _ n1d upd_same
    obtain ⟨s0, s0m, s0a⟩ := pick (xs := [x5 - 12, c]) (vs := [.int (x5 - 12), .int c]) (k := x6 / 8) rfl (by omega) (by show x6 / 8 < 2; omega)
    have s0B : s0.natAbs ≤ c.natAbs + 12 := by
      rcases List.mem_cons.mp s0m with z | z
      · omega
      · rw [List.mem_singleton.mp z]; omega
    refine ⟨_, _, rfl, rfl, ⟨by decide, by decide⟩, p1, _, _, _, rfl, rfl, .inl (.inl h2), s0a, ?_⟩
    have q2 := q1.trans r2
    refine ⟨small' (n := 0) (by decide), fun S nS => ?_⟩
    have nSd : S ≠ d := q2.ne nS
    have nHS : H S = none := q2.free hd nS
    have q3 := q2.then (same_new (o := .lst []) nS)
    refine ⟨.ref d, rfl, .int most, rfl, _, _, rfl, rfl, d, _, rfl, q3.at_, by omega, fun H4 kk r4 k0 k1 => ⟨kk, rfl, by omega, by omega, ?_⟩⟩
    have q4 := q3.trans r4
    have hS4 : H4 S = some (.lst []) := r4.keep _ _ nSd upd_same
    refine for_range (lo := 0) (n := kk.toNat) (fun i σ H' => ∃ (y6 y7 : Option V) (st : Int) (us : List Addr) (xs : List Sl), σ = [some (.ref d), some (.ref t), some (.int most), some (.int c), some (.int st), some (.ref S), y6, y7] ∧ Dr d H H' ∧ H' S = some (.lst (us.map V.ref)) ∧ Paired (SlAt H') us xs ∧ SlsOk m c st xs ∧ us.length ≤ i ∧ st.natAbs ≤ c.natAbs + 12 + 7 * i)
      ⟨none, none, s0, [], [], rfl, q4, hS4, .nil, .nil _ _ _, Nat.zero_le _, by omega⟩ (fun i σ H' hi hp => ?_) (fun σ H' hp => ?_)
    · obtain ⟨y6, y7, st, us, xs, rfl, r5, hS5, hp5, ok5, len5, st5⟩ := hp
      refine ⟨.int st, rfl, small' (n := 5) (by decide), fun p6 n6 => ?_⟩
      have n6d : p6 ≠ d := r5.ne n6
      have q6 := r5.then (same_new (o := .lst [.int 0, .int 0, .int 1, .int 2, .int 7]) n6)
      refine ⟨.ref d, rfl, d, _, rfl, q6.at_, by decide, fun H7 x r7 x0 x1 => ?_⟩
      have h7 : H7 p6 = some (.lst [.int 0, .int 0, .int 1, .int 2, .int 7]) := r7.keep _ _ n6d upd_same
      obtain ⟨ev, evm, eva⟩ := pick (xs := [0, 0, 1, 2, 7]) (vs := [.int 0, .int 0, .int 1, .int 2, .int 7]) (k := x) rfl (by omega) (by show x < 5; omega)
      have evB : 0 ≤ ev ∧ ev ≤ 7 := by
        simp only [List.mem_cons, List.not_mem_nil, or_false] at evm
        omega
      refine ⟨p6, _, _, _, rfl, rfl, .inl (.inl h7), eva, _, _, rfl, rfl, ?_⟩
      have q7 := q6.trans r7
      have hS7 : H7 S = some (.lst (us.map V.ref)) := r7.keep _ _ nSd (same_new n6 _ _ hS5)
      have hp7 := sls_kept (r7.kt q6.at_) (sls_kept (Same.kt (same_new (o := .lst [.int 0, .int 0, .int 1, .int 2, .int 7]) n6)) hp5)
      have hm7 : MtAt H7 t m := q7.tup hd hm
      refine ⟨.ref S, rfl, .inl ⟨rfl, _, .inl (.inl hS7)⟩, .int (st + ev), rfl, .ref d, rfl, .ref t, rfl, d, t, m, rfl, q7.at_, hm7, ho, fun H8 tv os r8 htv vok => ⟨small' (n := 2) (by decide), fun s ns => ?_⟩⟩
      have q8 := q7.trans r8
      have hS8 : H8 S = some (.lst (us.map V.ref)) := r8.keep _ _ nSd hS7
      have hp8 := sls_kept (r8.kt q7.at_) hp7
      have k9 := same_new (o := .tup [.int (st + ev), .ref tv]) ns
      have hS9 := k9 _ _ hS8
      refine ⟨S, _, _, rfl, rfl, hS9, by rw [List.length_map]; exact small (by omega), _, _, st + ev, us ++ [s], xs ++ [⟨st + ev, os⟩], rfl, (q8.then k9).keepNew nSd nHS, by rw [upd_same, map_snoc], ?_, SlsOk.snoc (x := ⟨st + ev, os⟩) ok5 (by show st ≤ st + ev; omega) (by show (st + ev).natAbs ≤ _; omega) vok, by rw [List.length_append]; show _ + 1 ≤ _; omega, by omega⟩
      refine (sls_kept (KT.trans (Same.kt k9) (kt_lst hS9)) hp8).snoc ?_
      exact SlAt.kept (kt_lst hS9) ⟨tv, upd_same, k9 _ _ htv⟩
    · obtain ⟨y6, y7, st, us, xs, rfl, r5, hS5, hp5, ok5, len5, st5⟩ := hp
      have len6 : us.length ≤ 20 := by omega
      have st6 : st.natAbs ≤ c.natAbs + 12 + 140 := by omega
      refine ⟨.ref d, rfl, d, _, rfl, r5.at_, by decide, fun H6 y r6 y0 y1 => ⟨rfl, _, rfl, ite2 (fun e => ?_) (fun e => ?_)⟩⟩
      · refine ⟨.ref d, rfl, d, _, rfl, r6.at_, by decide, fun H7 sp r7 s0' s1' => ⟨30, rfl, by decide, by decide, ?_⟩⟩
        have q7 := (r5.trans r6).trans r7
        have hS7 : H7 S = some (.lst (us.map V.ref)) := r7.keep _ _ nSd (r6.keep _ _ nSd hS5)
        have hp7 := sls_kept (r7.kt r6.at_) (sls_kept (r6.kt r5.at_) hp5)
        refine for_range (lo := 0) (n := 30) (fun i σ H' => ∃ (y6 : Option V) (top : Int) (us : List Addr) (xs : List Sl), σ = [some (.ref d), some (.ref t), some (.int most), some (.int c), some (.int st), some (.ref S), y6, some (.int sp)] ∧ Dr d H H' ∧ H' S = some (.lst (us.map V.ref)) ∧ Paired (SlAt H') us xs ∧ SlsOk m c top xs ∧ us.length ≤ 20 + i ∧ top ≤ st + sp * ((0 + (i : Int)) / 2))
          ⟨_, st, us, xs, rfl, q7, hS7, hp7, ok5, by omega, ?_⟩ (fun i σ H' hi hp => ?_) (fun σ H' hp => ?_)
        · show st ≤ st + sp * ((0 + ((0 : Nat) : Int)) / 2)
          have e : (0 + ((0 : Nat) : Int)) / 2 = 0 := by decide
          rw [e, Int.mul_zero]
          omega
        · obtain ⟨y6, top, us, xs, rfl, r8, hS8, hp8, ok8, len8, top8⟩ := hp
          have hm8 : MtAt H' t m := r8.tup hd hm
          obtain ⟨e, ee, e0, e1, e2⟩ : ∃ e : Int, e = sp * ((0 + (i : Int)) / 2) ∧ 0 ≤ e ∧ e ≤ 60 ∧ e ≤ sp * ((0 + ((i + 1 : Nat) : Int)) / 2) := by
            have : sp = 0 ∨ sp = 1 ∨ sp = 2 := by omega
            refine ⟨_, rfl, ?_⟩
            rcases this with z | z | z <;> rw [z] <;> refine ⟨?_, ?_, ?_⟩ <;> omega
          rw [← ee] at top8
          refine ⟨.ref S, rfl, .inl ⟨rfl, _, .inl (.inl hS8)⟩, .int st, rfl, .int sp, rfl, .int (0 + (i : Int)), rfl, _, _, rfl, rfl, ⟨by decide, by decide⟩, _, _, rfl, rfl, .inl ⟨by omega, by omega⟩, _, _, rfl, rfl, ?_⟩
          refine ⟨.ref t, rfl, t, _, 1, _, rfl, rfl, .inl (.inl hm8), atI_nat (j := 1) rfl, small' (n := 1) (by decide), fun t1 n1 => ?_⟩
          have k1 := same_new (o := .tup [.int m.low]) n1
          refine ⟨.ref t, rfl, t, _, 2, _, rfl, rfl, .inl (.inl (k1 _ _ hm8)), atI_nat (j := 2) rfl, small' (n := 2) (by decide), fun t2 n2 => ?_⟩
          have k2 := same_new (o := .tup [.int m.high, .non]) n2
          refine ⟨.ref t, rfl, t, _, 2, _, rfl, rfl, .inl (.inl (k2 _ _ (k1 _ _ hm8))), atI_nat (j := 2) rfl, small' (n := 1) (by decide), fun t3 n3 => ⟨small' (n := 3) (by decide), fun L nL => ?_⟩⟩
          have k3 := same_new (o := .tup [.int m.high]) n3
          have k4 := same_new (o := .lst [.ref t1, .ref t2, .ref t3]) nL
          have f1 : upd (upd (upd (upd H' t1 (.tup [.int m.low])) t2 (.tup [.int m.high, .non])) t3 (.tup [.int m.high])) L (.lst [.ref t1, .ref t2, .ref t3]) t1 = some (.tup ([some m.low].map optV)) := k4 _ _ (k3 _ _ (k2 _ _ upd_same))
          have f2 : upd (upd (upd (upd H' t1 (.tup [.int m.low])) t2 (.tup [.int m.high, .non])) t3 (.tup [.int m.high])) L (.lst [.ref t1, .ref t2, .ref t3]) t2 = some (.tup ([some m.high, none].map optV)) := k4 _ _ (k3 _ _ upd_same)
          have f3 : upd (upd (upd (upd H' t1 (.tup [.int m.low])) t2 (.tup [.int m.high, .non])) t3 (.tup [.int m.high])) L (.lst [.ref t1, .ref t2, .ref t3]) t3 = some (.tup ([some m.high].map optV)) := k4 _ _ upd_same
          have fL : upd (upd (upd (upd H' t1 (.tup [.int m.low])) t2 (.tup [.int m.high, .non])) t3 (.tup [.int m.high])) L (.lst [.ref t1, .ref t2, .ref t3]) L = some (.lst [.ref t1, .ref t2, .ref t3]) := upd_same
          have k14 : Same H' (upd (upd (upd (upd H' t1 (.tup [.int m.low])) t2 (.tup [.int m.high, .non])) t3 (.tup [.int m.high])) L (.lst [.ref t1, .ref t2, .ref t3])) := ((k1.trans k2).trans k3).trans k4
          generalize upd (upd (upd (upd H' t1 (.tup [.int m.low])) t2 (.tup [.int m.high, .non])) t3 (.tup [.int m.high])) L (.lst [.ref t1, .ref t2, .ref t3]) = H9 at f1 f2 f3 fL k14
          obtain ⟨os, tv, hat, htv, vok⟩ : ∃ (os : List (Option Int)) (tv : Addr), atI [V.ref t1, .ref t2, .ref t3] ((0 + (i : Int)) % 3) = some (.ref tv) ∧ H9 tv = some (.tup (os.map optV)) ∧ VersOk m os := by
            have : (0 + (i : Int)) % 3 = 0 ∨ (0 + (i : Int)) % 3 = 1 ∨ (0 + (i : Int)) % 3 = 2 := by omega
            rcases this with z | z | z
            · refine ⟨_, t1, by rw [z]; rfl, f1, ⟨⟨_, [], rfl⟩, by show 1 ≤ 12; decide, fun v hv => ?_⟩⟩
              cases List.mem_singleton.mp hv
              exact ⟨Int.le_refl _, ho⟩
            · refine ⟨_, t2, by rw [z]; rfl, f2, ⟨⟨_, [none], rfl⟩, by show 2 ≤ 12; decide, fun v hv => ?_⟩⟩
              rcases List.mem_cons.mp hv with y | y
              · cases y
                exact ⟨ho, Int.le_refl _⟩
              · cases List.mem_singleton.mp y
            · refine ⟨_, t3, by rw [z]; rfl, f3, ⟨⟨_, [], rfl⟩, by show 1 ≤ 12; decide, fun v hv => ?_⟩⟩
              cases List.mem_singleton.mp hv
              exact ⟨ho, Int.le_refl _⟩
          refine ⟨.int (0 + (i : Int)), rfl, _, _, rfl, rfl, (show (0 : Int) < 3 by decide), L, _, _, _, rfl, rfl, .inl (.inl fL), hat, small' (n := 2) (by decide), fun s ns => ?_⟩
          rw [← ee]
          have k5 := same_new (o := .tup [.int (st + e), .ref tv]) ns
          have hS9 := k5 _ _ (k14 _ _ hS8)
          refine ⟨S, _, _, rfl, rfl, hS9, by rw [List.length_map]; exact small (by omega), _, st + e, us ++ [s], xs ++ [⟨st + e, os⟩], rfl, ((r8.then k14).then k5).keepNew nSd nHS, by rw [upd_same, map_snoc], ?_, SlsOk.snoc (x := ⟨st + e, os⟩) ok8 (by show top ≤ st + e; omega) (by show (st + e).natAbs ≤ _; omega) vok, by rw [List.length_append]; show _ + 1 ≤ _; omega, by omega⟩
          refine (sls_kept (KT.trans (Same.kt (k14.trans k5)) (kt_lst hS9)) hp8).snoc ?_
          exact SlAt.kept (kt_lst hS9) ⟨tv, upd_same, k5 _ _ htv⟩
        · obtain ⟨y6, top, us, xs, rfl, r8, hS8, hp8, ok8, len8, top8⟩ := hp
          exact ⟨.ref S, rfl, S, _, rfl, .inl ⟨.inl (.inl hS8), fun tt ntt => q _ tt us xs top (r8.then (same_new ntt)) upd_same (sls_kept (Same.kt (same_new ntt)) hp8) ok8 (by omega)⟩⟩
      · have hS6 : H6 S = some (.lst (us.map V.ref)) := r6.keep _ _ nSd hS5
        have hp6 := sls_kept (r6.kt r5.at_) hp5
        exact ⟨.ref S, rfl, S, _, rfl, .inl ⟨.inl (.inl hS6), fun tt ntt => q _ tt us xs st ((r5.trans r6).then (same_new ntt)) upd_same (sls_kept (Same.kt (same_new ntt)) hp6) ok5 (by omega)⟩⟩
end
def sp_l_history (K : PySem.W.Frag) : Sp := fun vs H Q _ => ∃ (d p tm : Addr) (ts : List Addr) (P : Pl) (most c : Int), vs = [.ref d, .ref p, .int most, .int c] ∧ DrA H d ∧ PlanAt H p tm ts P ∧ PlanOk c P ∧ 0 ≤ most ∧ most ≤ 20 ∧
  ∀ H' h ls, Dr d H H' → HistAt H' h ls → HistOk P c ls → Q (.ref h) H'
theorem paired_snoc_at {α β : Type} {R : α → β → Prop} {xs : List α} {ys : List β} {a : α} {b : β} {i : Nat} (h : Paired R (xs.take i) ys) (e : xs[i]? = some a) (r : R a b) : Paired R (xs.take (i + 1)) (ys ++ [b]) := by
  rw [List.take_add_one, e]
  exact h.snoc r
section
variable {P : Program} {w : World} {K : PySem.W.Frag} {mg : Str → Option Value} {base : Heap}
theorem ok_l_history (T : Ctx K mg) : FnOk P w K mg base CX0 5 T.f_l_history T.fd_l_history ["draws", "plan", "most", "cell"] (sp_l_history K) := by
  refine T.F_l_history.ok sc_l_history (fun vs H Q E h => ?_) (fun cdv A outer s H vs Q E hr h => ?_)
  · obtain ⟨d, p, tm, ts, P, most, c, rfl, _⟩ := h
    rfl
  · obtain ⟨d, p, tm, ts, P, most, c, rfl, hd, pa, po, m0, m1, q⟩ := h
    refine ⟨_, (pss_cons (ps_set (i := 4) sc_l_history.nd rfl (.inl rfl) (pe_lst pa_nil))
      (pss_cons (ps_for PassesOwn.never rfl (pi_tup (pe_ix ix_tup (pv 1) pe_int (fun _ _ => rfl))) (pg_name (i := 5) sc_l_history.nd rfl (.inl rfl))
        (pss_cons (ps_set (i := 6) sc_l_history.nd rfl (.inl rfl) (pe_op op_sub (pe_call (ok_l_take T) (hr.mono (by decide)) (by rfl) T.g_l_take T.F_l_take.kp T.b_l_take .nil pass0 (pa_cons (pv 0) (pa_cons (pe_op op_add (pe_op op_mul pe_int (pe_ix ix_tup (pv 5) pe_int (fun _ _ => rfl))) pe_int) pa_nil))) (pe_ix ix_tup (pv 5) pe_int (fun _ _ => rfl))))
      (pss_cons (ps_if (pt_cmpR op_eq (pe_call (ok_l_take T) (hr.mono (by decide)) (by rfl) T.g_l_take T.F_l_take.kp T.b_l_take .nil pass0 (pa_cons (pv 0) (pa_cons pe_int pa_nil))) pe_int (nomark _))
        (pss_one (ps_set (i := 6) sc_l_history.nd rfl (.inl rfl) (pe_ix ix_list (pe_lst (pa_cons (pe_ix ix_tup (pv 5) pe_int (fun _ _ => rfl)) (pa_cons (pe_un un_neg (pe_ix ix_tup (pv 5) pe_int (fun _ _ => rfl))) pa_nil))) (pe_call (ok_l_take T) (hr.mono (by decide)) (by rfl) T.g_l_take T.F_l_take.kp T.b_l_take .nil pass0 (pa_cons (pv 0) (pa_cons pe_int pa_nil))) (fun _ _ => rfl))))
        pss_nil)
      (pss_cons (ps_set (i := 7) sc_l_history.nd rfl (.inl rfl) (pe_call (ok_l_slots T) (hr.mono (by decide)) (by rfl) T.g_l_slots T.F_l_slots.kp T.b_l_slots .nil pass0 (pa_cons (pv 0) (pa_cons (pv 5) (pa_cons (pv 2) (pa_cons (pv 3) pa_nil))))))
      (pss_cons (ps_if (pt_cmpR op_gt (pe_callB call_len_seq (by rfl) T.m_len (by decide +kernel) (pa_cons (pv 4) pa_nil)) pe_int (nomark _))
        (pss_one (ps_set (i := 7) sc_l_history.nd rfl (.inl rfl) (pe_slice sl_tupA (pv 7) po_none (po_some (pv 2)))))
        pss_nil)
      (pss_one (ps_expr (pe_bm PySem.F.plainAttrs_list PySem.F.slot_list_append PySem.F.type_list_append mt_append (pv 4) (pa_cons (pe_tup (pa_cons (pe_ix ix_tup (pv 5) pe_int (fun _ _ => rfl)) (pa_cons (pv 6) (pa_cons (pv 7) pa_nil)))) pa_nil)))))))))
      (pss_one (ps_ret (pe_callTy call_tuple_of (by rfl) T.m_tuple (by decide +kernel) (pa_cons (pv 4) pa_nil)))))), ?_⟩
    have tl : ts.length = P.ms.length := pa.low.length
    have few := po.few
    refine ⟨small' (n := 0) (by decide), fun G nG => ?_⟩
    have nGd : G ≠ d := (Dr.refl hd).ne nG
    have r0 : Dr d H (upd H G (.lst [])) := (Dr.refl hd).then (same_new nG)
    have pa0 := pa.same (same_new (o := .lst []) nG)
    refine ⟨.ref p, rfl, p, _, 1, _, rfl, rfl, .inl (.inl pa0.top), atI_nat (j := 1) rfl, tm, rfl, ⟨_, .inl (.inl pa0.mid)⟩, for_tup (K := K) (a := tm) (xs := ts.map V.ref) (fun i σ H' => ∃ (y5 y6 y7 : Option V) (gs : List Addr) (ls : List Lg), σ = [some (.ref d), some (.ref p), some (.int most), some (.int c), some (.ref G), y5, y6, y7] ∧ Dr d H H' ∧ H' G = some (.lst (gs.map V.ref)) ∧ Paired (LgAt H') gs ls ∧ Paired (fun m x => LgOk m c x) (P.ms.take i) ls)
      ⟨none, none, none, [], [], rfl, r0, upd_same, .nil, by rw [List.take_zero]; exact .nil⟩ (fun i σ H' _ hp => ?_) (fun i x σ H' hx hp => ?_) (fun σ H' hp => ?_)⟩
    · obtain ⟨_, _, _, _, _, _, r1, _⟩ := hp
      exact .inl (.inl (r1.plan hd pa).mid)
    · obtain ⟨y5, y6, y7, gs, ls, rfl, r1, hG1, hp1, ok1⟩ := hp
      have il : i < ts.length := by
        have := (List.getElem?_eq_some_iff.mp hx).1
        rw [List.length_map] at this
        exact this
      have ex : x = .ref ts[i] := by
        rw [List.getElem?_map, List.getElem?_eq_getElem il] at hx
        exact (Option.some.inj hx).symm
      subst ex
      have pa1 := r1.plan hd pa
      obtain ⟨m, hm, hat⟩ := mts_at pa1.low (List.getElem?_eq_getElem il)
      have mo := po.each m (List.mem_of_getElem? hm)
      have e0 := mo.err0
      have gl : gs.length = i := by
        have a := hp1.length
        have b := ok1.length
        rw [List.length_take] at b
        omega
      generalize ts[i] = t at hat
      refine ⟨.ref d, rfl, .ref t, rfl, t, _, 3, _, rfl, rfl, .inl (.inl hat), atI_nat (j := 3) rfl, _, _, rfl, rfl, .inl ⟨by decide, by decide⟩, _, _, rfl, rfl, d, _, rfl, r1.at_, by omega, fun H2 u r2 u0 u1 => ?_⟩
      have hat2 : MtAt H2 t m := r2.tup r1.at_ hat
      have hS2 : SqT K H2 t [.str m.name, .int m.low, .int m.high, .int m.err] := .inl (.inl hat2)
      refine ⟨.ref t, rfl, t, _, 3, _, rfl, rfl, hS2, atI_nat (j := 3) rfl, _, _, rfl, rfl, ?_⟩
      refine ⟨.ref d, rfl, d, _, rfl, r2.at_, by decide, fun H3 x r3 x0 x1 => ⟨rfl, _, rfl, ite2 (fun e => ?c1) (fun e => ?c2)⟩⟩
      case' c1 =>
        have hat3 : MtAt H3 t m := r3.tup r2.at_ hat2
        have hS3 : SqT K H3 t [.str m.name, .int m.low, .int m.high, .int m.err] := .inl (.inl hat3)
        refine ⟨.ref t, rfl, t, _, 3, _, rfl, rfl, hS3, atI_nat (j := 3) rfl, .ref t, rfl, t, _, 3, _, rfl, rfl, hS3, atI_nat (j := 3) rfl, _, rfl, small' (n := 2) (by decide), fun p4 n4 => ?_⟩
        have r13 := r2.trans r3
        have n4d : p4 ≠ d := r3.ne n4
        have q4 := r13.then (same_new (o := .lst [.int m.err, .int (-m.err)]) n4)
        refine ⟨.ref d, rfl, d, _, rfl, q4.at_, by decide, fun HX z rX z0 z1 => ?_⟩
        have h5 : HX p4 = some (.lst [.int m.err, .int (-m.err)]) := rX.keep _ _ n4d upd_same
        obtain ⟨off, offm, offa⟩ := pick (xs := [m.err, -m.err]) (vs := [.int m.err, .int (-m.err)]) (k := z) rfl (by omega) (by show z < 2; omega)
        have offB : -m.err ≤ off ∧ off ≤ m.err := by
          simp only [List.mem_cons, List.not_mem_nil, or_false] at offm
          omega
        refine ⟨p4, _, _, _, rfl, rfl, .inl (.inl h5), offa, ?_⟩
        have rH := q4.trans rX
      case' c2 =>
        obtain ⟨HX, rfl⟩ : ∃ HX, HX = H3 := ⟨_, rfl⟩
        dsimp only
        have offB : -m.err ≤ u - m.err ∧ u - m.err ≤ m.err := by omega
        generalize u - m.err = off at offB
        have rH := r2.trans r3
      all_goals (
        have hatX : MtAt HX t m := rH.tup r1.at_ hat
        have hGX : HX G = some (.lst (gs.map V.ref)) := rH.keep _ _ nGd hG1
        have hpX := lgs_kept (rH.kt r1.at_) hp1
        refine ⟨.ref d, rfl, .ref t, rfl, .int most, rfl, .int c, rfl, d, t, m, most, c, rfl, rH.at_, hatX, mo.order, m0, m1, fun H6 tt us xs st r6 htt hus okx len6 => ?_⟩
        have hG6 : H6 G = some (.lst (gs.map V.ref)) := r6.keep _ _ nGd hGX
        have hp6 := lgs_kept (r6.kt rH.at_) hpX
        have hat6 : MtAt H6 t m := r6.tup rH.at_ hatX
        have rA := (r1.trans rH).trans r6
        have lg : (gs.map V.ref).length < sizeLine := by
          rw [List.length_map]
          exact small (by omega)
        have inv : ∀ (HY : Hp) (ty g : Addr) (vs : List Addr) (ys : List Sl), Same H6 HY → HY ty = some (.tup (vs.map V.ref)) → Paired (SlAt HY) vs ys → SlsOk m c st ys → ys.length ≤ 50 → HY g = none → ∀ σ, σ = [some (.ref d), some (.ref p), some (.int most), some (.int c), some (.ref G), some (.ref t), some (.int off), some (.ref ty)] →
            ∃ (y5 y6 y7 : Option V) (gs' : List Addr) (ls' : List Lg), σ = [some (.ref d), some (.ref p), some (.int most), some (.int c), some (.ref G), y5, y6, y7] ∧ Dr d H (upd (upd HY g (.tup [.str m.name, .int off, .ref ty])) G (.lst (gs.map V.ref ++ [.ref g]))) ∧ upd (upd HY g (.tup [.str m.name, .int off, .ref ty])) G (.lst (gs.map V.ref ++ [.ref g])) G = some (.lst (gs'.map V.ref)) ∧
              Paired (LgAt (upd (upd HY g (.tup [.str m.name, .int off, .ref ty])) G (.lst (gs.map V.ref ++ [.ref g])))) gs' ls' ∧ Paired (fun m x => LgOk m c x) (P.ms.take (i + 1)) ls' := by
          rintro HY ty g vs ys sY hty hvs oky leny ng σ rfl
          have k1 := same_new (o := .tup [.str m.name, .int off, .ref ty]) ng
          have hG7 := k1 _ _ (sY _ _ hG6)
          have kk := KT.trans (Same.kt (sY.trans k1)) (kt_lst (ys := gs.map V.ref ++ [.ref g]) hG7)
          refine ⟨_, _, _, gs ++ [g], ls ++ [⟨m.name, off, ys⟩], rfl, ((rA.then sY).then k1).keepNew nGd nG, by rw [upd_same, map_snoc], (lgs_kept kk hp6).snoc ?_, paired_snoc_at ok1 hm ⟨rfl, offB.1, offB.2, ⟨st, oky⟩, leny⟩⟩
          exact LgAt.kept (kt_lst hG7) ⟨ty, vs, upd_same, k1 _ _ hty, sls_kept (Same.kt k1) hvs⟩
        refine ⟨.ref G, rfl, G, _, rfl, .inl (.inl (.inl hG6)), _, _, rfl, rfl, _, rfl, ite2 (fun _ => ?_) (fun _ => ?_)⟩
        · have ec : cutV (us.map V.ref) none (some most) = (us.take most.toNat).map V.ref := by
            have e1 := cutV_to (us.map V.ref) most.toNat
            rw [Int.toNat_of_nonneg m0] at e1
            rw [e1, List.map_take]
          refine ⟨.ref tt, rfl, .int most, rfl, most, rfl, tt, _, rfl, .inl (.inl htt), fun _ => ?_, fun _ pn npn => ?_⟩
          · exact ⟨.ref G, rfl, .inl ⟨rfl, _, .inl (.inl hG6)⟩, .ref t, rfl, t, _, 0, _, rfl, rfl, .inl (.inl hat6), atI_nat (j := 0) rfl, .int off, rfl, .ref tt, rfl, small' (n := 3) (by decide), fun g ng => ⟨G, _, _, rfl, rfl, same_new ng _ _ hG6, lg, inv H6 tt g us xs (Same.refl _) htt hus okx (by have := hus.length; omega) ng _ rfl⟩⟩
          · rw [ec]
            have kn := same_new (o := .tup ((us.take most.toNat).map V.ref)) npn
            have lx := hus.length
            exact ⟨.ref G, rfl, .inl ⟨rfl, _, .inl (.inl (kn _ _ hG6))⟩, .ref t, rfl, t, _, 0, _, rfl, rfl, .inl (.inl (kn _ _ hat6)), atI_nat (j := 0) rfl, .int off, rfl, .ref pn, rfl, small' (n := 3) (by decide), fun g ng => ⟨G, _, _, rfl, rfl, same_new ng _ _ (kn _ _ hG6), lg, inv _ pn g (us.take most.toNat) (xs.take most.toNat) kn upd_same (paired_take _ (sls_kept (Same.kt kn) hus)) (okx.take _) (by rw [List.length_take]; omega) ng _ rfl⟩⟩
        · exact ⟨.ref G, rfl, .inl ⟨rfl, _, .inl (.inl hG6)⟩, .ref t, rfl, t, _, 0, _, rfl, rfl, .inl (.inl hat6), atI_nat (j := 0) rfl, .int off, rfl, .ref tt, rfl, small' (n := 3) (by decide), fun g ng => ⟨G, _, _, rfl, rfl, same_new ng _ _ hG6, lg, inv H6 tt g us xs (Same.refl _) htt hus okx (by have := hus.length; omega) ng _ rfl⟩⟩)
    · obtain ⟨y5, y6, y7, gs, ls, rfl, r1, hG1, hp1, ok1⟩ := hp
      rw [List.length_map, tl, List.take_length] at ok1
      refine ⟨.ref G, rfl, G, _, rfl, .inl ⟨.inl (.inl hG1), fun h nh => q _ h ls (r1.then (same_new nh)) ⟨gs, upd_same, lgs_kept (Same.kt (same_new nh)) hp1⟩ ok1⟩⟩
end
def sp_l_chosen (K : PySem.W.Frag) : Sp := fun vs H Q _ => ∃ (d n : Addr) (ns : List Str), vs = [.ref d, .ref n] ∧ DrA H d ∧ n ≠ d ∧ H n = some (.lst (ns.map V.str)) ∧ ns ≠ [] ∧ ns.length ≤ 1000 ∧
  ∀ (H' : Hp) (t : Addr) (cs : List Str), Dr d H H' → H' t = some (.tup (cs.map V.str)) → Q (.ref t) H'
section
variable {P : Program} {w : World} {K : PySem.W.Frag} {mg : Str → Option Value} {base : Heap}
set_option pp.maxSteps 300 in
theorem ok_l_chosen (T : Ctx K mg) : FnOk P w K mg base CX0 2 T.f_l_chosen T.fd_l_chosen ["draws", "names"] (sp_l_chosen K) := by
  refine T.F_l_chosen.ok sc_l_chosen (fun vs H Q E h => ?_) (fun cdv A outer s H vs Q E hr h => ?_)
  · obtain ⟨d, n, ns, rfl, _⟩ := h
    rfl
  · obtain ⟨d, n, ns, rfl, hd, nnd, hn, ne, few, q⟩ := h
    refine ⟨_, (pss_cons (ps_setLc (i := 2) (own := [("name", 3)]) (g := gName 3) (by rfl) sc_l_chosen.nd rfl rfl (sw_true rfl rfl rfl (by decide +kernel)) (pi_list (pv 1)) (blkOk_by (own := [("name", 3)]) (N := ["draws", "names", "found", "name"]) (sc := defScope s_l_chosen) (by decide +kernel)) (fun _ _ _ _ _ => pg_name (i := 3) sc_l_chosen.nd rfl (Or.inl rfl)) (fun _ _ _ _ _ => (pts_one (pt_cmpR op_eq (pe_call (ok_l_take T) (hr.mono (by decide)) (by rfl) T.g_l_take T.F_l_take.kp T.b_l_take .nil pass0 (pa_cons (pv 0) (pa_cons pe_int pa_nil))) pe_int (nomark _)))) (fun _ _ _ _ _ => (pv 3)))
      (pss_cons (ps_if (pt_cmpR op_eq (pe_callB call_len_seq (by rfl) T.m_len (by decide +kernel) (pa_cons (pv 2) pa_nil)) pe_int (nomark _))
        (pss_one (ps_ret (pe_tup (pa_cons (pe_ix ix_list (pv 1) (pe_call (ok_l_take T) (hr.mono (by decide)) (by rfl) T.g_l_take T.F_l_take.kp T.b_l_take .nil pass0 (pa_cons (pv 0) (pa_cons (pe_callB call_len_seq (by rfl) T.m_len (by decide +kernel) (pa_cons (pv 1) pa_nil)) pa_nil))) (fun _ _ => rfl)) pa_nil))))
        pss_nil)
      (pss_one (ps_ret (pe_callTy call_tuple_of (by rfl) T.m_tuple (by decide +kernel) (pa_cons (pv 2) pa_nil)))))), ?_⟩
    refine ⟨.ref n, rfl, n, rfl, ⟨_, .inl (.inl hn)⟩, fun C nC => ?_⟩
    have r0 := (Dr.refl hd).then (same_new (o := .lst []) nC)
    have nCd : C ≠ d := (Dr.refl hd).ne nC
    refine lc_list (K := K) (a := n) (xs := ns.map V.str) (fun i H' => Dr d H H' ∧ ∃ cs : List Str, H' C = some (.lst (cs.map V.str)) ∧ cs.length ≤ i) ⟨r0, [], upd_same, Nat.le_refl 0⟩ (fun i H' _ z => .inl (.inl (z.1.keep _ _ nnd hn))) (fun i x H1 hx z => ?_) (fun H1 z => ?_)
    · obtain ⟨r1, cs, hC, lc⟩ := z
      have il := (List.getElem?_eq_some_iff.mp hx).1
      rw [List.length_map] at il
      rw [List.getElem?_map] at hx
      obtain ⟨nm, hnm, rfl⟩ := Option.map_eq_some_iff.mp hx
      refine ⟨rfl, .ref d, rfl, d, _, rfl, r1.at_, by decide, fun H2 u r2 u0 u1 => ⟨rfl, _, rfl, ite2 (fun e => ?_) (fun e => ?_)⟩⟩
      · have hC2 := r2.keep _ _ nCd hC
        refine ⟨.str nm, rfl, _, hC2, by rw [List.length_map]; exact small (by omega), (r1.trans r2).keepNew nCd nC, cs ++ [nm], by rw [upd_same, List.map_append]; rfl, by rw [List.length_append]; show _ + 1 ≤ _; omega⟩
      · exact ⟨r1.trans r2, cs, r2.keep _ _ nCd hC, by omega⟩
    obtain ⟨r1, cs, hC, lc⟩ := z
    refine ⟨.ref C, rfl, C, _, rfl, .inl (.inl (.inl hC)), rfl, _, rfl, ite2 (fun e => ?_) (fun e => ?_)⟩
    · have hn1 := r1.keep _ _ nnd hn
      have lp : 0 < ns.length := List.length_pos_iff.mpr ne
      refine ⟨.ref n, rfl, .ref d, rfl, .ref n, rfl, n, _, rfl, .inl (.inl (.inl hn1)), d, _, rfl, r1.at_, by rw [List.length_map]; omega, fun H2 x r2 x0 x1 => ?_⟩
      rw [List.length_map] at x1
      have hx : x.toNat < ns.length := by omega
      have ax : atI (ns.map V.str) x = some (.str ns[x.toNat]) := atI_z (j := x.toNat) (by omega) (by rw [List.getElem?_map, List.getElem?_eq_getElem hx]; rfl)
      generalize ns[x.toNat] = nm at ax
      exact ⟨n, _, x, _, rfl, rfl, .inl (.inl (r2.keep _ _ nnd hn1)), ax, small' (n := 1) (by decide), fun t nt => q _ t [nm] ((r1.trans r2).then (same_new nt)) upd_same⟩
    · exact ⟨.ref C, rfl, C, _, rfl, .inl ⟨.inl (.inl hC), fun t nt => q _ t cs (r1.then (same_new nt)) upd_same⟩⟩
end
theorem bits_le {x : Int} {b : Nat} (h0 : 0 < b) (h : x.natAbs < 2 ^ b) : Builtin.Int.intBits x ≤ b := by
  have l := PySem.Flt.log2_lt_of h0 h
  unfold Builtin.Int.intBits
  split <;> omega
theorem mulX {x y : Int} {a b : Nat} (ha : x.natAbs < 2 ^ a) (hb : y.natAbs < 2 ^ b) (h0 : 0 < a) (h1 : 0 < b) (h : a + b ≤ 134217728) : CMulX x y := by
  have p := bits_le h0 ha
  have q := bits_le h1 hb
  unfold CMulX
  omega
def sp_l_readings (K : PySem.W.Frag) : Sp := fun vs H Q _ => ∃ (p h t : Addr) (L w : Int) (xs : List V) (ls : List Lg) (ns : List Str) (b : Nat), vs = [.ref p, .ref h, .ref t, .int w] ∧ H p = some (.tup (.int L :: xs)) ∧ 1 ≤ L ∧ HistAt H h ls ∧ HistFew ls ∧ Vsd ls ∧ H t = some (.tup (ns.map V.str)) ∧
  1 ≤ b ∧ b ≤ 30000000 ∧ L.natAbs < 2 ^ b ∧ w.natAbs < 2 ^ b ∧
  ∀ (H' : Hp) (b : Addr) (zs : List Int), Same H H' → H' b = some (.tup (zs.map V.int)) → zs.Perm (rdOf L w ns ls) → zs.Pairwise (· ≤ ·) → Q (.ref b) H'
section
variable {P : Program} {w : World} {K : PySem.W.Frag} {mg : Str → Option Value} {base : Heap}
set_option pp.maxSteps 300 in
set_option maxHeartbeats 1000000 in
theorem ok_l_readings (T : Ctx K mg) : FnOk P w K mg base CX0 1 T.f_l_readings T.fd_l_readings ["plan", "history", "chosen", "window"] (sp_l_readings K) := by
  refine T.F_l_readings.ok sc_l_readings (fun vs H Q E h => ?_) (fun cdv A outer s H vs Q E hr h => ?_)
  · obtain ⟨p, h', t, L, w, xs, ls, ns, b, rfl, _⟩ := h
    rfl
  · obtain ⟨p, h0, t, L, w, xs, ls, ns, b, rfl, hp, hL, ⟨gs, hh, hgs⟩, few, vsd, hns, hb0, hb1, hLb, hwb, q⟩ := h
    refine ⟨_, (pss_cons (ps_set (i := 4) sc_l_readings.nd rfl (.inl rfl) (pe_lst pa_nil))
      (pss_cons (ps_for PassesOwn.never rfl (pi_tup (pv 1)) (pg_name (i := 5) sc_l_readings.nd rfl (.inl rfl))
        (pss_one (ps_for PassesOwn.never rfl (pi_tup (pe_ix ix_tup (pv 5) pe_int (fun _ _ => rfl))) (pg_name (i := 6) sc_l_readings.nd rfl (.inl rfl))
        (pss_cons (ps_set (i := 7) sc_l_readings.nd rfl (.inl rfl) (pe_op op_add (pe_ix ix_tup (pv 6) pe_int (fun _ _ => rfl)) (pe_ix ix_tup (pv 5) pe_int (fun _ _ => rfl))))
      (pss_one (ps_if (PW.pt (pw_and (pt_cmpR op_in_seq (pe_ix ix_tup (pv 5) pe_int (fun _ _ => rfl)) (pv 2) rfl) (pw_and (pt_cmpR op_le (pe_op op_mulX (pv 3) (pe_ix ix_tup (pv 0) pe_int (fun _ _ => rfl))) (pv 7) (nomark _)) (pw_and1 (pt_cmpR op_lt (pv 7) (pe_op op_mulX (pe_op op_add (pv 3) pe_int) (pe_ix ix_tup (pv 0) pe_int (fun _ _ => rfl))) (nomark _))))))
        (pss_one (ps_set (i := 4) sc_l_readings.nd rfl (.inl rfl) (pe_op op_cat (pv 4) (pe_lc (own := [("value", 8)]) (g := gName 8) (by rfl) sc_l_readings.nd (pi_tup (pe_slice TT.sl_t (pe_ix ix_tup (pv 6) pe_int (fun _ _ => rfl)) (po_some (pe_un un_neg pe_int)) po_none)) (blkOk_by (own := [("value", 8)]) (N := ["plan", "history", "chosen", "window", "found", "log", "slot", "time", "value"]) (sc := defScope s_l_readings) (by decide +kernel)) (fun _ _ _ _ _ => pg_name (i := 8) sc_l_readings.nd rfl (Or.inl rfl)) (fun _ _ _ _ _ => (pts_one (pt_cmpR op_notN (pv 8) pe_non (nomark _)))) (fun _ _ _ _ _ => (pv 8))))))
        pss_nil))))))
      (pss_one (ps_ret (pe_callTy call_tuple_of (by rfl) T.m_tuple (by decide +kernel) (pa_cons (pe_callB cr_sortedI (by rfl) T.m_sorted (by decide +kernel) (pa_cons (pv 4) pa_nil)) pa_nil)))))), ?_⟩
    have big : (40000 : Nat) < sizeLine := by decide
    have gl : gs.length = ls.length := hgs.length
    have f1 := few.logs
    have m1 : CMulX w L := mulX (a := b) (b := b) hwb hLb hb0 hb0 (by omega)
    have pb : 2 ^ (b + 1) = 2 ^ b * 2 := Nat.pow_succ 2 b
    have m2 : CMulX (w + 1) L := mulX (a := b + 1) (b := b) (by omega) hLb (by omega) hb0 (by omega)
    refine ⟨small' (n := 0) (by decide), fun F0 nF0 => ?_⟩
    refine ⟨.ref h0, rfl, h0, rfl, ⟨_, .inl (.inl (same_new nF0 _ _ hh))⟩, for_tup (K := K) (a := h0) (xs := gs.map V.ref) (fun i σ H' => ∃ (F : Addr) (y5 y6 y7 y8 : Option V), σ = [some (.ref p), some (.ref h0), some (.ref t), some (.int w), some (.ref F), y5, y6, y7, y8] ∧ Same H H' ∧ H' F = some (.lst ((rdOf L w ns (ls.take i)).map V.int)))
      ⟨F0, none, none, none, none, rfl, same_new nF0, by rw [upd_same, List.take_zero]; rfl⟩ (fun i σ H' _ hp => ?_) (fun i x σ H1 hx hp => ?_) (fun σ H1 hp => ?_)⟩
    · obtain ⟨_, _, _, _, _, _, s1, _⟩ := hp
      exact .inl (.inl (s1 _ _ hh))
    · obtain ⟨F, y5, y6, y7, y8, rfl, s1, hF⟩ := hp
      rw [List.getElem?_map] at hx
      obtain ⟨ga, hga, rfl⟩ := Option.map_eq_some_iff.mp hx
      have il := (List.getElem?_eq_some_iff.mp hga).1
      obtain ⟨g, hg, tt, ss, hat, htt, hss⟩ := lgs_at hgs hga
      have gm := List.mem_of_getElem? hg
      have sl := few.slots g gm
      have ed := rdOf_snoc (L := L) (w := w) (ns := ns) hg
      have lacc := rdOf_len (L := L) (w := w) (ns := ns) (few.take i).slots
      rw [List.length_take] at lacc
      have er : rdLog L w ns g = (g.slots.filterMap fun s => if g.name ∈ ns then slotIn L w g.off s else none) := by
        unfold rdLog
        split
        · rfl
        · exact (List.filterMap_eq_nil_iff.mpr fun _ _ => rfl).symm
      refine ⟨.ref ga, rfl, ga, _, 2, _, rfl, rfl, .inl (.inl (s1 _ _ hat)), atI_nat (j := 2) rfl, tt, rfl, ⟨_, .inl (.inl (s1 _ _ htt))⟩, for_tup (K := K) (a := tt) (xs := ss.map V.ref) (fun j σ H' => ∃ (F : Addr) (y6 y7 y8 : Option V), σ = [some (.ref p), some (.ref h0), some (.ref t), some (.int w), some (.ref F), some (.ref ga), y6, y7, y8] ∧ Same H H' ∧ H' F = some (.lst ((rdOf L w ns (ls.take i) ++ (g.slots.take j).filterMap fun s => if g.name ∈ ns then slotIn L w g.off s else none).map V.int)))
        ⟨F, _, _, _, rfl, s1, by rw [List.take_zero, List.filterMap_nil, List.append_nil]; exact hF⟩ (fun j σ H' _ hp => ?_) (fun j x σ H2 hx hp => ?_) (fun σ H2 hp => ?_)⟩
      · obtain ⟨_, _, _, _, _, s2, _⟩ := hp
        exact .inl (.inl (s2 _ _ htt))
      · obtain ⟨F, y6, y7, y8, rfl, s2, hF2⟩ := hp
        rw [List.getElem?_map] at hx
        obtain ⟨sa, hsa0, rfl⟩ := Option.map_eq_some_iff.mp hx
        have hj := (List.getElem?_eq_some_iff.mp hsa0).1
        obtain ⟨s, hs, tv, hsa, htv⟩ := sls_at hss hsa0
        have sm := List.mem_of_getElem? hs
        obtain ⟨o, ho, hlo, us, eu⟩ := last_at (vsd g gm s sm)
        have es := fmap_snoc (f := fun s => if g.name ∈ ns then slotIn L w g.off s else none) hs
        have hacc : (rdOf L w ns (ls.take i) ++ (g.slots.take j).filterMap fun s => if g.name ∈ ns then slotIn L w g.off s else none).length ≤ 4000 := by
          have := List.length_filterMap_le (fun s => if g.name ∈ ns then slotIn L w g.off s else none) (g.slots.take j)
          rw [List.length_take] at this
          rw [List.length_append]
          omega
        have hG : SqT K H2 ga [.str g.name, .int g.off, .ref tt] := .inl (.inl (s2 _ _ hat))
        have hS : SqT K H2 sa [.int s.stamp, .ref tv] := .inl (.inl (s2 _ _ hsa))
        have hP : SqT K H2 p (.int L :: xs) := .inl (.inl (s2 _ _ hp))
        refine ⟨.ref sa, rfl, sa, _, 0, _, rfl, rfl, hS, atI_nat (j := 0) rfl, .ref ga, rfl, ga, _, 1, _, rfl, rfl, hG, atI_nat (j := 1) rfl, _, _, rfl, rfl, ?_⟩
        have skip : ∀ {y : Option V}, (if g.name ∈ ns then slotIn L w g.off s else none) = none → ∃ (F' : Addr) (y6 y7 y8' : Option V), ([some (.ref p), some (.ref h0), some (.ref t), some (.int w), some (.ref F), some (.ref ga), some (.ref sa), y, y8] : List (Option V)) = [some (.ref p), some (.ref h0), some (.ref t), some (.int w), some (.ref F'), some (.ref ga), y6, y7, y8'] ∧ Same H H2 ∧ H2 F' = some (.lst ((rdOf L w ns (ls.take i) ++ (g.slots.take (j + 1)).filterMap fun s => if g.name ∈ ns then slotIn L w g.off s else none).map V.int)) := fun {y} en => ⟨F, _, _, _, rfl, s2, by rw [es, en]; exact (by rw [Option.toList_none, List.append_nil]; exact hF2)⟩
        refine ⟨.ref ga, rfl, ga, _, 0, _, rfl, rfl, hG, atI_nat (j := 0) rfl, .ref t, rfl, t, _, rfl, .inr (.inl (.inl (s2 _ _ hns))), rfl, flat_names _, _, rfl, ?_⟩
        show if inV (.str g.name) (ns.map V.str) = true then _ else _
        rw [in_names]
        refine ite2 (fun e1 => ?_) (fun e1 => skip (if_neg (of_decide_eq_false (Bool.eq_false_iff.mpr e1))))
        · have hin : g.name ∈ ns := of_decide_eq_true e1
          refine ⟨.int w, rfl, .ref p, rfl, p, _, 0, _, rfl, rfl, hP, atI_nat (j := 0) rfl, _, _, rfl, rfl, m1, .int (s.stamp + g.off), rfl, _, _, rfl, rfl, _, rfl, ite2 (fun e2 => ?_) (fun e2 => skip ?no2)⟩
          · have c1 : w * L ≤ s.stamp + g.off := of_decide_eq_true e2
            refine ⟨.int (s.stamp + g.off), rfl, .int w, rfl, _, _, rfl, rfl, .ref p, rfl, p, _, 0, _, rfl, rfl, hP, atI_nat (j := 0) rfl, _, _, rfl, rfl, m2, _, _, rfl, rfl, _, rfl, ite2 (fun e3 => ?_) (fun e3 => skip ?no3)⟩
            · have c2 : s.stamp + g.off < (w + 1) * L := of_decide_eq_true e3
              have ew := (div_is hL).mp ⟨c1, c2⟩
              have e4 : (if g.name ∈ ns then slotIn L w g.off s else none) = o := by
                rw [if_pos hin]
                unfold slotIn
                rw [if_pos ew, hlo]
              have hV := s2 _ _ htv
              refine ⟨.ref F, rfl, .ref sa, rfl, sa, _, 1, _, rfl, rfl, hS, atI_nat (j := 1) rfl, _, rfl, -1, rfl, tv, _, rfl, hV, fun e H3 s3 he => ⟨e, rfl, ⟨_, .inl (.inl he)⟩, fun C nC => ?_⟩⟩
              rw [eu, List.map_append, List.map_cons, List.map_nil, cut_last] at he
              refine lc_tup (K := K) (a := e) (xs := [optV o]) (fun k H' => Same H3 H' ∧ H' C = some (.lst ((o.toList.take k).map V.int))) ⟨same_new nC, by rw [upd_same, List.take_zero]; rfl⟩ (fun k H' _ z => .inl (.inl (z.1 _ _ he))) (fun k x H' hx z => ?_) (fun H4 z => ?_)
              · obtain ⟨s4, hC⟩ := z
                obtain rfl : k = 0 := by
                  have := (List.getElem?_eq_some_iff.mp hx).1
                  show k = 0
                  have l1 : ([optV o] : List V).length = 1 := rfl
                  omega
                obtain rfl : x = optV o := (Option.some.inj hx).symm
                cases o with
                | none => exact ⟨rfl, .non, rfl, rfl, _, rfl, iteF ⟨s4, hC⟩⟩
                | some v => exact ⟨rfl, .int v, rfl, rfl, _, rfl, iteT ⟨.int v, rfl, _, hC, small (n := 0) (Nat.zero_le _), same_keep s4 nC, by rw [upd_same]; rfl⟩⟩
              · obtain ⟨s4, hC⟩ := z
                have lo1 : (o.toList.take ([optV o] : List V).length) = o.toList := by cases o <;> rfl
                rw [lo1] at hC
                have lo2 : o.toList.length ≤ 1 := by cases o with
                  | none => exact Nat.zero_le 1
                  | some v => exact Nat.le_refl 1
                refine ⟨F, C, _, _, rfl, rfl, s4 _ _ (s3 _ _ hF2), hC, by rw [List.length_map, List.length_map]; omega, fun G nG => ?_⟩
                refine ⟨G, _, _, _, rfl, ((s2.trans s3).trans s4).trans (same_new nG), ?_⟩
                rw [upd_same, es, e4, ← List.append_assoc, List.map_append (l₂ := o.toList)]
            · rw [if_pos hin]
              unfold slotIn
              exact if_neg fun z => e3 (decide_eq_true ((div_is hL).mpr z).2)
          · rw [if_pos hin]
            unfold slotIn
            exact if_neg fun z => e2 (decide_eq_true ((div_is hL).mpr z).1)
      · obtain ⟨F, y6, y7, y8, rfl, s2, hF2⟩ := hp
        rw [List.length_map, hss.length, List.take_length] at hF2
        exact ⟨F, _, _, _, _, rfl, s2, by rw [ed, er]; exact hF2⟩
    · obtain ⟨F, y5, y6, y7, y8, rfl, s1, hF⟩ := hp
      rw [List.length_map, gl, List.take_length] at hF
      exact ⟨.ref F, rfl, F, _, rfl, .inl (.inl hF), fun ws L' pm up nL => ⟨L', _, rfl, .inl ⟨.inl (.inl upd_same), fun b nb => q _ b ws ((s1.trans (same_new nL)).trans (same_new nb)) upd_same pm up⟩⟩⟩
end
def sp_l_windows (K : PySem.W.Frag) : Sp := fun vs H Q _ => ∃ (p h : Addr) (L : Int) (xs : List V) (ls : List Lg), vs = [.ref p, .ref h] ∧ H p = some (.tup (.int L :: xs)) ∧ 1 ≤ L ∧ HistAt H h ls ∧ HistFew ls ∧
  ∀ (H' : Hp) (f : Addr) (ws : List Int), Same H H' → H f = none → H' f = some (.lst (ws.map V.int)) → ws.Pairwise (· < ·) → (∀ k, k ∈ ws ↔ k ∈ wsOf L ls) → ws.length ≤ 1200 → Q (.ref f) H'
section
variable {P : Program} {w : World} {K : PySem.W.Frag} {mg : Str → Option Value} {base : Heap}
set_option pp.maxSteps 300 in
set_option maxHeartbeats 600000 in
theorem ok_l_windows (T : Ctx K mg) (hN : base.NoSeer) (ht : P.given.tree = none) : FnOk P w K mg base CX0 34 T.f_l_windows T.fd_l_windows ["plan", "history"] (sp_l_windows K) := by
  refine T.F_l_windows.ok sc_l_windows (fun vs H Q E h => ?_) (fun cdv A outer s H vs Q E hr h => ?_)
  · obtain ⟨p, h', L, xs, ls, rfl, _⟩ := h
    rfl
  · obtain ⟨p, h0, L, xs, ls, rfl, hp, hL, ⟨gs, hh, hgs⟩, few, q⟩ := h
    have hd0 := hr.dp
    have hd : (A.deeper (envOfC "_law_windows" (defScope s_l_windows) s.heap.objs.size T.f_l_windows cdv)).depth + 100 < recursionLimit := by omega
    refine ⟨_, (pss_cons (ps_set (i := 2) sc_l_windows.nd rfl (.inl rfl) (pe_lst pa_nil))
      (pss_cons (ps_for PassesOwn.never rfl (pi_tup (pv 1)) (pg_name (i := 3) sc_l_windows.nd rfl (.inr rfl))
        (pss_one (ps_set (i := 2) sc_l_windows.nd rfl (.inl rfl) (pe_op op_cat (pv 2) (pe_lc (own := [("slot", 4)]) (g := gName 4) (by rfl) sc_l_windows.nd (pi_tup (pe_ix ix_tup (pv 3) pe_int (fun _ _ => rfl))) (blkOk_by (own := [("slot", 4)]) (N := ["plan", "history", "found", "log", "slot"]) (sc := defScope s_l_windows) (by decide +kernel)) (fun _ _ _ _ _ => pg_name (i := 4) sc_l_windows.nd rfl (Or.inl rfl)) (fun _ _ _ _ _ => pts_nil) (fun _ _ _ _ _ => (pe_op (Big.op_fdivB hN ht rfl rfl rfl rfl rfl hd) (pe_op op_add (pe_ix (show IxR _ (rIxT K) from ix_tup) (pv 4) pe_int (fun _ _ => rfl)) (pe_ix (show IxR _ (rIxT K) from ix_tup) (pv 3) pe_int (fun _ _ => rfl))) (pe_ix (show IxR _ (rIxT K) from ix_tup) (pv 0) pe_int (fun _ _ => rfl)))))))))
      (pss_one (ps_ret (pe_callB (Iset.cr_sortedSetI rfl) (by rfl) T.m_sorted (by decide +kernel) (pa_cons (pe_callTy (Iset.cr_setOfI rfl) (by rfl) T.m_set (by decide +kernel) (pa_cons (pv 2) pa_nil)) pa_nil)))))), ?_⟩
    have big : (40000 : Nat) < sizeLine := by decide
    have gl : gs.length = ls.length := hgs.length
    have f1 := few.logs
    refine ⟨small' (n := 0) (by decide), fun F0 nF0 => ?_⟩
    refine ⟨.ref h0, rfl, h0, rfl, ⟨_, .inl (.inl (same_new nF0 _ _ hh))⟩, for_tup (K := K) (a := h0) (xs := gs.map V.ref) (fun i σ H' => ∃ (F : Addr) (y3 y4 : Option V), σ = [some (.ref p), some (.ref h0), some (.ref F), y3, y4] ∧ Same H H' ∧ H' F = some (.lst ((wsOf L (ls.take i)).map V.int)))
      ⟨F0, none, none, rfl, same_new nF0, by rw [upd_same, List.take_zero]; rfl⟩ (fun i σ H' _ hp => ?_) (fun i x σ H1 hx hp => ?_) (fun σ H1 hp => ?_)⟩
    · obtain ⟨_, _, _, _, s1, _⟩ := hp
      exact .inl (.inl (s1 _ _ hh))
    · obtain ⟨F, y3, y4, rfl, s1, hF⟩ := hp
      rw [List.getElem?_map] at hx
      obtain ⟨ga, hga, rfl⟩ := Option.map_eq_some_iff.mp hx
      have il := (List.getElem?_eq_some_iff.mp hga).1
      obtain ⟨g, hg, tt, ss, hat, htt, hss⟩ := lgs_at hgs hga
      have gm := List.mem_of_getElem? hg
      have sl := few.slots g gm
      have ed := wsOf_snoc (L := L) hg
      have lacc := wsOf_len (L := L) (few.take i).slots
      rw [List.length_take] at lacc
      refine ⟨.ref F, rfl, .ref ga, rfl, ga, _, 2, _, rfl, rfl, .inl (.inl (s1 _ _ hat)), atI_nat (j := 2) rfl, tt, rfl, ⟨_, .inl (.inl (s1 _ _ htt))⟩, fun C nC => lc_tup (K := K) (a := tt) (xs := ss.map V.ref) (fun j H' => Same H1 H' ∧ H' C = some (.lst (((g.slots.take j).map fun s => (s.stamp + g.off) / L).map V.int))) ⟨same_new nC, by rw [upd_same, List.take_zero]; rfl⟩ (fun j H' _ z => .inl (.inl (z.1 _ _ (s1 _ _ htt)))) (fun j x H2 hx z => ?_) (fun H2 z => ?_)⟩
      · obtain ⟨s2, hC⟩ := z
        rw [List.getElem?_map] at hx
        obtain ⟨sa, hsa0, rfl⟩ := Option.map_eq_some_iff.mp hx
        have hj := (List.getElem?_eq_some_iff.mp hsa0).1
        obtain ⟨s, hs, tv, hsa, htv⟩ := sls_at hss hsa0
        have s12 := s1.trans s2
        refine ⟨rfl, .ref sa, rfl, sa, _, 0, _, rfl, rfl, .inl (.inl (s12 _ _ hsa)), atI_nat (j := 0) rfl, .ref ga, rfl, ga, _, 1, _, rfl, rfl, .inl (.inl (s12 _ _ hat)), atI_nat (j := 1) rfl, _, _, rfl, rfl, .ref p, rfl, p, _, 0, _, rfl, rfl, .inl (.inl (s12 _ _ hp)), atI_nat (j := 0) rfl, _, _, rfl, rfl, (show (0 : Int) < L by omega), _, hC, by rw [List.length_map, List.length_map, List.length_take]; omega, same_keep s2 nC, ?_⟩
        rw [upd_same, List.take_add_one, hs, List.map_append, List.map_append]
        rfl
      · obtain ⟨s2, hC⟩ := z
        rw [List.length_map, hss.length, List.take_length] at hC
        refine ⟨F, C, _, _, rfl, rfl, s2 _ _ hF, hC, by rw [List.length_map, List.length_map, List.length_map]; omega, fun G nG => ?_⟩
        exact ⟨G, _, _, rfl, (s1.trans s2).trans (same_new nG), by rw [upd_same, ed, List.map_append]⟩
    · obtain ⟨F, y3, y4, rfl, s1, hF⟩ := hp
      rw [List.length_map, gl, List.take_length] at hF
      have ll := wsOf_len (L := L) few.slots
      refine ⟨.ref F, rfl, F, _, rfl, .inl (.inl hF), by omega, fun S c nS hc => ⟨S, _, c, rfl, upd_same, fun ws f up hm hl nf => q _ f ws ((s1.trans (same_new nS)).trans (same_new nf)) (same_free (s1.trans (same_new nS)) nf) upd_same up (fun k => (hm k).trans ⟨fun z => of_decide_eq_true z, fun z => decide_eq_true z⟩) (by omega)⟩⟩
end
def sp_l_window (K : PySem.W.Frag) : Sp := fun vs H Q _ => ∃ (d p h : Addr) (L c : Int) (xs : List V) (ls : List Lg), vs = [.ref d, .ref p, .ref h, .int c] ∧ DrA H d ∧ H p = some (.tup (.int L :: xs)) ∧ 1 ≤ L ∧ HistAt H h ls ∧ HistFew ls ∧
  ∀ (H' : Hp) (w : Int), Dr d H H' → NearW L c w ls → Q (.int w) H'
section
variable {P : Program} {w : World} {K : PySem.W.Frag} {mg : Str → Option Value} {base : Heap}
set_option pp.maxSteps 300 in
theorem ok_l_window (T : Ctx K mg) (hN : base.NoSeer) (ht : P.given.tree = none) : FnOk P w K mg base CX0 35 T.f_l_window T.fd_l_window ["draws", "plan", "history", "cell"] (sp_l_window K) := by
  refine T.F_l_window.ok sc_l_window (fun vs H Q E h => ?_) (fun cdv A outer s H vs Q E hr h => ?_)
  · obtain ⟨d, p, h', L, c, xs, ls, rfl, _⟩ := h
    rfl
  · obtain ⟨d, p, h0, L, c, xs, ls, rfl, hd, hp, hL, hh, few, q⟩ := h
    refine ⟨_, (pss_cons (ps_set (i := 4) sc_l_window.nd rfl (.inl rfl) (pe_call (ok_l_windows T hN ht) (hr.mono (by decide)) (by rfl) T.g_l_windows T.F_l_windows.kp T.b_l_windows .nil pass0 (pa_cons (pv 1) (pa_cons (pv 2) pa_nil))))
      (pss_cons (ps_if (pt_cmpR op_eq (pe_callB call_len_seq (by rfl) T.m_len (by decide +kernel) (pa_cons (pv 4) pa_nil)) pe_int (nomark _))
        (pss_one (ps_ret (pv 3)))
        pss_nil)
      (pss_cons (ps_set (i := 5) sc_l_window.nd rfl (.inl rfl) (pe_ix ix_list (pv 4) (pe_call (ok_l_take T) (hr.mono (by decide)) (by rfl) T.g_l_take T.F_l_take.kp T.b_l_take .nil pass0 (pa_cons (pv 0) (pa_cons (pe_callB call_len_seq (by rfl) T.m_len (by decide +kernel) (pa_cons (pv 4) pa_nil)) pa_nil))) (fun _ _ => rfl)))
      (pss_one (ps_ret (pe_ix ix_list (pe_lst (pa_cons (pv 5) (pa_cons (pv 5) (pa_cons (pv 5) (pa_cons (pe_op op_sub (pv 5) pe_int) (pa_cons (pe_op op_add (pv 5) pe_int) (pa_cons (pv 3) pa_nil))))))) (pe_call (ok_l_take T) (hr.mono (by decide)) (by rfl) T.g_l_take T.F_l_take.kp T.b_l_take .nil pass0 (pa_cons (pv 0) (pa_cons pe_int pa_nil))) (fun _ _ => rfl))))))), ?_⟩
    refine ⟨.ref p, rfl, .ref h0, rfl, p, h0, L, xs, ls, rfl, hp, hL, hh, few, fun H1 f ws s1 nf hf up hm lw => ?_⟩
    have r1 := (Dr.refl hd).then s1
    have nfd : f ≠ d := fun z => by
      obtain ⟨_, y⟩ := hd
      rw [z, y] at nf
      cases nf
    refine ⟨.ref f, rfl, f, _, rfl, .inl (.inl (.inl hf)), rfl, _, rfl, ite2 (fun e => ?_) (fun e => ?_)⟩
    · exact ⟨.int c, rfl, q _ _ r1 (.inl rfl)⟩
    have lp : 0 < ws.length := Nat.pos_of_ne_zero fun z => e (decide_eq_true (by rw [List.length_map, z]; rfl))
    refine ⟨.ref f, rfl, .ref d, rfl, .ref f, rfl, f, _, rfl, .inl (.inl (.inl hf)), d, _, rfl, r1.at_, by rw [List.length_map]; omega, fun H2 x r2 x0 x1 => ?_⟩
    rw [List.length_map] at x1
    have hf2 := r2.keep _ _ nfd hf
    have um := (hm _).mp (List.getElem_mem (show x.toNat < ws.length by omega))
    have ua := atM_pos (ns := ws) x0 x1
    generalize ws[x.toNat]'(by omega) = u at um ua
    have r12 := r1.trans r2
    refine ⟨f, _, x, _, rfl, rfl, .inl (.inl hf2), ua, ?_⟩
    refine ⟨.int u, rfl, .int u, rfl, .int u, rfl, .int u, rfl, _, _, rfl, rfl, .int u, rfl, _, _, rfl, rfl, .int c, rfl, small' (n := 6) (by decide), fun g ng => ?_⟩
    have k3 := same_new (o := .lst [.int u, .int u, .int u, .int (u - 1), .int (u + 1), .int c]) ng
    have r3 := r12.then k3
    have ngd := r12.ne ng
    refine ⟨.ref d, rfl, d, _, rfl, r3.at_, by decide, fun H4 y r4 y0 y1 => ?_⟩
    have hg4 : H4 g = some (.lst (([u, u, u, u - 1, u + 1, c] : List Int).map V.int)) := r4.keep _ _ ngd upd_same
    obtain ⟨w, wm, wa⟩ := pick (xs := [u, u, u, u - 1, u + 1, c]) (k := y) rfl y0 (by show y < 6; omega)
    refine ⟨g, _, y, _, rfl, rfl, .inl (.inl hg4), wa, q _ _ (r3.trans r4) ?_⟩
    simp only [List.mem_cons, List.not_mem_nil, or_false] at wm
    by_cases ec : w = c
    · exact .inl ec
    · exact .inr ⟨u, um, by omega⟩
end
def sp_l_value_of (K : PySem.W.Frag) : Sp := fun vs H Q _ => ∃ (a v : Addr) (g : Ag) (xs : List Int), vs = [.ref a, .ref v] ∧ AgAt H a g ∧ H v = some (.tup (xs.map V.int)) ∧ xs.length ≤ 1000 ∧ g.Ok ∧ ∀ H', Same H H' → Q (valOf g xs) H'
section
variable {P : Program} {w : World} {K : PySem.W.Frag} {mg : Str → Option Value} {base : Heap}
set_option pp.maxSteps 300 in
theorem ok_l_value_of (T : Ctx K mg) : FnOk P w K mg base CX0 1 T.f_l_value_of T.fd_l_value_of ["aggregate", "values"] (sp_l_value_of K) := by
  refine T.F_l_value_of.ok sc_l_value_of (fun vs H Q E h => ?_) (fun cdv A outer s H vs Q E hr h => ?_)
  · obtain ⟨a, v, g, xs, rfl, _⟩ := h
    rfl
  · obtain ⟨a, v, g, xs, rfl, ha, hv, few, ok, q⟩ := h
    refine ⟨_, (pss_cons (ps_if (pt_cmpR op_eq (pe_ix ix_tup (pv 0) pe_int (fun _ _ => rfl)) pe_str (nomark _))
        (pss_one (ps_ret (pe_callB call_len_seq (by rfl) T.m_len (by decide +kernel) (pa_cons (pv 1) pa_nil))))
        pss_nil)
      (pss_cons (ps_if (pt_cmpR op_eq (pe_ix ix_tup (pv 0) pe_int (fun _ _ => rfl)) pe_str (nomark _))
        (pss_one (ps_ret (pe_callB call_len_seq (by rfl) T.m_len (by decide +kernel) (pa_cons (pe_lc (own := [("value", 2)]) (g := gName 2) (by rfl) sc_l_value_of.nd (pi_tup (pv 1)) (blkOk_by (own := [("value", 2)]) (N := ["aggregate", "values", "value"]) (sc := defScope s_l_value_of) (by decide +kernel)) (fun _ _ _ _ _ => pg_name (i := 2) sc_l_value_of.nd rfl (Or.inl rfl)) (fun _ _ _ _ _ => (pts_one (PW.pt (pw_and (pt_cmpR op_ge (pv 2) (pe_ix (show IxR _ (rIxT K) from ix_tup) (pv 0) pe_int (fun _ _ => rfl)) (nomark _)) (pw_and1 (pt_cmpR op_le (pv 2) (pe_ix (show IxR _ (rIxT K) from ix_tup) (pv 0) pe_int (fun _ _ => rfl)) (nomark _))))))) (fun _ _ _ _ _ => (pv 2))) pa_nil))))
        pss_nil)
      (pss_cons (ps_if (pt_cmpR op_eq (pe_ix ix_tup (pv 0) pe_int (fun _ _ => rfl)) pe_str (nomark _))
        (pss_one (ps_ret (pe_callB (SumT.cr_sumT rfl) (by rfl) T.m_sum (by decide +kernel) (pa_cons (pv 1) pa_nil))))
        pss_nil)
      (pss_cons (ps_if (pt_cmpR op_eq (pe_callB call_len_seq (by rfl) T.m_len (by decide +kernel) (pa_cons (pv 1) pa_nil)) pe_int (nomark _))
        (pss_one (ps_ret pe_non))
        pss_nil)
      (pss_one (ps_ret (pe_ix ix_tup (pv 1) (pe_op op_fdiv (pe_op op_mul (pe_op op_sub (pe_callB call_len_seq (by rfl) T.m_len (by decide +kernel) (pa_cons (pv 1) pa_nil)) pe_int) (pe_ix ix_tup (pv 0) pe_int (fun _ _ => rfl))) (pe_ix ix_tup (pv 0) pe_int (fun _ _ => rfl))) (fun _ _ => rfl)))))))), ?_⟩
    have hT : SqT K H v (xs.map V.int) := .inl (.inl hv)
    cases g with
    | count =>
      refine ⟨.ref a, rfl, a, _, 0, _, rfl, rfl, .inl (.inl ha), atI_nat (j := 0) rfl, rfl, _, rfl, ite2 (fun _ => ?_) (fun e => absurd (decide_eq_true rfl) e)⟩
      have qq := q _ (Same.refl H)
      refine ⟨.ref v, rfl, v, _, rfl, .inr hT, ?_⟩
      rw [List.length_map]
      exact qq
    | among lo hi =>
      have hA : SqT K H a [.str "among", .int lo, .int hi] := .inl (.inl ha)
      refine ⟨.ref a, rfl, a, _, 0, _, rfl, rfl, hA, atI_nat (j := 0) rfl, rfl, _, rfl, ite2 (fun e => absurd e (by decide +kernel)) (fun _ => ?_)⟩
      refine ⟨.ref a, rfl, a, _, 0, _, rfl, rfl, hA, atI_nat (j := 0) rfl, rfl, _, rfl, ite2 (fun _ => ?_) (fun e => absurd (decide_eq_true rfl) e)⟩
      refine ⟨.ref v, rfl, v, rfl, ⟨_, hT⟩, fun C nC => lc_tup (K := K) (a := v) (xs := xs.map V.int) (fun i H' => Same H H' ∧ H' C = some (.lst (((xs.take i).filter (within lo hi)).map V.int))) ⟨same_new nC, upd_same⟩ (fun i H' _ z => .inl (.inl (z.1 _ _ hv))) (fun i x H' hx z => ?_) (fun H' z => ?_)⟩
      · obtain ⟨s2, hC⟩ := z
        obtain ⟨k, hk, rfl⟩ := int_at hx
        have il := (List.getElem?_eq_some_iff.mp hk).1
        have fl := filt_snoc (within lo hi) hk
        have l1 : ((xs.take i).filter (within lo hi)).length ≤ i := Nat.le_trans (List.length_filter_le _ _) (by rw [List.length_take]; omega)
        have hA2 : SqT K H' a [.str "among", .int lo, .int hi] := .inl (.inl (s2 _ _ ha))
        refine ⟨rfl, .int k, rfl, .ref a, rfl, a, _, 1, _, rfl, rfl, hA2, atI_nat (j := 1) rfl, _, _, rfl, rfl, _, rfl, ite2 (fun e1 => ?_) (fun e1 => ?_)⟩
        · have c1 : k ≥ lo := of_decide_eq_true e1
          refine ⟨.int k, rfl, .ref a, rfl, a, _, 2, _, rfl, rfl, hA2, atI_nat (j := 2) rfl, _, _, rfl, rfl, _, rfl, ite2 (fun e2 => ?_) (fun e2 => ?_)⟩
          · have c2 : k ≤ hi := of_decide_eq_true e2
            have w : within lo hi k = true := by
              show (decide (lo ≤ k) && decide (k ≤ hi)) = true
              rw [decide_eq_true c1, decide_eq_true c2]; rfl
            rw [if_pos w] at fl
            refine ⟨.int k, rfl, _, hC, by rw [List.length_map]; exact small (by omega), same_keep s2 nC, ?_⟩
            rw [upd_same, fl, List.map_append]
            rfl
          · have w : ¬ within lo hi k = true := fun z => e2 (decide_eq_true (of_decide_eq_true (Bool.and_eq_true_iff.mp z).2))
            rw [if_neg w, List.append_nil] at fl
            exact ⟨s2, by rw [fl]; exact hC⟩
        · have w : ¬ within lo hi k = true := fun z => e1 (decide_eq_true (show k ≥ lo from of_decide_eq_true (Bool.and_eq_true_iff.mp z).1))
          rw [if_neg w, List.append_nil] at fl
          exact ⟨s2, by rw [fl]; exact hC⟩
      · obtain ⟨s2, hC⟩ := z
        rw [List.length_map, List.take_length] at hC
        refine ⟨C, _, rfl, .inl (.inl (.inl hC)), ?_⟩
        rw [List.length_map]
        exact q _ s2
    | sum =>
      have hA : SqT K H a [.str "sum"] := .inl (.inl ha)
      refine ⟨.ref a, rfl, a, _, 0, _, rfl, rfl, hA, atI_nat (j := 0) rfl, rfl, _, rfl, ite2 (fun e => absurd e (by decide +kernel)) (fun _ => ?_)⟩
      refine ⟨.ref a, rfl, a, _, 0, _, rfl, rfl, hA, atI_nat (j := 0) rfl, rfl, _, rfl, ite2 (fun e => absurd e (by decide +kernel)) (fun _ => ?_)⟩
      refine ⟨.ref a, rfl, a, _, 0, _, rfl, rfl, hA, atI_nat (j := 0) rfl, rfl, _, rfl, ite2 (fun _ => ?_) (fun e => absurd (decide_eq_true rfl) e)⟩
      exact ⟨.ref v, rfl, v, xs, rfl, hT, q _ (Same.refl H)⟩
    | rank pp qq =>
      have hA : SqT K H a [.str "rank", .int pp, .int qq] := .inl (.inl ha)
      have q1 := q _ (Same.refl H)
      refine ⟨.ref a, rfl, a, _, 0, _, rfl, rfl, hA, atI_nat (j := 0) rfl, rfl, _, rfl, ite2 (fun e => absurd e (by decide +kernel)) (fun _ => ?_)⟩
      refine ⟨.ref a, rfl, a, _, 0, _, rfl, rfl, hA, atI_nat (j := 0) rfl, rfl, _, rfl, ite2 (fun e => absurd e (by decide +kernel)) (fun _ => ?_)⟩
      refine ⟨.ref a, rfl, a, _, 0, _, rfl, rfl, hA, atI_nat (j := 0) rfl, rfl, _, rfl, ite2 (fun e => absurd e (by decide +kernel)) (fun _ => ?_)⟩
      refine ⟨.ref v, rfl, v, _, rfl, .inr hT, rfl, _, rfl, ite2 (fun e => ?_) (fun e => ?_)⟩
      · have e0 : xs = [] := by
          have z : ((xs.map V.int).length : Int) = 0 := V.int.inj (of_decide_eq_true e)
          rw [List.length_map] at z
          exact List.length_eq_zero_iff.mp (by omega)
        rw [e0, rank_nil] at q1
        exact q1
      · have hn : xs ≠ [] := fun z => by
          subst z
          exact e (decide_eq_true rfl)
        obtain ⟨h0, h1, h2, h3⟩ := ok
        obtain ⟨k, hk, ea, ev⟩ := rank_at hn h0 h1 h2
        rw [ev] at q1
        refine ⟨.ref v, rfl, .ref v, rfl, v, _, rfl, .inr hT, _, _, rfl, rfl, .ref a, rfl, a, _, 1, _, rfl, rfl, hA, atI_nat (j := 1) rfl, _, _, rfl, rfl, .inl ⟨?_, ?_⟩, .ref a, rfl, a, _, 2, _, rfl, rfl, hA, atI_nat (j := 2) rfl, _, _, rfl, rfl, ?_, v, _, _, _, rfl, rfl, hT, ?_, q1⟩
        · rw [List.length_map]; omega
        · rw [List.length_map]; omega
        · exact ⟨by omega, by omega⟩
        · rw [List.length_map]
          exact ea
end
def sp_l_aggregate (K : PySem.W.Frag) : Sp := fun vs H Q _ => ∃ (d p tm : Addr) (ts : List Addr) (P : Pl) (c : Int), vs = [.ref d, .ref p, .int c] ∧ DrA H d ∧ PlanAt H p tm ts P ∧ P.ms ≠ [] ∧ P.ms.length ≤ 1000 ∧
  ∀ (H' : Hp) (t : Addr) (g : Ag), Dr d H H' → AgAt H' t g → g.Ok → Q (.ref t) H'
section
variable {P : Program} {w : World} {K : PySem.W.Frag} {mg : Str → Option Value} {base : Heap}
set_option pp.maxSteps 300 in
set_option maxHeartbeats 600000 in
theorem ok_l_aggregate (T : Ctx K mg) : FnOk P w K mg base CX0 2 T.f_l_aggregate T.fd_l_aggregate ["draws", "plan", "cell"] (sp_l_aggregate K) := by
  refine T.F_l_aggregate.ok sc_l_aggregate (fun vs H Q E h => ?_) (fun cdv A outer s H vs Q E hr h => ?_)
  · obtain ⟨d, p, tm, ts, P, c, rfl, _⟩ := h
    rfl
  · obtain ⟨d, p, tm, ts, P, c, rfl, hd, pa, ne, few, q⟩ := h
    refine ⟨_, (pss_cons (ps_set (i := 3) sc_l_aggregate.nd rfl (.inl rfl) (pe_call (ok_l_take T) (hr.mono (by decide)) (by rfl) T.g_l_take T.F_l_take.kp T.b_l_take .nil pass0 (pa_cons (pv 0) (pa_cons pe_int pa_nil))))
      (pss_cons (ps_if (pt_cmpR op_lt (pv 3) pe_int (nomark _))
        (pss_one (ps_ret (pe_ix ix_list (pe_lst (pa_cons (pe_tup (pa_cons pe_str pa_nil)) (pa_cons (pe_tup (pa_cons pe_str pa_nil)) pa_nil))) (pv 3) (fun _ _ => rfl))))
        pss_nil)
      (pss_cons (ps_if (pt_cmpR op_eq (pv 3) pe_int (nomark _))
        (pss_cons (ps_set (i := 4) sc_l_aggregate.nd rfl (.inl rfl) (pe_ix ix_tup (pe_ix ix_tup (pv 1) pe_int (fun _ _ => rfl)) (pe_call (ok_l_take T) (hr.mono (by decide)) (by rfl) T.g_l_take T.F_l_take.kp T.b_l_take .nil pass0 (pa_cons (pv 0) (pa_cons (pe_callB call_len_seq (by rfl) T.m_len (by decide +kernel) (pa_cons (pe_ix ix_tup (pv 1) pe_int (fun _ _ => rfl)) pa_nil)) pa_nil))) (fun _ _ => rfl)))
      (pss_cons (ps_set (i := 5) sc_l_aggregate.nd rfl (.inl rfl) (pe_lst (pa_cons (pe_ix ix_tup (pv 4) pe_int (fun _ _ => rfl)) (pa_cons (pe_ix ix_tup (pv 4) pe_int (fun _ _ => rfl)) (pa_cons (pe_op op_add (pe_ix ix_tup (pv 4) pe_int (fun _ _ => rfl)) pe_int) (pa_cons (pe_op op_sub (pe_call (ok_l_take T) (hr.mono (by decide)) (by rfl) T.g_l_take T.F_l_take.kp T.b_l_take .nil pass0 (pa_cons (pv 0) (pa_cons pe_int pa_nil))) pe_int) (pa_cons (pv 2) pa_nil)))))))
      (pss_cons (ps_set (i := 6) sc_l_aggregate.nd rfl (.inl rfl) (pe_ix ix_list (pv 5) (pe_call (ok_l_take T) (hr.mono (by decide)) (by rfl) T.g_l_take T.F_l_take.kp T.b_l_take .nil pass0 (pa_cons (pv 0) (pa_cons pe_int pa_nil))) (fun _ _ => rfl)))
      (pss_cons (ps_set (i := 7) sc_l_aggregate.nd rfl (.inl rfl) (pe_ix ix_list (pv 5) (pe_call (ok_l_take T) (hr.mono (by decide)) (by rfl) T.g_l_take T.F_l_take.kp T.b_l_take .nil pass0 (pa_cons (pv 0) (pa_cons pe_int pa_nil))) (fun _ _ => rfl)))
      (pss_one (ps_ret (pe_tup (pa_cons pe_str (pa_cons (pe_callB (call_min2 rfl) (by rfl) T.m_min (by decide +kernel) (pa_cons (pv 6) (pa_cons (pv 7) pa_nil))) (pa_cons (pe_callB (call_max2 rfl) (by rfl) T.m_max (by decide +kernel) (pa_cons (pv 6) (pa_cons (pv 7) pa_nil))) pa_nil))))))))))
        pss_nil)
      (pss_cons (ps_set (i := 8) sc_l_aggregate.nd rfl (.inl rfl) (pe_ix ix_list (pe_lst (pa_cons pe_int (pa_cons pe_int (pa_cons pe_int (pa_cons pe_int (pa_cons pe_int (pa_cons (pe_op op_add pe_int (pe_call (ok_l_take T) (hr.mono (by decide)) (by rfl) T.g_l_take T.F_l_take.kp T.b_l_take .nil pass0 (pa_cons (pv 0) (pa_cons pe_int pa_nil)))) pa_nil))))))) (pe_call (ok_l_take T) (hr.mono (by decide)) (by rfl) T.g_l_take T.F_l_take.kp T.b_l_take .nil pass0 (pa_cons (pv 0) (pa_cons pe_int pa_nil))) (fun _ _ => rfl)))
      (pss_one (ps_ret (pe_tup (pa_cons pe_str (pa_cons (pe_ix ix_list (pe_lst (pa_cons pe_int (pa_cons (pv 8) (pa_cons (pe_call (ok_l_take T) (hr.mono (by decide)) (by rfl) T.g_l_take T.F_l_take.kp T.b_l_take .nil pass0 (pa_cons (pv 0) (pa_cons (pe_op op_add (pv 8) pe_int) pa_nil))) pa_nil)))) (pe_call (ok_l_take T) (hr.mono (by decide)) (by rfl) T.g_l_take T.F_l_take.kp T.b_l_take .nil pass0 (pa_cons (pv 0) (pa_cons pe_int pa_nil))) (fun _ _ => rfl)) (pa_cons (pv 8) pa_nil)))))))))), ?_⟩
    have tl : ts.length = P.ms.length := pa.low.length
    have l0 : 0 < P.ms.length := List.length_pos_iff.mpr ne
    refine ⟨.ref d, rfl, d, _, rfl, hd, by decide, fun H1 k r1 k0 k1 => ?_⟩
    refine ⟨.int k, rfl, _, _, rfl, rfl, _, rfl, ite2 (fun e => ?_) (fun e => ?_)⟩
    · have c1 : k < 2 := of_decide_eq_true e
      refine ⟨small' (n := 1) (by decide), fun t1 n1 => ⟨small' (n := 1) (by decide), fun t2 n2 => ⟨small' (n := 2) (by decide), fun L nL => ?_⟩⟩⟩
      have s1 := same_new (o := .tup [.str "count"]) n1
      have s2 := same_new (o := .tup [.str "sum"]) n2
      have s3 := same_new (o := .lst [.ref t1, .ref t2]) nL
      have r4 := r1.then ((s1.trans s2).trans s3)
      have a1 := s3 _ _ (s2 _ _ (upd_same (H := H1) (a := t1) (o := .tup [.str "count"])))
      have a2 := s3 _ _ (upd_same (H := upd H1 t1 (.tup [.str "count"])) (a := t2) (o := .tup [.str "sum"]))
      have aL : upd (upd (upd H1 t1 (.tup [.str "count"])) t2 (.tup [.str "sum"])) L (.lst [.ref t1, .ref t2]) L = some (.lst [.ref t1, .ref t2]) := upd_same
      rcases (show k = 0 ∨ k = 1 by omega) with rfl | rfl
      · exact ⟨.int 0, rfl, L, _, 0, _, rfl, rfl, .inl (.inl aL), atI_nat (j := 0) rfl, q _ t1 .count r4 a1 trivial⟩
      · exact ⟨.int 1, rfl, L, _, 1, _, rfl, rfl, .inl (.inl aL), atI_nat (j := 1) rfl, q _ t2 .sum r4 a2 trivial⟩
    refine ⟨.int k, rfl, rfl, _, rfl, ite2 (fun e => ?_) (fun e => ?_)⟩
    · have hpl := (pa.mid)
      have pa1 := r1.plan hd pa
      refine ⟨.ref p, rfl, p, _, 1, _, rfl, rfl, .inl (.inl pa1.top), atI_nat (j := 1) rfl, .ref d, rfl, .ref p, rfl, p, _, 1, _, rfl, rfl, .inl (.inl pa1.top), atI_nat (j := 1) rfl, tm, _, rfl, .inr (.inl (.inl pa1.mid)), d, _, rfl, r1.at_, by rw [List.length_map]; omega, fun H2 x r2 x0 x1 => ?_⟩
      rw [List.length_map] at x1
      have pa2 := r2.plan r1.at_ pa1
      have hx : x.toNat < ts.length := by omega
      have ax : atI (ts.map V.ref) x = some (.ref ts[x.toNat]) := atI_z (j := x.toNat) (by omega) (by rw [List.getElem?_map, List.getElem?_eq_getElem hx]; rfl)
      obtain ⟨m, hm, hmt⟩ := mts_at pa2.low (List.getElem?_eq_getElem hx)
      generalize ts[x.toNat] = ta at ax hmt
      refine ⟨tm, _, x, _, rfl, rfl, .inl (.inl pa2.mid), ax, ?_⟩
      have hM : SqT K H2 ta [.str m.name, .int m.low, .int m.high, .int m.err] := .inl (.inl hmt)
      refine ⟨.ref ta, rfl, ta, _, 1, _, rfl, rfl, hM, atI_nat (j := 1) rfl, .ref ta, rfl, ta, _, 2, _, rfl, rfl, hM, atI_nat (j := 2) rfl, .ref ta, rfl, ta, _, 1, _, rfl, rfl, hM, atI_nat (j := 1) rfl, _, _, rfl, rfl, .ref d, rfl, d, _, rfl, r2.at_, by decide, fun H3 u r3 u0 u1 => ⟨_, _, rfl, rfl, .int c, rfl, small' (n := 5) (by decide), fun E nE => ?_⟩⟩
      have r13 := (r1.trans r2).trans r3
      have nEd := r13.ne nE
      have r4 := r13.then (same_new (o := .lst [.int m.low, .int m.high, .int (m.low + 1), .int (u - 3), .int c]) nE)
      refine ⟨.ref E, rfl, .ref d, rfl, d, _, rfl, r4.at_, by decide, fun H5 y r5 y0 y1 => ?_⟩
      have hE : H5 E = some (.lst (([m.low, m.high, m.low + 1, u - 3, c] : List Int).map V.int)) := r5.keep _ _ nEd upd_same
      obtain ⟨one, _, oa⟩ := pickI (xs := [m.low, m.high, m.low + 1, u - 3, c]) (k := y) rfl y0 (by show y < 5; omega)
      refine ⟨E, _, y, _, rfl, rfl, .inl (.inl hE), oa, ?_⟩
      refine ⟨.ref E, rfl, .ref d, rfl, d, _, rfl, r5.at_, by decide, fun H6 z r6 z0 z1 => ?_⟩
      have hE6 := r6.keep _ _ nEd hE
      obtain ⟨two, _, ta2⟩ := pickI (xs := [m.low, m.high, m.low + 1, u - 3, c]) (k := z) rfl z0 (by show z < 5; omega)
      refine ⟨E, _, z, _, rfl, rfl, .inl (.inl hE6), ta2, ?_⟩
      exact ⟨.int one, rfl, .int two, rfl, _, _, rfl, .int one, rfl, .int two, rfl, _, _, rfl, small' (n := 3) (by decide), fun t nt => q _ t (.among _ _) (((r4.trans r5).trans r6).then (same_new nt)) upd_same trivial⟩
    refine ⟨.ref d, rfl, d, _, rfl, r1.at_, by decide, fun H2 u r2 u0 u1 => ⟨_, _, rfl, rfl, small' (n := 6) (by decide), fun E nE => ?_⟩⟩
    have r12 := r1.trans r2
    have nEd := r12.ne nE
    have r3 := r12.then (same_new (o := .lst [.int 1, .int 2, .int 3, .int 4, .int 20, .int (1 + u)]) nE)
    refine ⟨.ref d, rfl, d, _, rfl, r3.at_, by decide, fun H4 x r4 x0 x1 => ?_⟩
    have h4 : H4 E = some (.lst [.int 1, .int 2, .int 3, .int 4, .int 20, .int (1 + u)]) := r4.keep _ _ nEd upd_same
    obtain ⟨qv, qm, qa⟩ := pickI (xs := [1, 2, 3, 4, 20, 1 + u]) (vs := [.int 1, .int 2, .int 3, .int 4, .int 20, .int (1 + u)]) (k := x) rfl (by omega) (by show x < 6; omega)
    have qB : 1 ≤ qv ∧ qv ≤ 20 := by
      simp only [List.mem_cons, List.not_mem_nil, or_false] at qm
      omega
    refine ⟨E, _, _, _, rfl, rfl, .inl (.inl h4), qa, ?_⟩
    have r14 := r3.trans r4
    refine ⟨.int qv, rfl, .ref d, rfl, .int qv, rfl, _, _, rfl, rfl, d, _, rfl, r14.at_, by omega, fun H5 y r5 y0 y1 => ⟨small' (n := 3) (by decide), fun G nG => ?_⟩⟩
    have r15 := r14.trans r5
    have nGd := r15.ne nG
    have r6 := r15.then (same_new (o := .lst [.int 0, .int qv, .int y]) nG)
    refine ⟨.ref d, rfl, d, _, rfl, r6.at_, by decide, fun H7 z r7 z0 z1 => ?_⟩
    have h7 : H7 G = some (.lst [.int 0, .int qv, .int y]) := r7.keep _ _ nGd upd_same
    obtain ⟨pv, pm, pa'⟩ := pickI (xs := [0, qv, y]) (vs := [.int 0, .int qv, .int y]) (k := z) rfl (by omega) (by show z < 3; omega)
    have pB : 0 ≤ pv ∧ pv ≤ qv := by
      simp only [List.mem_cons, List.not_mem_nil, or_false] at pm
      omega
    exact ⟨G, _, _, _, rfl, rfl, .inl (.inl h7), pa', .int qv, rfl, small' (n := 3) (by decide), fun t nt => q _ t (.rank pv qv) ((r6.trans r7).then (same_new nt)) upd_same ⟨pB.1, pB.2, qB.1, by omega⟩⟩
end
def sp_l_term (K : PySem.W.Frag) : Sp := fun vs H Q _ => ∃ (d p h tm : Addr) (ts : List Addr) (P : Pl) (c : Int) (ls : List Lg), vs = [.ref d, .ref p, .ref h, .int c] ∧ DrA H d ∧ PlanAt H p tm ts P ∧ P.ms ≠ [] ∧ P.ms.length ≤ 6 ∧ 1 ≤ P.len ∧ HistAt H h ls ∧ HistFew ls ∧
  ∀ (H' : Hp) (a : Addr) (t : Tm), Dr d H H' → TmAt H' a t → t.f.natAbs ≤ c.natAbs + 3 → NearW P.len c t.w ls → Q (.ref a) H'
section
variable {P : Program} {w : World} {K : PySem.W.Frag} {mg : Str → Option Value} {base : Heap}
set_option pp.maxSteps 300 in
set_option maxHeartbeats 600000 in
theorem ok_l_term (T : Ctx K mg) (hN : base.NoSeer) (ht : P.given.tree = none) : FnOk P w K mg base CX0 36 T.f_l_term T.fd_l_term ["draws", "plan", "history", "cell"] (sp_l_term K) := by
  refine T.F_l_term.ok sc_l_term (fun vs H Q E h => ?_) (fun cdv A outer s H vs Q E hr h => ?_)
  · obtain ⟨d, p, h', tm, ts, P, c, ls, rfl, _⟩ := h
    rfl
  · obtain ⟨d, p, h0, tm, ts, P, c, ls, rfl, hd, pa, ne, few, hL, hh, fewH, q⟩ := h
    refine ⟨_, (pss_cons (ps_setLc (i := 4) (own := [("meter", 7)]) (g := gName 7) (by rfl) sc_l_term.nd rfl rfl (sw_true rfl rfl rfl (by decide +kernel)) (pi_tup (pe_ix ix_tup (pv 1) pe_int (fun _ _ => rfl))) (blkOk_by (own := [("meter", 7)]) (N := ["draws", "plan", "history", "cell", "names", "factor", "chosen", "meter"]) (sc := defScope s_l_term) (by decide +kernel)) (fun _ _ _ _ _ => pg_name (i := 7) sc_l_term.nd rfl (Or.inl rfl)) (fun _ _ _ _ _ => pts_nil) (fun _ _ _ _ _ => (pe_ix (show IxR _ (rIxT K) from ix_tup) (pv 7) pe_int (fun _ _ => rfl))))
      (pss_cons (ps_set (i := 5) sc_l_term.nd rfl (.inl rfl) (pe_ix ix_list (pe_lst (pa_cons pe_int (pa_cons (pe_un un_neg pe_int) (pa_cons pe_int (pa_cons (pe_un un_neg pe_int) (pa_cons (pe_op op_add (pv 3) (pe_callTy call_int1 (by rfl) T.m_int (by decide +kernel) (pa_cons (pe_cmpR op_eq (pv 3) pe_int (nomark _)) pa_nil))) pa_nil)))))) (pe_call (ok_l_take T) (hr.mono (by decide)) (by rfl) T.g_l_take T.F_l_take.kp T.b_l_take .nil pass0 (pa_cons (pv 0) (pa_cons pe_int pa_nil))) (fun _ _ => rfl)))
      (pss_cons (ps_set (i := 6) sc_l_term.nd rfl (.inl rfl) (pe_call (ok_l_chosen T) (hr.mono (by decide)) (by rfl) T.g_l_chosen T.F_l_chosen.kp T.b_l_chosen .nil pass0 (pa_cons (pv 0) (pa_cons (pv 4) pa_nil))))
      (pss_one (ps_ret (pe_tup (pa_cons (pv 5) (pa_cons (pe_ix ix_list (pe_lst (pa_cons (pe_tup (pa_cons pe_str pa_nil)) (pa_cons (pe_tup (pa_cons pe_str pa_nil)) pa_nil))) (pe_call (ok_l_take T) (hr.mono (by decide)) (by rfl) T.g_l_take T.F_l_take.kp T.b_l_take .nil pass0 (pa_cons (pv 0) (pa_cons pe_int pa_nil))) (fun _ _ => rfl)) (pa_cons (pv 6) (pa_cons (pe_call (ok_l_window T hN ht) (hr.mono (by decide)) (by rfl) T.g_l_window T.F_l_window.kp T.b_l_window .nil pass0 (pa_cons (pv 0) (pa_cons (pv 1) (pa_cons (pv 2) (pa_cons (pv 3) pa_nil))))) pa_nil)))))))))), ?_⟩
    have tl : ts.length = P.ms.length := pa.low.length
    refine ⟨.ref p, rfl, p, _, 1, _, rfl, rfl, .inl (.inl pa.top), atI_nat (j := 1) rfl, tm, rfl, ⟨_, .inl (.inl pa.mid)⟩, fun C nC => lc_tup (K := K) (a := tm) (xs := ts.map V.ref) (fun i H' => Same H H' ∧ H' C = some (.lst (((P.ms.map Mt.name).take i).map V.str))) ⟨same_new nC, by rw [upd_same]; simp⟩ (fun i H' _ z => .inl (.inl (z.1 _ _ pa.mid))) (fun i y H' hy z => ?_) (fun H1 z => ?_)⟩
    · obtain ⟨s1, hC⟩ := z
      rw [List.getElem?_map] at hy
      obtain ⟨t, hti, rfl⟩ := Option.map_eq_some_iff.mp hy
      have il := (List.getElem?_eq_some_iff.mp hti).1
      obtain ⟨m, hm, hat⟩ := mts_at pa.low hti
      refine ⟨rfl, .ref t, rfl, t, _, 0, _, rfl, rfl, .inl (.inl (s1 _ _ hat)), atI_nat (j := 0) rfl, _, hC, ?_, same_keep s1 nC, ?_⟩
      · rw [List.length_map, List.length_take, List.length_map]
        exact small (by omega)
      · rw [upd_same, List.take_add_one, List.getElem?_map, hm, List.map_append]
        rfl
    obtain ⟨s1, hC⟩ := z
    rw [List.length_map, tl, ← List.length_map (f := Mt.name) (as := P.ms), List.take_length] at hC
    have r1 := (Dr.refl hd).then s1
    have nCd : C ≠ d := (Dr.refl hd).ne nC
    have nne : P.ms.map Mt.name ≠ [] := fun z => ne (List.map_eq_nil_iff.mp z)
    have nlen : (P.ms.map Mt.name).length ≤ 6 := by rw [List.length_map]; exact few
    generalize P.ms.map Mt.name = names at hC nne nlen
    -- factor
    refine ⟨_, rfl, _, rfl, .int c, rfl, .int c, rfl, rfl, .inr ⟨_, rfl, ?_⟩⟩
    refine ⟨_, _, rfl, rfl, small' (n := 5) (by decide), fun E nE => ?_⟩
    have sb : ∀ k : Bool, (0 : Int) ≤ (if k = true then 1 else 0) ∧ (if k = true then 1 else 0) ≤ (1 : Int) := fun k => by cases k <;> decide
    have b1 := sb (decide (V.int c = V.int 0))
    generalize (if decide (V.int c = V.int 0) = true then (1 : Int) else 0) = one at b1 nE ⊢
    have kE := same_new (o := .lst [.int 1, .int (-1), .int 2, .int (-3), .int (c + one)]) nE
    have r2 := r1.then kE
    have nEd := r1.ne nE
    refine ⟨.ref d, rfl, d, _, rfl, r2.at_, by decide, fun H3 x r3 x0 x1 => ?_⟩
    have hE3 : H3 E = some (.lst (([1, -1, 2, -3, c + one] : List Int).map V.int)) := r3.keep _ _ nEd upd_same
    obtain ⟨f, fm, fa⟩ := pickI (xs := [1, -1, 2, -3, c + one]) (k := x) rfl x0 (by show x < 5; omega)
    have fB : f.natAbs ≤ c.natAbs + 3 := by
      simp only [List.mem_cons, List.not_mem_nil, or_false] at fm
      omega
    refine ⟨E, _, x, _, rfl, rfl, .inl (.inl hE3), fa, ?_⟩
    have r13 := r2.trans r3
    have hC3 := r3.keep _ _ nCd (kE _ _ hC)
    refine ⟨.ref d, rfl, .ref C, rfl, d, C, names, rfl, r3.at_, nCd, hC3, nne, by omega, fun H4 tc cs r4 htc => ?_⟩
    have r14 := r13.trans r4
    refine ⟨.int f, rfl, small' (n := 1) (by decide), fun t1 n1 => ⟨small' (n := 1) (by decide), fun t2 n2 => ⟨small' (n := 2) (by decide), fun L nL => ?_⟩⟩⟩
    have s1' := same_new (o := .tup [.str "count"]) n1
    have s2 := same_new (o := .tup [.str "sum"]) n2
    have s3 := same_new (o := .lst [.ref t1, .ref t2]) nL
    have ss := (s1'.trans s2).trans s3
    have r5 := r14.then ss
    have a1 := s3 _ _ (s2 _ _ (upd_same (H := H4) (a := t1) (o := .tup [.str "count"])))
    have a2 := s3 _ _ (upd_same (H := upd H4 t1 (.tup [.str "count"])) (a := t2) (o := .tup [.str "sum"]))
    have aL : upd (upd (upd H4 t1 (.tup [.str "count"])) t2 (.tup [.str "sum"])) L (.lst [.ref t1, .ref t2]) L = some (.lst [.ref t1, .ref t2]) := upd_same
    have htc5 := ss _ _ htc
    have nLd : L ≠ d := ((r14.then s1').then s2).ne nL
    generalize upd (upd (upd H4 t1 (.tup [.str "count"])) t2 (.tup [.str "sum"])) L (.lst [.ref t1, .ref t2]) = H5 at r5 a1 a2 aL htc5
    refine ⟨.ref d, rfl, d, _, rfl, r5.at_, by decide, fun H6 y r6 y0 y1 => ?_⟩
    have r16 := r5.trans r6
    have aL6 := r6.keep _ _ nLd aL
    obtain ⟨ta, cnt, hta, hat⟩ : ∃ (ta : Addr) (cnt : Bool), atI [V.ref t1, V.ref t2] y = some (.ref ta) ∧ AgAt H5 ta (Tm.ag ⟨f, cnt, cs, 0⟩) := by
      rcases (show y = 0 ∨ y = 1 by omega) with rfl | rfl
      · exact ⟨t1, true, atI_nat (j := 0) rfl, a1⟩
      · exact ⟨t2, false, atI_nat (j := 1) rfl, a2⟩
    refine ⟨L, _, y, _, rfl, rfl, .inl (.inl aL6), hta, .ref tc, rfl, .ref d, rfl, .ref p, rfl, .ref h0, rfl, .int c, rfl, d, p, h0, P.len, c, _, ls, rfl, r6.at_, r16.tup hd pa.top, hL, hh.kept (r16.kt hd), fewH, fun H7 w r7 nw => ⟨small' (n := 4) (by decide), fun tt ntt => ?_⟩⟩
    have k8 := same_new (o := .tup [.int f, .ref ta, .ref tc, .int w]) ntt
    have k67 := KT.trans (r6.kt r5.at_) (r7.kt r6.at_)
    exact q _ tt ⟨f, cnt, cs, w⟩ ((r16.trans r7).then k8) ⟨ta, tc, upd_same, k8 _ _ (k67 _ _ hat), k8 _ _ (k67 _ _ htc5)⟩ fB nw
end
def sp_l_due (K : PySem.W.Frag) : Sp := fun vs H Q _ => ∃ (p h a t : Addr) (L w : Int) (xs : List V) (ls : List Lg) (ns : List Str) (g : Ag) (b : Nat), vs = [.ref p, .ref h, .ref a, .ref t, .int w] ∧ H p = some (.tup (.int L :: xs)) ∧ 1 ≤ L ∧ HistAt H h ls ∧ HistFew ls ∧ Vsd ls ∧ RdFew L ls ∧ AgAt H a g ∧ g.Ok ∧ H t = some (.tup (ns.map V.str)) ∧
  1 ≤ b ∧ b ≤ 30000000 ∧ L.natAbs < 2 ^ b ∧ w.natAbs < 2 ^ b ∧
  ∀ (H' : Hp), Same H H' → Q (valP L w ns ls g) H'
section
variable {P : Program} {w : World} {K : PySem.W.Frag} {mg : Str → Option Value} {base : Heap}
set_option pp.maxSteps 300 in
theorem ok_l_due (T : Ctx K mg) : FnOk P w K mg base CX0 2 T.f_l_due T.fd_l_due ["plan", "history", "aggregate", "chosen", "window"] (sp_l_due K) := by
  refine T.F_l_due.ok sc_l_due (fun vs H Q E h => ?_) (fun cdv A outer s H vs Q E hr h => ?_)
  · obtain ⟨p, h', a, t, L, w, xs, ls, ns, g, b, rfl, _⟩ := h
    rfl
  · obtain ⟨p, h0, a, t, L, w, xs, ls, ns, g, b, rfl, hp, hL, hh, few, vsd, fw, ha, ok, hns, b0, b1, Lb, wb, q⟩ := h
    refine ⟨_, (pss_one (ps_ret (pe_call (ok_l_value_of T) (hr.mono (by decide)) (by rfl) T.g_l_value_of T.F_l_value_of.kp T.b_l_value_of .nil pass0 (pa_cons (pv 2) (pa_cons (pe_call (ok_l_readings T) (hr.mono (by decide)) (by rfl) T.g_l_readings T.F_l_readings.kp T.b_l_readings .nil pass0 (pa_cons (pv 0) (pa_cons (pv 1) (pa_cons (pv 3) (pa_cons (pv 4) pa_nil))))) pa_nil))))), ?_⟩
    refine ⟨.ref a, rfl, .ref p, rfl, .ref h0, rfl, .ref t, rfl, .int w, rfl, p, h0, t, L, w, xs, ls, ns, b, rfl, hp, hL, hh, few, vsd, hns, b0, b1, Lb, wb, fun H1 b zs s1 hb pm up => ?_⟩
    obtain rfl := srt_is pm up
    have lz := pm.length_eq
    have l2 := fw w ns
    exact ⟨a, b, g, _, rfl, s1 _ _ ha, hb, by omega, ok, fun H2 s2 => q H2 (s1.trans s2)⟩
end
def sp_l_moved (K : PySem.W.Frag) : Sp := fun vs H Q _ => ∃ (p h : Addr) (L k : Int) (xs : List V) (ls : List Lg), vs = [.ref p, .ref h, .int k] ∧ H p = some (.tup (.int L :: xs)) ∧ CMulX k L ∧ HistAt H h ls ∧ HistFew ls ∧
  ∀ (H' : Hp) (b : Addr) (lo : List Lg), Same H H' → HistAt H' b lo → Paired (Mov (k * L)) ls lo → Q (.ref b) H'
section
variable {P : Program} {w : World} {K : PySem.W.Frag} {mg : Str → Option Value} {base : Heap}
set_option pp.maxSteps 300 in
set_option maxHeartbeats 600000 in
theorem ok_l_moved (T : Ctx K mg) : FnOk P w K mg base CX0 1 T.f_l_moved T.fd_l_moved ["plan", "history", "windows"] (sp_l_moved K) := by
  refine T.F_l_moved.ok sc_l_moved (fun vs H Q E h => ?_) (fun cdv A outer s H vs Q E hr h => ?_)
  · obtain ⟨p, h', L, k, xs, ls, rfl, _⟩ := h
    rfl
  · obtain ⟨p, h0, L, k, xs, ls, rfl, hp, hm, ⟨gs, hh, hgs⟩, few, q⟩ := h
    refine ⟨_, (pss_cons (ps_set (i := 3) sc_l_moved.nd rfl (.inr rfl) (pe_op op_mulX (pv 2) (pe_ix ix_tup (pv 0) pe_int (fun _ _ => rfl))))
      (pss_cons (ps_set (i := 4) sc_l_moved.nd rfl (.inl rfl) (pe_lst pa_nil))
      (pss_cons (ps_for PassesOwn.never rfl (pi_tup (pv 1)) (pg_name (i := 5) sc_l_moved.nd rfl (.inr rfl))
        (pss_one (ps_expr (pe_bm PySem.F.plainAttrs_list PySem.F.slot_list_append PySem.F.type_list_append mt_append (pv 4) (pa_cons (pe_tup (pa_cons (pe_ix ix_tup (pv 5) pe_int (fun _ _ => rfl)) (pa_cons pe_int (pa_cons (pe_callTy call_tuple_of (by rfl) T.m_tuple (by decide +kernel) (pa_cons (pe_lc (own := [("slot", 6)]) (g := gName 6) (by rfl) sc_l_moved.nd (pi_tup (pe_ix ix_tup (pv 5) pe_int (fun _ _ => rfl))) (blkOk_by (own := [("slot", 6)]) (N := ["plan", "history", "windows", "later", "logs", "log", "slot"]) (sc := defScope s_l_moved) (by decide +kernel)) (fun _ _ _ _ _ => pg_name (i := 6) sc_l_moved.nd rfl (Or.inl rfl)) (fun _ _ _ _ _ => pts_nil) (fun _ _ _ _ _ => (pe_tup (pa_cons (pe_op op_add (pe_op op_add (pe_ix (show IxR _ (rIxT K) from ix_tup) (pv 6) pe_int (fun _ _ => rfl)) (pe_ix (show IxR _ (rIxT K) from ix_tup) (pv 5) pe_int (fun _ _ => rfl))) (pv 3)) (pa_cons (pe_ix (show IxR _ (rIxT K) from ix_tup) (pv 6) pe_int (fun _ _ => rfl)) pa_nil))))) pa_nil)) pa_nil)))) pa_nil)))))
      (pss_one (ps_ret (pe_callTy call_tuple_of (by rfl) T.m_tuple (by decide +kernel) (pa_cons (pv 4) pa_nil))))))), ?_⟩
    have big : (40000 : Nat) < sizeLine := by decide
    have gl : gs.length = ls.length := hgs.length
    have f1 := few.logs
    refine ⟨.int k, rfl, .ref p, rfl, p, _, 0, _, rfl, rfl, .inl (.inl hp), atI_nat (j := 0) rfl, _, _, rfl, rfl, hm, ?_⟩
    dsimp only
    generalize k * L = z0 at q
    refine ⟨small' (n := 0) (by decide), fun F nF => ?_⟩
    have s0 := same_new (o := .lst []) nF
    refine ⟨.ref h0, rfl, h0, rfl, ⟨_, .inl (.inl (s0 _ _ hh))⟩, for_tup (K := K) (a := h0) (xs := gs.map V.ref) (fun i σ H' => ∃ (y5 y6 : Option V) (os : List Addr) (lo : List Lg), σ = [some (.ref p), some (.ref h0), some (.int k), some (.int z0), some (.ref F), y5, y6] ∧ Same H H' ∧ H' F = some (.lst (os.map V.ref)) ∧ Paired (LgAt H') os lo ∧ Paired (Mov z0) (ls.take i) lo)
      ⟨none, none, [], [], rfl, s0, upd_same, .nil, by rw [List.take_zero]; exact .nil⟩ (fun i σ H' _ z => ?_) (fun i x σ H1 hx z => ?_) (fun σ H1 z => ?_)⟩
    · obtain ⟨_, _, _, _, _, s1, _⟩ := z
      exact .inl (.inl (s1 _ _ hh))
    · obtain ⟨y5, y6, os, lo, rfl, s1, hF, hos, hmv⟩ := z
      rw [List.getElem?_map] at hx
      obtain ⟨ga, hga, rfl⟩ := Option.map_eq_some_iff.mp hx
      have il := (List.getElem?_eq_some_iff.mp hga).1
      obtain ⟨g, hg, tt, ss, hat, htt, hss⟩ := lgs_at hgs hga
      have gm := List.mem_of_getElem? hg
      have sl := few.slots g gm
      have ol : os.length = i := by
        have a := hos.length
        have b := hmv.length
        rw [List.length_take] at b
        omega
      have hG : SqT K H1 ga [.str g.name, .int g.off, .ref tt] := .inl (.inl (s1 _ _ hat))
      refine ⟨.ref F, rfl, .inl ⟨rfl, _, .inl (.inl hF)⟩, .ref ga, rfl, ga, _, 0, _, rfl, rfl, hG, atI_nat (j := 0) rfl, .ref ga, rfl, ga, _, 2, _, rfl, rfl, hG, atI_nat (j := 2) rfl, tt, rfl, ⟨_, .inl (.inl (s1 _ _ htt))⟩, fun C nC => lc_tup (K := K) (a := tt) (xs := ss.map V.ref) (fun j H' => Same H1 H' ∧ ∃ us : List Addr, H' C = some (.lst (us.map V.ref)) ∧ Paired (SlAt H') us ((g.slots.take j).map (movS g.off z0))) ⟨same_new nC, [], upd_same, by rw [List.take_zero]; exact .nil⟩ (fun j H' _ z => .inl (.inl (z.1 _ _ (s1 _ _ htt)))) (fun j x H2 hx z => ?_) (fun H2 z => ?_)⟩
      · obtain ⟨s2, us, hC, hus⟩ := z
        rw [List.getElem?_map] at hx
        obtain ⟨sa, hsa0, rfl⟩ := Option.map_eq_some_iff.mp hx
        have hj := (List.getElem?_eq_some_iff.mp hsa0).1
        obtain ⟨s, hs, tv, hsa, htv⟩ := sls_at hss hsa0
        have s12 := s1.trans s2
        have ul : us.length ≤ 60 := by
          have := hus.length
          rw [List.length_map, List.length_take] at this
          omega
        have hS : SqT K H2 sa [.int s.stamp, .ref tv] := .inl (.inl (s12 _ _ hsa))
        refine ⟨rfl, .ref sa, rfl, sa, _, 0, _, rfl, rfl, hS, atI_nat (j := 0) rfl, .ref ga, rfl, ga, _, 1, _, rfl, rfl, .inl (.inl (s12 _ _ hat)), atI_nat (j := 1) rfl, _, _, rfl, rfl, .int z0, rfl, _, _, rfl, rfl, .ref sa, rfl, sa, _, 1, _, rfl, rfl, hS, atI_nat (j := 1) rfl, small' (n := 2) (by decide), fun sn nsn => ?_⟩
        have k4 := same_new (o := .tup [.int (s.stamp + g.off + z0), .ref tv]) nsn
        have hC4 := k4 _ _ hC
        refine ⟨_, hC4, by rw [List.length_map]; exact small (n := us.length) (by omega), same_keep (s2.trans k4) nC, us ++ [sn], by rw [upd_same, map_snoc], ?_⟩
        rw [List.take_add_one, hs, List.map_append]
        refine (sls_kept (KT.trans (Same.kt k4) (kt_lst hC4)) hus).snoc ?_
        exact SlAt.kept (kt_lst hC4) ⟨tv, upd_same, k4 _ _ (s12 _ _ htv)⟩
      · obtain ⟨s2, us, hC, hus⟩ := z
        rw [List.length_map, hss.length, List.take_length] at hus
        refine ⟨C, _, rfl, .inl ⟨.inl (.inl hC), fun ty nty => ⟨small' (n := 3) (by decide), fun gn ngn => ?_⟩⟩⟩
        have k3 := same_new (o := .tup (us.map V.ref)) nty
        have k4 := same_new (o := .tup [.str g.name, .int 0, .ref ty]) ngn
        have kk := (s2.trans k3).trans k4
        have hF4 := kk _ _ hF
        refine ⟨F, _, _, rfl, rfl, hF4, by rw [List.length_map]; exact small (n := os.length) (by omega), _, _, os ++ [gn], lo ++ [⟨g.name, 0, g.slots.map (movS g.off z0)⟩], rfl, same_keep (s1.trans kk) nF, by rw [upd_same, map_snoc], ?_, ?_⟩
        · refine (lgs_kept (KT.trans (Same.kt kk) (kt_lst hF4)) hos).snoc ?_
          exact LgAt.kept (kt_lst hF4) ⟨ty, us, upd_same, k4 _ _ upd_same, sls_kept (Same.kt (k3.trans k4)) hus⟩
        · exact paired_snoc_at hmv hg ⟨rfl, rfl, rfl⟩
    · obtain ⟨y5, y6, os, lo, rfl, s1, hF, hos, hmv⟩ := z
      rw [List.length_map, gl, List.take_length] at hmv
      exact ⟨.ref F, rfl, F, _, rfl, .inl ⟨.inl (.inl hF), fun b nb => q _ b lo (s1.trans (same_new nb)) ⟨os, upd_same, lgs_kept (Same.kt (same_new nb)) hos⟩ hmv⟩⟩
end
def sp_l_same_value (K : PySem.W.Frag) : Sp := fun vs H Q _ => ∃ (v : V), vs = [v, v] ∧ (v = .non ∨ ∃ k, v = .int k) ∧ Q (.bl true) H
section
variable {P : Program} {w : World} {K : PySem.W.Frag} {mg : Str → Option Value} {base : Heap}
theorem ok_l_same_value (T : Ctx K mg) : FnOk P w K mg base CX0 2 T.f_l_same_value T.fd_l_same_value ["actual", "due"] (sp_l_same_value K) := by
  refine T.F_l_same_value.ok sc_l_same_value (fun vs H Q E h => ?_) (fun cdv A outer s H vs Q E hr h => ?_)
  · obtain ⟨v, rfl, _⟩ := h
    rfl
  · obtain ⟨v, rfl, hv, q⟩ := h
    refine ⟨_, (pss_cons (ps_if (pt_cmpR op_isN (pv 1) pe_non (nomark _))
        (pss_one (ps_ret (pe_cmpR op_isN (pv 0) pe_non (nomark _))))
        pss_nil)
      (pss_one (ps_ret (pe_and (pe_call (ok_l_is_integer T) (hr.mono (by decide)) (by rfl) T.g_l_is_integer T.F_l_is_integer.kp T.b_l_is_integer .nil pass0 (pa_cons (pv 0) pa_nil)) (pe_one (pe_cmpR op_eq (pv 0) (pv 1) (nomark _))))))), ?_⟩
    rcases hv with rfl | ⟨k, rfl⟩
    · exact ⟨.non, rfl, rfl, _, rfl, iteT ⟨.non, rfl, rfl, q⟩⟩
    · refine ⟨.int k, rfl, rfl, _, rfl, iteF ⟨.int k, rfl, k, rfl, true, rfl, iteT ⟨.int k, rfl, .int k, rfl, rfl, ?_⟩⟩⟩
      show Q (.bl (decide (V.int k = V.int k))) H
      rw [decide_eq_true rfl]
      exact q
end
theorem lt_bits {z : Int} {n : Nat} (h : Builtin.Int.intBits z ≤ n) : z.natAbs < 2 ^ n := by
  by_cases e : z.natAbs = 0
  · rw [e]
    exact Nat.pow_pos (by decide)
  · have l : z.natAbs.log2 < n := by
      have ne : (z == 0) = false := beq_eq_false_iff_ne.mpr (by omega)
      unfold Builtin.Int.intBits at h
      rw [ne] at h
      have h' : z.natAbs.log2 + 1 ≤ n := h
      omega
    exact (Nat.log2_lt e).mp l
def shT (k : Int) (t : Tm) : Tm := ⟨t.f, t.cnt, t.ns, t.w + k⟩
def sp_law (K : PySem.W.Frag) : Sp := fun vs H Q _ => ∃ (a : Addr) (ns : List Int) (b : Nat), vs = [.ref a] ∧ SqL K H a (ns.map V.int) ∧ ns.length ≤ 63 ∧ b ≤ 1048576 ∧ 64 ≤ b ∧ (∀ z ∈ ns, z.natAbs < 2 ^ b) ∧ ∀ H', Q (.bl true) H'
section
variable {P : Program} {w : World} {K : PySem.W.Frag} {mg : Str → Option Value} {base : Heap}
set_option pp.maxSteps 300 in
set_option maxHeartbeats 8000000 in
theorem ok_law (T : Ctx K mg) (hN : base.NoSeer) (ht : P.given.tree = none) : FnOk P w K mg base CX0 38 T.f_law T.fd_law ["script"] (sp_law K) := by
  refine T.F_law.ok sc_law (fun vs H Q E h => ?_) (fun cdv A outer s H vs Q E hr h => ?_)
  · obtain ⟨a, ns, b, rfl, _⟩ := h
    rfl
  · obtain ⟨a, ns, b, rfl, hS, hlen, hb1, hb0, hbits, q⟩ := h
    refine ⟨_, (pss_cons (ps_set (i := 1) sc_law.nd rfl (.inr rfl) (pe_call (ok_l_draws T) (hr.mono (by decide)) (by rfl) T.g_l_draws T.F_l_draws.kp T.b_l_draws .nil pass0 (pa_cons (pv 0) (pa_cons pe_int pa_nil))))
      (pss_cons (ps_set (i := 2) sc_law.nd rfl (.inr rfl) (pe_call (ok_l_cell T) (hr.mono (by decide)) (by rfl) T.g_l_cell T.F_l_cell.kp T.b_l_cell .nil pass0 (pa_cons (pv 0) (pa_cons (pv 1) pa_nil))))
      (pss_cons (ps_set (i := 3) sc_law.nd rfl (.inr rfl) (pe_call (ok_l_plan T) (hr.mono (by decide)) (by rfl) T.g_l_plan T.F_l_plan.kp T.b_l_plan .nil pass0 (pa_cons (pv 1) (pa_cons (pv 2) pa_nil))))
      (pss_cons (ps_set (i := 4) sc_law.nd rfl (.inr rfl) (pe_call (ok_l_history T) (hr.mono (by decide)) (by rfl) T.g_l_history T.F_l_history.kp T.b_l_history .nil pass0 (pa_cons (pv 1) (pa_cons (pv 3) (pa_cons pe_int (pa_cons (pv 2) pa_nil))))))
      (pss_cons (ps_setLc (i := 5) (own := [("meter", 16)]) (g := gName 16) (by rfl) sc_law.nd rfl rfl (sw_true rfl rfl rfl (by decide +kernel)) (pi_tup (pe_ix ix_tup (pv 3) pe_int (fun _ _ => rfl))) (blkOk_by (own := [("meter", 16)]) (N := ["script", "draws", "cell", "plan", "history", "names", "later", "moved", "k", "aggregate", "chosen", "window", "due", "terms", "total", "shifted", "meter", "term"]) (sc := defScope s_law) (by decide +kernel)) (fun _ _ _ _ _ => pg_name (i := 16) sc_law.nd rfl (Or.inl rfl)) (fun _ _ _ _ _ => pts_nil) (fun _ _ _ _ _ => (pe_ix (show IxR _ (rIxT K) from ix_tup) (pv 16) pe_int (fun _ _ => rfl))))
      (pss_cons (ps_set (i := 6) sc_law.nd rfl (.inr rfl) (pe_ix ix_list (pe_lst (pa_cons pe_int (pa_cons pe_int (pa_cons (pe_un un_neg pe_int) (pa_cons (pv 2) pa_nil))))) (pe_call (ok_l_take T) (hr.mono (by decide)) (by rfl) T.g_l_take T.F_l_take.kp T.b_l_take .nil pass0 (pa_cons (pv 1) (pa_cons pe_int pa_nil))) (fun _ _ => rfl)))
      (pss_cons (ps_set (i := 7) sc_law.nd rfl (.inl rfl) (pe_call (ok_l_moved T) (hr.mono (by decide)) (by rfl) T.g_l_moved T.F_l_moved.kp T.b_l_moved .nil pass0 (pa_cons (pv 3) (pa_cons (pv 4) (pa_cons (pv 6) pa_nil)))))
      (pss_cons (ps_for PassesOwn.never rfl (pi_range1 (by rfl) T.m_range (pa_cons pe_int pa_nil)) (pg_name (i := 8) sc_law.nd rfl (.inl rfl))
        (pss_cons (ps_set (i := 9) sc_law.nd rfl (.inl rfl) (pe_call (ok_l_aggregate T) (hr.mono (by decide)) (by rfl) T.g_l_aggregate T.F_l_aggregate.kp T.b_l_aggregate .nil pass0 (pa_cons (pv 1) (pa_cons (pv 3) (pa_cons (pv 2) pa_nil)))))
      (pss_cons (ps_set (i := 10) sc_law.nd rfl (.inl rfl) (pe_call (ok_l_chosen T) (hr.mono (by decide)) (by rfl) T.g_l_chosen T.F_l_chosen.kp T.b_l_chosen .nil pass0 (pa_cons (pv 1) (pa_cons (pv 5) pa_nil))))
      (pss_cons (ps_set (i := 11) sc_law.nd rfl (.inl rfl) (pe_call (ok_l_window T hN ht) (hr.mono (by decide)) (by rfl) T.g_l_window T.F_l_window.kp T.b_l_window .nil pass0 (pa_cons (pv 1) (pa_cons (pv 3) (pa_cons (pv 4) (pa_cons (pv 2) pa_nil))))))
      (pss_cons (ps_set (i := 12) sc_law.nd rfl (.inl rfl) (pe_call (ok_l_due T) (hr.mono (by decide)) (by rfl) T.g_l_due T.F_l_due.kp T.b_l_due .nil pass0 (pa_cons (pv 3) (pa_cons (pv 4) (pa_cons (pv 9) (pa_cons (pv 10) (pa_cons (pv 11) pa_nil)))))))
      (pss_cons (ps_if (pt_not (pt_val (pe_call (ok_l_same_value T) (hr.mono (by decide)) (by rfl) T.g_l_same_value T.F_l_same_value.kp T.b_l_same_value .nil pass0 (pa_cons (pe_call (ok_plain_value T hN ht) (hr.mono (by decide)) (by rfl) T.g_plain_value T.F_plain_value.kp T.b_plain_value .nil pass0 (pa_cons (pv 3) (pa_cons (pv 4) (pa_cons (pv 9) (pa_cons (pv 10) (pa_cons (pv 11) pa_nil)))))) (pa_cons (pv 12) pa_nil)))))
        (pss_one (ps_ret pe_bl))
        pss_nil)
      (pss_one (ps_if (pt_not (pt_val (pe_call (ok_l_same_value T) (hr.mono (by decide)) (by rfl) T.g_l_same_value T.F_l_same_value.kp T.b_l_same_value .nil pass0 (pa_cons (pe_call (ok_plain_value T hN ht) (hr.mono (by decide)) (by rfl) T.g_plain_value T.F_plain_value.kp T.b_plain_value .nil pass0 (pa_cons (pv 3) (pa_cons (pv 7) (pa_cons (pv 9) (pa_cons (pv 10) (pa_cons (pe_op op_add (pv 11) (pv 6)) pa_nil)))))) (pa_cons (pv 12) pa_nil)))))
        (pss_one (ps_ret pe_bl))
        pss_nil))))))))
      (pss_cons (ps_setLc (i := 13) (own := [("k", 8)]) (g := gName 8) (by rfl) sc_law.nd rfl rfl (sw_true rfl rfl rfl (by decide +kernel)) (pi_range1 (by rfl) T.m_range (pa_cons (pe_call (ok_l_take T) (hr.mono (by decide)) (by rfl) T.g_l_take T.F_l_take.kp T.b_l_take .nil pass0 (pa_cons (pv 1) (pa_cons pe_int pa_nil))) pa_nil)) (blkOk_by (own := [("k", 8)]) (N := ["script", "draws", "cell", "plan", "history", "names", "later", "moved", "k", "aggregate", "chosen", "window", "due", "terms", "total", "shifted", "meter", "term"]) (sc := defScope s_law) (by decide +kernel)) (fun _ _ _ _ _ => pg_name (i := 8) sc_law.nd rfl (Or.inl rfl)) (fun _ _ _ _ _ => pts_nil) (fun _ _ _ _ _ => (pe_call (ok_l_term T hN ht) (hr.mono (by decide)) (by rfl) T.g_l_term T.F_l_term.kp T.b_l_term .nil pass0 (pa_cons (pv 1) (pa_cons (pv 3) (pa_cons (pv 4) (pa_cons (pv 2) pa_nil)))))))
      (pss_cons (ps_if (pt_cmpR op_eq (pe_call (ok_l_take T) (hr.mono (by decide)) (by rfl) T.g_l_take T.F_l_take.kp T.b_l_take .nil pass0 (pa_cons (pv 1) (pa_cons pe_int pa_nil))) pe_int (nomark _))
        (pss_one (ps_set (i := 13) sc_law.nd rfl (.inl rfl) (pe_op op_cat (pe_op op_rep (pv 13) pe_int) (pe_op op_rep (pe_slice sl_list (pv 13) po_none (po_some pe_int)) pe_int))))
        pss_nil)
      (pss_cons (ps_set (i := 14) sc_law.nd rfl (.inl rfl) (pe_callB (cr_sum rfl) (by rfl) T.m_sum (by decide +kernel) (pa_cons (pe_lc (own := [("term", 17)]) (g := gName 17) (by rfl) sc_law.nd (pi_list (pv 13)) (blkOk_by (own := [("term", 17)]) (N := ["script", "draws", "cell", "plan", "history", "names", "later", "moved", "k", "aggregate", "chosen", "window", "due", "terms", "total", "shifted", "meter", "term"]) (sc := defScope s_law) (by decide +kernel)) (fun _ _ _ _ _ => pg_name (i := 17) sc_law.nd rfl (Or.inl rfl)) (fun _ _ _ _ _ => pts_nil) (fun _ _ _ _ _ => (pe_op op_mulX (pe_ix (show IxR _ (rIxT K) from ix_tup) (pv 17) pe_int (fun _ _ => rfl)) (pe_call (ok_l_due T) (hr.mono (by decide)) (by rfl) T.g_l_due T.F_l_due.kp T.b_l_due .nil pass0 (pa_cons (pv 3) (pa_cons (pv 4) (pa_cons (pe_ix (show IxR _ (rIxT K) from ix_tup) (pv 17) pe_int (fun _ _ => rfl)) (pa_cons (pe_ix (show IxR _ (rIxT K) from ix_tup) (pv 17) pe_int (fun _ _ => rfl)) (pa_cons (pe_ix (show IxR _ (rIxT K) from ix_tup) (pv 17) pe_int (fun _ _ => rfl)) pa_nil))))))))) pa_nil)))
      (pss_cons (ps_if (pt_not (pt_val (pe_call (ok_l_same_value T) (hr.mono (by decide)) (by rfl) T.g_l_same_value T.F_l_same_value.kp T.b_l_same_value .nil pass0 (pa_cons (pe_call (ok_plain_balance T hN ht) (hr.mono (by decide)) (by rfl) T.g_plain_balance T.F_plain_balance.kp T.b_plain_balance .nil pass0 (pa_cons (pv 3) (pa_cons (pv 4) (pa_cons (pe_callTy call_tuple_of (by rfl) T.m_tuple (by decide +kernel) (pa_cons (pv 13) pa_nil)) pa_nil)))) (pa_cons (pv 14) pa_nil)))))
        (pss_one (ps_ret pe_bl))
        pss_nil)
      (pss_cons (ps_set (i := 15) sc_law.nd rfl (.inl rfl) (pe_callTy call_tuple_of (by rfl) T.m_tuple (by decide +kernel) (pa_cons (pe_lc (own := [("term", 17)]) (g := gName 17) (by rfl) sc_law.nd (pi_list (pv 13)) (blkOk_by (own := [("term", 17)]) (N := ["script", "draws", "cell", "plan", "history", "names", "later", "moved", "k", "aggregate", "chosen", "window", "due", "terms", "total", "shifted", "meter", "term"]) (sc := defScope s_law) (by decide +kernel)) (fun _ _ _ _ _ => pg_name (i := 17) sc_law.nd rfl (Or.inl rfl)) (fun _ _ _ _ _ => pts_nil) (fun _ _ _ _ _ => (pe_op (show OpR _ (binaryOp .Add) (TT.rCatT2 K) from TT.op_cat_t) (pe_slice (show SlR _ (TT.rSlT2 K) from TT.sl_t) (pv 17) po_none (po_some pe_int)) (pe_tup (pa_cons (pe_op op_add (pe_ix (show IxR _ (rIxT K) from ix_tup) (pv 17) pe_int (fun _ _ => rfl)) (pv 6)) pa_nil))))) pa_nil)))
      (pss_one (ps_ret (pe_and (pe_call (ok_l_same_value T) (hr.mono (by decide)) (by rfl) T.g_l_same_value T.F_l_same_value.kp T.b_l_same_value .nil pass0 (pa_cons (pe_call (ok_plain_balance T hN ht) (hr.mono (by decide)) (by rfl) T.g_plain_balance T.F_plain_balance.kp T.b_plain_balance .nil pass0 (pa_cons (pv 3) (pa_cons (pv 7) (pa_cons (pv 15) pa_nil)))) (pa_cons (pv 14) pa_nil))) (pe_one (pe_call (ok_l_same_value T) (hr.mono (by decide)) (by rfl) T.g_l_same_value T.F_l_same_value.kp T.b_l_same_value .nil pass0 (pa_cons (pe_call (ok_plain_balance T hN ht) (hr.mono (by decide)) (by rfl) T.g_plain_balance T.F_plain_balance.kp T.b_plain_balance .nil pass0 (pa_cons (pv 3) (pa_cons (pv 4) (pa_cons (pe_tup pa_nil) pa_nil)))) (pa_cons pe_int pa_nil)))))))))))))))))))), ?_⟩
    refine ⟨.ref a, rfl, a, ns, 620, rfl, hS, by omega, by decide, fun H1 d s1 nd hd => ?_⟩
    refine ⟨.ref a, rfl, .ref d, rfl, a, d, ns, rfl, fun H' r => r.script hS nd s1, hd, fun H2 cell r2 hc => ?_⟩
    have hcb : cell.natAbs < 2 ^ b := by
      rcases hc with e | m
      · rw [e]
        exact Nat.pow_pos (by decide)
      · exact hbits _ m
    have p6 : 2 ^ 11 ≤ 2 ^ b := Nat.pow_le_pow_right (by decide) (by omega)
    have p1 : 2 ^ (b + 1) = 2 ^ b * 2 := Nat.pow_succ 2 b
    refine ⟨.ref d, rfl, .int cell, rfl, d, cell, rfl, r2.at_, fun H3 p tm ts P r3 pa po iw => ?_⟩
    refine ⟨.ref d, rfl, .ref p, rfl, .int cell, rfl, d, p, tm, ts, P, 5, cell, rfl, r3.at_, pa, po, by decide, by decide, fun H4 h ls r4 hh hok => ?_⟩
    have few := hok.few (by have := po.few; omega)
    have vsd := hok.vsd
    have pa4 := r4.plan r3.at_ pa
    have tl : ts.length = P.ms.length := pa.low.length
    have pf := po.few
    -- names
    refine ⟨.ref p, rfl, p, _, 1, _, rfl, rfl, .inl (.inl pa4.top), atI_nat (j := 1) rfl, tm, rfl, ⟨_, .inl (.inl pa4.mid)⟩, fun C nC => lc_tup (K := K) (a := tm) (xs := ts.map V.ref) (fun i H' => Same H4 H' ∧ H' C = some (.lst (((P.ms.map Mt.name).take i).map V.str))) ⟨same_new nC, by rw [upd_same]; simp⟩ (fun i H' _ z => .inl (.inl (z.1 _ _ pa4.mid))) (fun i y H' hy z => ?_) (fun H5 z => ?_)⟩
    · obtain ⟨s1, hC⟩ := z
      rw [List.getElem?_map] at hy
      obtain ⟨t, hti, rfl⟩ := Option.map_eq_some_iff.mp hy
      have il := (List.getElem?_eq_some_iff.mp hti).1
      obtain ⟨m, hm, hat⟩ := mts_at pa4.low hti
      refine ⟨rfl, .ref t, rfl, t, _, 0, _, rfl, rfl, .inl (.inl (s1 _ _ hat)), atI_nat (j := 0) rfl, _, hC, ?_, same_keep s1 nC, ?_⟩
      · rw [List.length_map, List.length_take, List.length_map]
        exact small (by omega)
      · rw [upd_same, List.take_add_one, List.getElem?_map, hm, List.map_append]
        rfl
    obtain ⟨s5, hC⟩ := z
    rw [List.length_map, tl, ← List.length_map (f := Mt.name) (as := P.ms), List.take_length] at hC
    have r5 := (Dr.refl r4.at_).then s5
    have nCd : C ≠ d := (Dr.refl r4.at_).ne nC
    have hh5 := hh.kept (Same.kt s5)
    have top5 : H5 p = some (.tup [.int P.len, .ref tm]) := s5 _ _ pa4.top
    have nne : P.ms.map Mt.name ≠ [] := fun z => po.some_ (List.map_eq_nil_iff.mp z)
    have nlen : (P.ms.map Mt.name).length ≤ 6 := by rw [List.length_map]; exact pf
    have fw : RdFew P.len ls := hok.rdFew pf
    have lfew := few.logs
    have hL := po.len
    have hLB := po.lenB
    have pa5 := pa4.same s5
    have dr5 : DrA H5 d := r5.at_
    have hsm : ∀ {w : Int}, NearW P.len cell w ls → w.natAbs < 2 ^ (b + 1) := fun z => by
      have := z.small po hok
      omega
    have Lb : P.len.natAbs < 2 ^ (b + 1) := by omega
    generalize P.ms.map Mt.name = names at hC nne nlen
    have nl0 : 0 < names.length := List.length_pos_iff.mpr nne
    -- later
    refine ⟨_, rfl, .int cell, rfl, small' (n := 4) (by decide), fun E nE => ?_⟩
    have kE := same_new (o := .lst [.int 0, .int 1, .int (-3), .int cell]) nE
    have nEd := r5.ne nE
    have rE := (Dr.refl dr5).then kE
    refine ⟨.ref d, rfl, d, _, rfl, rE.at_, by decide, fun H6 x r6 x0 x1 => ?_⟩
    have hE6 : H6 E = some (.lst (([0, 1, -3, cell] : List Int).map V.int)) := r6.keep _ _ nEd upd_same
    obtain ⟨later, lm, la⟩ := pickI (xs := [0, 1, -3, cell]) (k := x) rfl x0 (by show x < 4; omega)
    have lB : later.natAbs < 2 ^ (b + 1) := by
      simp only [List.mem_cons, List.not_mem_nil, or_false] at lm
      omega
    refine ⟨E, _, x, _, rfl, rfl, .inl (.inl hE6), la, ?_⟩
    have r56 := rE.trans r6
    have k56 := r56.kt dr5
    have pa6 := r56.plan dr5 pa5
    have hC6 := r56.keep _ _ nCd hC
    have hh6 := hh5.kept k56
    -- moved
    refine ⟨.ref p, rfl, .ref h, rfl, .int later, rfl, p, h, P.len, later, _, ls, rfl, pa6.top, mulX lB Lb (by omega) (by omega) (by omega), hh6, few, fun H7 mo lo s7 hmo hmov => ?_⟩
    have pa7 := pa6.same s7
    have hC7 := s7 _ _ hC6
    have hh7 := hh6.kept (Same.kt s7)
    have dr7 : DrA H7 d := (r6.then s7).at_
    have molen := hmov.length
    have fewL : HistFew lo := by
      refine ⟨by rw [← molen]; exact few.logs, fun o ho => ?_, fun o ho s hs => ?_⟩
      · obtain ⟨g, hg, e1, e2, e3⟩ := paired_mem hmov o ho
        rw [e3, List.length_map]
        exact few.slots g hg
      · obtain ⟨g, hg, e1, e2, e3⟩ := paired_mem hmov o ho
        rw [e3] at hs
        obtain ⟨s', hs', rfl⟩ := List.mem_map.mp hs
        exact few.vers g hg s' hs'
    have vsdL : Vsd lo := fun o ho s hs => by
      obtain ⟨g, hg, e1, e2, e3⟩ := paired_mem hmov o ho
      rw [e3] at hs
      obtain ⟨s', hs', rfl⟩ := List.mem_map.mp hs
      exact vsd g hg s' hs'
    have fwL : RdFew P.len lo := fun w ns => by
      rw [mov_rd' hL hmov]
      exact fw _ _
    have vmov : ∀ (w : Int) (ns : List Str) (g : Ag), valP P.len (w + later) ns lo g = valP P.len w ns ls g := fun w ns g => by
      unfold valP
      rw [mov_rd hL hmov]
    have tmov : ∀ t : Tm, tmv P.len lo (shT later t) = tmv P.len ls t := fun t => by
      unfold tmv shT
      dsimp only
      rw [mov_rd hL hmov]
    have p67 : 2 ^ 67 ≤ 2 ^ (b + 3) := Nat.pow_le_pow_right (by decide) (by omega)
    have p3 : 2 ^ (b + 3) = 2 ^ b * 8 := Nat.pow_add 2 b 3
    have p15 : 2 ^ (b + 15) = 2 ^ b * 2 ^ 15 := Nat.pow_add 2 b 15
    have p20 : (10 : Nat) ^ 20 < 2 ^ 67 := by decide
    have vB : ∀ t : Tm, (tmv P.len ls t).natAbs < 2 ^ (b + 15) := fun t => by
      have := tmv_bound fw (fun w ns => rd_bound (L := P.len) (w := w) (ns := ns) hok po) (by omega) t
      omega
    have cm : ∀ t : Tm, t.f.natAbs ≤ cell.natAbs + 3 → CMulX t.f (tmv P.len ls t) := fun t ht => mulX (a := b + 1) (b := b + 15) (by omega) (vB t) (by omega) (by omega) (by omega)
    have isV : ∀ (w : Int) (ns : List Str) (g : Ag), g.Ok → valP P.len w ns ls g = .non ∨ ∃ k, valP P.len w ns ls g = .int k := fun w ns g ok => valOf_is ok
    have nem := po.some_
    have big : (40000 : Nat) < sizeLine := by decide
    -- three questions
    refine ⟨3, rfl, by decide, by decide, for_range (lo := 0) (n := 3) (fun i σ H' => ∃ y8 y9 y10 y11 y12 y13 y14 y15 y16 y17 : Option V, σ = [some (.ref a), some (.ref d), some (.int cell), some (.ref p), some (.ref h), some (.ref C), some (.int later), some (.ref mo), y8, y9, y10, y11, y12, y13, y14, y15, y16, y17] ∧ Dr d H7 H') ⟨_, _, _, _, _, _, _, _, _, _, rfl, Dr.refl dr7⟩ (fun i σ H8 hi hp => ?_) (fun σ H8 hp => ?_)⟩
    · obtain ⟨y8, y9, y10, y11, y12, y13, y14, y15, y16, y17, rfl, r8⟩ := hp
      have pa8 := r8.plan dr7 pa7
      refine ⟨.ref d, rfl, .ref p, rfl, .int cell, rfl, d, p, tm, ts, P, cell, rfl, r8.at_, pa8, nem, by omega, fun H9 ta g r9 hta gok => ?_⟩
      have r89 := r8.trans r9
      refine ⟨.ref d, rfl, .ref C, rfl, d, C, names, rfl, r9.at_, nCd, r89.keep _ _ nCd hC7, nne, by omega, fun HA tc cs rA htc => ?_⟩
      have r8A := r89.trans rA
      refine ⟨.ref d, rfl, .ref p, rfl, .ref h, rfl, .int cell, rfl, d, p, h, P.len, cell, _, ls, rfl, rA.at_, (r8A.plan dr7 pa7).top, hL, hh7.kept (r8A.kt dr7), few, fun HB w rB nw => ?_⟩
      have r8B := r8A.trans rB
      have k8B := r8B.kt dr7
      have paB := r8B.plan dr7 pa7
      have htaB := rB.kt rA.at_ _ _ (rA.kt r9.at_ _ _ hta)
      have htcB := rB.kt rA.at_ _ _ htc
      refine ⟨.ref p, rfl, .ref h, rfl, .ref ta, rfl, .ref tc, rfl, .int w, rfl, p, h, ta, tc, P.len, w, _, ls, cs, g, b + 1, rfl, paB.top, hL, hh7.kept k8B, few, vsd, fw, htaB, gok, htcB, by omega, by omega, Lb, hsm nw, fun HC sC => ?_⟩
      refine ⟨.ref p, rfl, .ref h, rfl, .ref ta, rfl, .ref tc, rfl, .int w, rfl, p, h, ta, tc, P.len, w, _, ls, cs, g, rfl, sC _ _ paB.top, hL, (hh7.kept k8B).kept (Same.kt sC), few, vsd, fw, sC _ _ htaB, gok, sC _ _ htcB, fun HD sD => ?_⟩
      refine ⟨_, rfl, _, rfl, isV w cs g gok, true, rfl, iteF ?_⟩
      have sCD := sC.trans sD
      refine ⟨.ref p, rfl, .ref mo, rfl, .ref ta, rfl, .ref tc, rfl, .int w, rfl, .int later, rfl, _, _, rfl, rfl, p, mo, ta, tc, P.len, w + later, _, lo, cs, g, rfl, sCD _ _ paB.top, hL, (hmo.kept k8B).kept (Same.kt sCD), fewL, vsdL, fwL, sCD _ _ htaB, gok, sCD _ _ htcB, fun HE sE => ?_⟩
      rw [vmov]
      exact ⟨_, rfl, _, rfl, isV w cs g gok, true, rfl, iteF ⟨_, _, _, _, _, _, _, _, _, _, rfl, r8B.then (sCD.trans sE)⟩⟩
    obtain ⟨y8, y9, y10, y11, y12, y13, y14, y15, y16, y17, rfl, r8⟩ := hp
    have pa8 := r8.plan dr7 pa7
    have hh8 := hh7.kept (r8.kt dr7)
    have hmo8 := hmo.kept (r8.kt dr7)
    have dr8 : DrA H8 d := r8.at_
    -- terms
    refine ⟨.ref d, rfl, d, _, rfl, dr8, by decide, fun H9 n r9 n0 n1 => ⟨n, rfl, by omega, by omega, fun G nG => ?_⟩⟩
    have nGd : G ≠ d := r9.ne nG
    have nG8 : H8 G = none := r9.free dr8 nG
    refine lc_range (lo := 0) (n := n.toNat) (fun i H' => Dr d H8 H' ∧ ∃ as : List Addr, H' G = some (.lst (as.map V.ref)) ∧ as.length = i ∧ ∀ a ∈ as, ∃ t, TmAt H' a t ∧ t.f.natAbs ≤ cell.natAbs + 3 ∧ NearW P.len cell t.w ls) ⟨r9.then (same_new nG), [], upd_same, rfl, fun _ z => nomatch z⟩ (fun i HA hi z => ?_) (fun HA z => ?_)
    · obtain ⟨rA, as, hG, al, good⟩ := z
      refine ⟨rfl, .ref d, rfl, .ref p, rfl, .ref h, rfl, .int cell, rfl, d, p, h, tm, ts, P, cell, ls, rfl, rA.at_, rA.plan dr8 pa8, nem, pf, hL, hh8.kept (rA.kt dr8), few, fun HB ta t rB htt fB nw => ?_⟩
      have hGB := rB.keep _ _ nGd hG
      refine ⟨_, hGB, by rw [List.length_map]; exact small (n := as.length) (by omega), (rA.trans rB).keepNew nGd nG8, as ++ [ta], by rw [upd_same, map_snoc], by rw [List.length_append, al]; rfl, fun x hx => ?_⟩
      rcases List.mem_append.mp hx with m | m
      · obtain ⟨t', h1, h2⟩ := good x m
        exact ⟨t', (h1.kept (rB.kt rA.at_)).kept (kt_lst hGB), h2⟩
      · rw [List.mem_singleton.mp m]
        exact ⟨t, htt.kept (kt_lst hGB), fB, nw⟩
    obtain ⟨rA, as, hG, al, good⟩ := z
    have al5 : as.length ≤ 5 := by omega
    refine ⟨.ref d, rfl, d, _, rfl, rA.at_, by decide, fun HB z rB z0 z1 => ⟨rfl, _, rfl, ite2 (fun e => ?c1) (fun e => ?c2)⟩⟩
    case' c1 =>
      have hGB := rB.keep _ _ nGd hG
      have rep : ∀ (k : Nat) (xs : List Addr), (List.replicate k (xs.map V.ref)).flatten = ((List.replicate k xs).flatten).map V.ref := fun k xs => by rw [List.map_flatten, List.map_replicate]
      have replen : ∀ (k : Nat) (xs : List Addr), ((List.replicate k xs).flatten).length = k * xs.length := fun k xs => by
        rw [List.length_flatten, List.map_replicate, List.sum_replicate_nat]
      refine ⟨.ref G, rfl, G, 3, _, rfl, rfl, hGB, by decide, by decide, by rw [List.length_map]; show as.length * 3 ≤ _; omega, fun R1 nR1 => ?_⟩
      have k1 := same_new (o := .lst (List.replicate (3 : Int).toNat (as.map V.ref)).flatten) nR1
      refine ⟨.ref G, rfl, 1, rfl, G, _, rfl, .inl (.inl (k1 _ _ hGB)), fun R2 nR2 => ?_⟩
      have k2 := same_new (o := .lst (cutV (as.map V.ref) none (some 1))) nR2
      have cl := cutV_length (as.map V.ref) none (some 1)
      rw [List.length_map] at cl
      refine ⟨R2, 28, _, rfl, rfl, upd_same, by decide, by decide, by show _ * 28 ≤ _; omega, fun R3 nR3 => ?_⟩
      have k3 := same_new (o := .lst (List.replicate (28 : Int).toNat (cutV (as.map V.ref) none (some 1))).flatten) nR3
      have ec : cutV (as.map V.ref) none (some 1) = (as.take 1).map V.ref := (cutV_to (as.map V.ref) 1).trans (List.map_take ..).symm
      have l1 : (List.replicate (3 : Int).toNat (as.map V.ref)).flatten.length ≤ 15 := by
        rw [rep, List.length_map, replen]
        show 3 * as.length ≤ 15
        omega
      have l2 : (List.replicate (28 : Int).toNat (cutV (as.map V.ref) none (some 1))).flatten.length ≤ 28 := by
        rw [ec, rep, List.length_map, replen, List.length_take]
        show 28 * min 1 as.length ≤ 28
        omega
      refine ⟨R1, R3, _, _, rfl, rfl, k3 _ _ (k2 _ _ upd_same), upd_same, by omega, fun G' nG' => ?_⟩
      have k4 := same_new (o := .lst ((List.replicate (3 : Int).toNat (as.map V.ref)).flatten ++ (List.replicate (28 : Int).toNat (cutV (as.map V.ref) none (some 1))).flatten)) nG'
      have sX := ((k1.trans k2).trans k3).trans k4
      have rX := (rA.trans rB).then sX
      have eL : (List.replicate (3 : Int).toNat (as.map V.ref)).flatten ++ (List.replicate (28 : Int).toNat (cutV (as.map V.ref) none (some 1))).flatten = ((List.replicate 3 as).flatten ++ (List.replicate 28 (as.take 1)).flatten).map V.ref := by
        rw [ec, rep, rep, List.map_append]
        rfl
      have hX : upd (upd (upd (upd HB R1 (.lst (List.replicate (3 : Int).toNat (as.map V.ref)).flatten)) R2 (.lst (cutV (as.map V.ref) none (some 1)))) R3 (.lst (List.replicate (28 : Int).toNat (cutV (as.map V.ref) none (some 1))).flatten)) G' (.lst ((List.replicate (3 : Int).toNat (as.map V.ref)).flatten ++ (List.replicate (28 : Int).toNat (cutV (as.map V.ref) none (some 1))).flatten)) G' = some (.lst (((List.replicate 3 as).flatten ++ (List.replicate 28 (as.take 1)).flatten).map V.ref)) := by rw [upd_same, eL]
      have lX : ((List.replicate 3 as).flatten ++ (List.replicate 28 (as.take 1)).flatten).length ≤ 1000 := by
        rw [List.length_append, replen, replen, List.length_take]
        omega
      have gX : ∀ x ∈ (List.replicate 3 as).flatten ++ (List.replicate 28 (as.take 1)).flatten, x ∈ as := fun x hx => by
        rcases List.mem_append.mp hx with m | m
        · obtain ⟨l, hl, hx⟩ := List.mem_flatten.mp m
          rw [(List.mem_replicate.mp hl).2] at hx
          exact hx
        · obtain ⟨l, hl, hx⟩ := List.mem_flatten.mp m
          rw [(List.mem_replicate.mp hl).2] at hx
          exact List.mem_of_mem_take hx
      have goodX := fun x hx => let ⟨t, h1, h2⟩ := good x (gX x hx); (⟨t, (h1.kept (rB.kt rA.at_)).kept (Same.kt sX), h2⟩ : ∃ t, TmAt _ x t ∧ t.f.natAbs ≤ cell.natAbs + 3 ∧ NearW P.len cell t.w ls)
      clear k4 sX eL nG' l1 l2 ec cl
      generalize upd (upd (upd (upd HB R1 (.lst (List.replicate (3 : Int).toNat (as.map V.ref)).flatten)) R2 (.lst (cutV (as.map V.ref) none (some 1)))) R3 (.lst (List.replicate (28 : Int).toNat (cutV (as.map V.ref) none (some 1))).flatten)) G' (.lst ((List.replicate (3 : Int).toNat (as.map V.ref)).flatten ++ (List.replicate (28 : Int).toNat (cutV (as.map V.ref) none (some 1))).flatten)) = HX at rX hX goodX ⊢
      generalize (List.replicate 3 as).flatten ++ (List.replicate 28 (as.take 1)).flatten = bs at hX lX goodX
    case' c2 =>
      obtain ⟨G', eG⟩ : ∃ G', G' = G := ⟨_, rfl⟩
      obtain ⟨HX, eH⟩ : ∃ HX, HX = HB := ⟨_, rfl⟩
      have rX : Dr d H8 HX := by rw [eH]; exact rA.trans rB
      obtain ⟨bs, hX, lX, goodX⟩ : ∃ bs : List Addr, HX G' = some (.lst (bs.map V.ref)) ∧ bs.length ≤ 1000 ∧ ∀ x ∈ bs, ∃ t, TmAt HX x t ∧ t.f.natAbs ≤ cell.natAbs + 3 ∧ NearW P.len cell t.w ls := by
        refine ⟨as, by rw [eH, eG]; exact rB.keep _ _ nGd hG, by omega, fun x hx => ?_⟩
        obtain ⟨t, h1, h2⟩ := good x hx
        exact ⟨t, by rw [eH]; exact h1.kept (rB.kt rA.at_), h2⟩
      rw [← eH, ← eG]
    all_goals (
      obtain ⟨tms, hts, gts⟩ := paired_of bs goodX
      have tl2 := hts.length
      have kX := rX.kt dr8
      have paX := rX.plan dr8 pa8
      have hhX := hh8.kept kX
      have hmoX := hmo8.kept kX
      -- total
      refine ⟨.ref G', rfl, G', rfl, ⟨_, .inl (.inl hX)⟩, fun C3 nC3 => lc_list (K := K) (a := G') (xs := bs.map V.ref) (fun i H' => Same HX H' ∧ H' C3 = some (.lst (((tms.take i).map fun t => t.f * tmv P.len ls t).map V.int))) ⟨same_new nC3, by rw [upd_same, List.take_zero]; rfl⟩ (fun i H' _ z => .inl (.inl (z.1 _ _ hX))) (fun i x HY hx z => ?_) (fun HY z => ?_)⟩
      · obtain ⟨sY, hC3⟩ := z
        rw [List.getElem?_map] at hx
        obtain ⟨ta, hta, rfl⟩ := Option.map_eq_some_iff.mp hx
        have il := (List.getElem?_eq_some_iff.mp hta).1
        obtain ⟨t, hti, ga, na, g1, g2, g3⟩ := tms_at hts hta
        have tmm := List.mem_of_getElem? hti
        have hS : SqT K HY ta [.int t.f, .ref ga, .ref na, .int t.w] := .inl (.inl (sY _ _ g1))
        obtain ⟨gf, gw⟩ := gts t tmm
        refine ⟨rfl, .ref ta, rfl, ta, _, 0, _, rfl, rfl, hS, atI_nat (j := 0) rfl, .ref p, rfl, .ref h, rfl, .ref ta, rfl, ta, _, 1, _, rfl, rfl, hS, atI_nat (j := 1) rfl, .ref ta, rfl, ta, _, 2, _, rfl, rfl, hS, atI_nat (j := 2) rfl, .ref ta, rfl, ta, _, 3, _, rfl, rfl, hS, atI_nat (j := 3) rfl, p, h, ga, na, P.len, t.w, _, ls, t.ns, t.ag, b + 1, rfl, sY _ _ paX.top, hL, hhX.kept (Same.kt sY), few, vsd, fw, sY _ _ g2, t.agOk, sY _ _ g3, by omega, by omega, Lb, hsm gw, fun HZ sZ => ?_⟩
        rw [valP_tm]
        refine ⟨_, _, rfl, rfl, cm t gf, _, sZ _ _ hC3, by rw [List.length_map, List.length_map, List.length_take]; omega, same_keep (sY.trans sZ) nC3, ?_⟩
        rw [upd_same, sumf_snoc hti, List.map_append (l₂ := [t.f * tmv P.len ls t])]
        rfl
      obtain ⟨sY, hC3⟩ := z
      rw [List.length_map, tl2, List.take_length] at hC3
      refine ⟨C3, _, rfl, .inl (.inl hC3), ?_⟩
      have hGY := sY _ _ hX
      -- plain_balance
      refine ⟨.ref p, rfl, .ref h, rfl, .ref G', rfl, G', _, rfl, .inl ⟨.inl (.inl hGY), fun tb ntb => ?_⟩⟩
      have kb := same_new (o := .tup (bs.map V.ref)) ntb
      have sYb := sY.trans kb
      refine ⟨p, h, tb, P.len, _, ls, bs, tms, rfl, sYb _ _ paX.top, hL, hhX.kept (Same.kt sYb), few, vsd, fw, upd_same, tms_kept (Same.kt sYb) hts, by omega, fun t ht => cm t (gts t ht).1, fun HZ sZ => ?_⟩
      refine ⟨_, rfl, _, rfl, .inr ⟨_, rfl⟩, true, rfl, iteF ?_⟩
      have sXZ := sYb.trans sZ
      have hGZ := sXZ _ _ hX
      -- shifted
      refine ⟨.ref G', rfl, G', rfl, ⟨_, .inl (.inl hGZ)⟩, fun C4 nC4 => lc_list (K := K) (a := G') (xs := bs.map V.ref) (fun i H' => Same HZ H' ∧ ∃ cs : List Addr, H' C4 = some (.lst (cs.map V.ref)) ∧ Paired (TmAt H') cs ((tms.take i).map (shT later))) ⟨same_new nC4, [], upd_same, by rw [List.take_zero]; exact .nil⟩ (fun i H' _ z => .inl (.inl (z.1 _ _ hGZ))) (fun i x HU hx z => ?_) (fun HU z => ?_)⟩
      · obtain ⟨sU, cs, hC4, hcs⟩ := z
        rw [List.getElem?_map] at hx
        obtain ⟨ta, hta, rfl⟩ := Option.map_eq_some_iff.mp hx
        have il := (List.getElem?_eq_some_iff.mp hta).1
        obtain ⟨t, hti, ga, na, g1, g2, g3⟩ := tms_at hts hta
        have sXU := sXZ.trans sU
        have cl : cs.length ≤ 1000 := by
          have := hcs.length
          rw [List.length_map, List.length_take] at this
          omega
        refine ⟨rfl, .ref ta, rfl, 3, rfl, ta, _, rfl, sXU _ _ g1, fun q1 HV sV hq1 => ?_⟩
        have hq1' : HV q1 = some (.tup [.int t.f, .ref ga, .ref na]) := hq1
        have sXV := sXU.trans sV
        refine ⟨.ref ta, rfl, ta, _, 3, _, rfl, rfl, .inl (.inl (sXV _ _ g1)), atI_nat (j := 3) rfl, .int later, rfl, _, _, rfl, rfl, small' (n := 1) (by decide), fun t1 n1 => ?_⟩
        have k1 := same_new (o := .tup [.int (t.w + later)]) n1
        refine ⟨q1, t1, _, _, rfl, rfl, k1 _ _ hq1', upd_same, small' (n := 4) (by decide), fun ta' HW sW hta' => ?_⟩
        have sA := (sV.trans k1).trans sW
        have hC4' := sA _ _ hC4
        refine ⟨_, hC4', by rw [List.length_map]; omega, same_keep (sU.trans sA) nC4, cs ++ [ta'], by rw [upd_same, map_snoc], ?_⟩
        rw [List.take_add_one, hti, List.map_append]
        refine (tms_kept (KT.trans (Same.kt sA) (kt_lst hC4')) hcs).snoc ?_
        have kA := KT.trans (Same.kt (sXU.trans sA)) (kt_lst (ys := cs.map V.ref ++ [.ref ta']) hC4')
        exact ⟨ga, na, kt_lst hC4' _ _ hta', kA _ _ g2, kA _ _ g3⟩
      obtain ⟨sU, cs, hC4, hcs⟩ := z
      rw [List.length_map, tl2, List.take_length] at hcs
      refine ⟨C4, _, rfl, .inl ⟨.inl (.inl hC4), fun tb2 ntb2 => ?_⟩⟩
      have kb2 := same_new (o := .tup (cs.map V.ref)) ntb2
      have sXV := (sXZ.trans sU).trans kb2
      refine ⟨.ref p, rfl, .ref mo, rfl, .ref tb2, rfl, p, mo, tb2, P.len, _, lo, cs, tms.map (shT later), rfl, sXV _ _ paX.top, hL, hmoX.kept (Same.kt sXV), fewL, vsdL, fwL, upd_same, tms_kept (Same.kt kb2) hcs, by rw [List.length_map]; omega, fun t' ht' => ?_, fun HW sW => ?_⟩
      · obtain ⟨t, ht, rfl⟩ := List.mem_map.mp ht'
        rw [tmov]
        exact cm t (gts t ht).1
      have es : ((tms.map (shT later)).map fun t => t.f * tmv P.len lo t) = tms.map fun t => t.f * tmv P.len ls t := by
        rw [List.map_map]
        refine List.map_congr_left fun t _ => ?_
        show t.f * tmv P.len lo (shT later t) = _
        rw [tmov]
      rw [es]
      refine ⟨_, rfl, _, rfl, .inr ⟨_, rfl⟩, true, rfl, iteT ?_⟩
      refine ⟨.ref p, rfl, .ref h, rfl, small' (n := 0) (by decide), fun te nte => ?_⟩
      have ke := same_new (o := .tup []) nte
      have sXW := (sXV.trans sW).trans ke
      exact ⟨p, h, te, P.len, _, ls, [], [], rfl, sXW _ _ paX.top, hL, hhX.kept (Same.kt sXW), few, vsd, fw, upd_same, .nil, by decide, (fun _ z => nomatch z), fun HF sF => ⟨_, rfl, .inr ⟨_, rfl⟩, q _⟩⟩)
end
theorem all_mk {l : PySem.W.OpenLaw} {w : World} {K : PySem.W.Frag} {h : Heap} {mg : Str → Option Value} {fa : Addr} (X : K.In h) (G : h.Ns mainGlobals mg) (hfa : mg "law" = some (.ref fa)) (hgt : l.prog.given.tree = none)
    {f1 : Addr} {od1 an1 : Option Addr} {sl1 : Array (Option Value)} {oc1 kV1 dc1 pm1 cd1 ct1 : Value}
    {f2 : Addr} {od2 an2 : Option Addr} {sl2 : Array (Option Value)} {oc2 kV2 dc2 pm2 cd2 ct2 : Value}
    {f3 : Addr} {od3 an3 : Option Addr} {sl3 : Array (Option Value)} {oc3 kV3 dc3 pm3 cd3 ct3 : Value}
    {f4 : Addr} {od4 an4 : Option Addr} {sl4 : Array (Option Value)} {oc4 kV4 dc4 pm4 cd4 ct4 : Value}
    {f5 : Addr} {od5 an5 : Option Addr} {sl5 : Array (Option Value)} {oc5 kV5 dc5 pm5 cd5 ct5 : Value}
    {f6 : Addr} {od6 an6 : Option Addr} {sl6 : Array (Option Value)} {oc6 kV6 dc6 pm6 cd6 ct6 : Value}
    {f7 : Addr} {od7 an7 : Option Addr} {sl7 : Array (Option Value)} {oc7 kV7 dc7 pm7 cd7 ct7 : Value}
    {f8 : Addr} {od8 an8 : Option Addr} {sl8 : Array (Option Value)} {oc8 kV8 dc8 pm8 cd8 ct8 : Value}
    {f9 : Addr} {od9 an9 : Option Addr} {sl9 : Array (Option Value)} {oc9 kV9 dc9 pm9 cd9 ct9 : Value}
    {f10 : Addr} {od10 an10 : Option Addr} {sl10 : Array (Option Value)} {oc10 kV10 dc10 pm10 cd10 ct10 : Value}
    {f11 : Addr} {od11 an11 : Option Addr} {sl11 : Array (Option Value)} {oc11 kV11 dc11 pm11 cd11 ct11 : Value}
    {f12 : Addr} {od12 an12 : Option Addr} {sl12 : Array (Option Value)} {oc12 kV12 dc12 pm12 cd12 ct12 : Value}
    {f13 : Addr} {od13 an13 : Option Addr} {sl13 : Array (Option Value)} {oc13 kV13 dc13 pm13 cd13 ct13 : Value}
    {f14 : Addr} {od14 an14 : Option Addr} {sl14 : Array (Option Value)} {oc14 kV14 dc14 pm14 cd14 ct14 : Value}
    {f15 : Addr} {od15 an15 : Option Addr} {sl15 : Array (Option Value)} {oc15 kV15 dc15 pm15 cd15 ct15 : Value}
    {f16 : Addr} {od16 an16 : Option Addr} {sl16 : Array (Option Value)} {oc16 kV16 dc16 pm16 cd16 ct16 : Value}
    {f17 : Addr} {od17 an17 : Option Addr} {sl17 : Array (Option Value)} {oc17 kV17 dc17 pm17 cd17 ct17 : Value}
    {f18 : Addr} {od18 an18 : Option Addr} {sl18 : Array (Option Value)} {oc18 kV18 dc18 pm18 cd18 ct18 : Value}
    {f19 : Addr} {od19 an19 : Option Addr} {sl19 : Array (Option Value)} {oc19 kV19 dc19 pm19 cd19 ct19 : Value}
    {f20 : Addr} {od20 an20 : Option Addr} {sl20 : Array (Option Value)} {oc20 kV20 dc20 pm20 cd20 ct20 : Value}
    {f21 : Addr} {od21 an21 : Option Addr} {sl21 : Array (Option Value)} {oc21 kV21 dc21 pm21 cd21 ct21 : Value}
    {f22 : Addr} {od22 an22 : Option Addr} {sl22 : Array (Option Value)} {oc22 kV22 dc22 pm22 cd22 ct22 : Value}
    {f23 : Addr} {od23 an23 : Option Addr} {sl23 : Array (Option Value)} {oc23 kV23 dc23 pm23 cd23 ct23 : Value}
    {f24 : Addr} {od24 an24 : Option Addr} {sl24 : Array (Option Value)} {oc24 kV24 dc24 pm24 cd24 ct24 : Value}
    {f25 : Addr} {od25 an25 : Option Addr} {sl25 : Array (Option Value)} {oc25 kV25 dc25 pm25 cd25 ct25 : Value}
    {f26 : Addr} {od26 an26 : Option Addr} {sl26 : Array (Option Value)} {oc26 kV26 dc26 pm26 cd26 ct26 : Value}
    {f27 : Addr} {od27 an27 : Option Addr} {sl27 : Array (Option Value)} {oc27 kV27 dc27 pm27 cd27 ct27 : Value}
    (a1 : PySem.W.nsIn K mainGlobals "window_of" = some (some (.ref f1))) (l1 : K.lookup f1 = some ⟨oc1, od1, .func (PySem.W.fnOf "window_of" "window_of" (defArgs s_window_of) (defBody s_window_of) (defScope s_window_of) .none kV1 dc1 pm1 an1 cd1 ct1), sl1⟩) (c1 : PySem.W.codeIn K cd1 "window_of" = true) (k1 : PySem.W.keepIn K (.ref f1) = true)
    (a2 : PySem.W.nsIn K mainGlobals "readings" = some (some (.ref f2))) (l2 : K.lookup f2 = some ⟨oc2, od2, .func (PySem.W.fnOf "readings" "readings" (defArgs s_readings) (defBody s_readings) (defScope s_readings) .none kV2 dc2 pm2 an2 cd2 ct2), sl2⟩) (c2 : PySem.W.codeIn K cd2 "readings" = true) (k2 : PySem.W.keepIn K (.ref f2) = true)
    (a3 : PySem.W.nsIn K mainGlobals "value_of" = some (some (.ref f3))) (l3 : K.lookup f3 = some ⟨oc3, od3, .func (PySem.W.fnOf "value_of" "value_of" (defArgs s_value_of) (defBody s_value_of) (defScope s_value_of) .none kV3 dc3 pm3 an3 cd3 ct3), sl3⟩) (c3 : PySem.W.codeIn K cd3 "value_of" = true) (k3 : PySem.W.keepIn K (.ref f3) = true)
    (a4 : PySem.W.nsIn K mainGlobals "plain_value" = some (some (.ref f4))) (l4 : K.lookup f4 = some ⟨oc4, od4, .func (PySem.W.fnOf "plain_value" "plain_value" (defArgs s_plain_value) (defBody s_plain_value) (defScope s_plain_value) .none kV4 dc4 pm4 an4 cd4 ct4), sl4⟩) (c4 : PySem.W.codeIn K cd4 "plain_value" = true) (k4 : PySem.W.keepIn K (.ref f4) = true)
    (a5 : PySem.W.nsIn K mainGlobals "plain_balance" = some (some (.ref f5))) (l5 : K.lookup f5 = some ⟨oc5, od5, .func (PySem.W.fnOf "plain_balance" "plain_balance" (defArgs s_plain_balance) (defBody s_plain_balance) (defScope s_plain_balance) .none kV5 dc5 pm5 an5 cd5 ct5), sl5⟩) (c5 : PySem.W.codeIn K cd5 "plain_balance" = true) (k5 : PySem.W.keepIn K (.ref f5) = true)
    (a6 : PySem.W.nsIn K mainGlobals "_law_draws" = some (some (.ref f6))) (l6 : K.lookup f6 = some ⟨oc6, od6, .func (PySem.W.fnOf "_law_draws" "_law_draws" (defArgs s_l_draws) (defBody s_l_draws) (defScope s_l_draws) .none kV6 dc6 pm6 an6 cd6 ct6), sl6⟩) (c6 : PySem.W.codeIn K cd6 "_law_draws" = true) (k6 : PySem.W.keepIn K (.ref f6) = true)
    (a7 : PySem.W.nsIn K mainGlobals "_law_take" = some (some (.ref f7))) (l7 : K.lookup f7 = some ⟨oc7, od7, .func (PySem.W.fnOf "_law_take" "_law_take" (defArgs s_l_take) (defBody s_l_take) (defScope s_l_take) .none kV7 dc7 pm7 an7 cd7 ct7), sl7⟩) (c7 : PySem.W.codeIn K cd7 "_law_take" = true) (k7 : PySem.W.keepIn K (.ref f7) = true)
    (a8 : PySem.W.nsIn K mainGlobals "_law_cell" = some (some (.ref f8))) (l8 : K.lookup f8 = some ⟨oc8, od8, .func (PySem.W.fnOf "_law_cell" "_law_cell" (defArgs s_l_cell) (defBody s_l_cell) (defScope s_l_cell) .none kV8 dc8 pm8 an8 cd8 ct8), sl8⟩) (c8 : PySem.W.codeIn K cd8 "_law_cell" = true) (k8 : PySem.W.keepIn K (.ref f8) = true)
    (a9 : PySem.W.nsIn K mainGlobals "_law_word" = some (some (.ref f9))) (l9 : K.lookup f9 = some ⟨oc9, od9, .func (PySem.W.fnOf "_law_word" "_law_word" (defArgs s_l_word) (defBody s_l_word) (defScope s_l_word) .none kV9 dc9 pm9 an9 cd9 ct9), sl9⟩) (c9 : PySem.W.codeIn K cd9 "_law_word" = true) (k9 : PySem.W.keepIn K (.ref f9) = true)
    (a10 : PySem.W.nsIn K mainGlobals "_law_some_word" = some (some (.ref f10))) (l10 : K.lookup f10 = some ⟨oc10, od10, .func (PySem.W.fnOf "_law_some_word" "_law_some_word" (defArgs s_l_some_word) (defBody s_l_some_word) (defScope s_l_some_word) .none kV10 dc10 pm10 an10 cd10 ct10), sl10⟩) (c10 : PySem.W.codeIn K cd10 "_law_some_word" = true) (k10 : PySem.W.keepIn K (.ref f10) = true)
    (a11 : PySem.W.nsIn K mainGlobals "_law_is_integer" = some (some (.ref f11))) (l11 : K.lookup f11 = some ⟨oc11, od11, .func (PySem.W.fnOf "_law_is_integer" "_law_is_integer" (defArgs s_l_is_integer) (defBody s_l_is_integer) (defScope s_l_is_integer) .none kV11 dc11 pm11 an11 cd11 ct11), sl11⟩) (c11 : PySem.W.codeIn K cd11 "_law_is_integer" = true) (k11 : PySem.W.keepIn K (.ref f11) = true)
    (a12 : PySem.W.nsIn K mainGlobals "_law_reading" = some (some (.ref f12))) (l12 : K.lookup f12 = some ⟨oc12, od12, .func (PySem.W.fnOf "_law_reading" "_law_reading" (defArgs s_l_reading) (defBody s_l_reading) (defScope s_l_reading) .none kV12 dc12 pm12 an12 cd12 ct12), sl12⟩) (c12 : PySem.W.codeIn K cd12 "_law_reading" = true) (k12 : PySem.W.keepIn K (.ref f12) = true)
    (a13 : PySem.W.nsIn K mainGlobals "_law_plan" = some (some (.ref f13))) (l13 : K.lookup f13 = some ⟨oc13, od13, .func (PySem.W.fnOf "_law_plan" "_law_plan" (defArgs s_l_plan) (defBody s_l_plan) (defScope s_l_plan) .none kV13 dc13 pm13 an13 cd13 ct13), sl13⟩) (c13 : PySem.W.codeIn K cd13 "_law_plan" = true) (k13 : PySem.W.keepIn K (.ref f13) = true)
    (a14 : PySem.W.nsIn K mainGlobals "_law_versions" = some (some (.ref f14))) (l14 : K.lookup f14 = some ⟨oc14, od14, .func (PySem.W.fnOf "_law_versions" "_law_versions" (defArgs s_l_versions) (defBody s_l_versions) (defScope s_l_versions) .none kV14 dc14 pm14 an14 cd14 ct14), sl14⟩) (c14 : PySem.W.codeIn K cd14 "_law_versions" = true) (k14 : PySem.W.keepIn K (.ref f14) = true)
    (a15 : PySem.W.nsIn K mainGlobals "_law_slots" = some (some (.ref f15))) (l15 : K.lookup f15 = some ⟨oc15, od15, .func (PySem.W.fnOf "_law_slots" "_law_slots" (defArgs s_l_slots) (defBody s_l_slots) (defScope s_l_slots) .none kV15 dc15 pm15 an15 cd15 ct15), sl15⟩) (c15 : PySem.W.codeIn K cd15 "_law_slots" = true) (k15 : PySem.W.keepIn K (.ref f15) = true)
    (a16 : PySem.W.nsIn K mainGlobals "_law_history" = some (some (.ref f16))) (l16 : K.lookup f16 = some ⟨oc16, od16, .func (PySem.W.fnOf "_law_history" "_law_history" (defArgs s_l_history) (defBody s_l_history) (defScope s_l_history) .none kV16 dc16 pm16 an16 cd16 ct16), sl16⟩) (c16 : PySem.W.codeIn K cd16 "_law_history" = true) (k16 : PySem.W.keepIn K (.ref f16) = true)
    (a17 : PySem.W.nsIn K mainGlobals "_law_chosen" = some (some (.ref f17))) (l17 : K.lookup f17 = some ⟨oc17, od17, .func (PySem.W.fnOf "_law_chosen" "_law_chosen" (defArgs s_l_chosen) (defBody s_l_chosen) (defScope s_l_chosen) .none kV17 dc17 pm17 an17 cd17 ct17), sl17⟩) (c17 : PySem.W.codeIn K cd17 "_law_chosen" = true) (k17 : PySem.W.keepIn K (.ref f17) = true)
    (a18 : PySem.W.nsIn K mainGlobals "_law_readings" = some (some (.ref f18))) (l18 : K.lookup f18 = some ⟨oc18, od18, .func (PySem.W.fnOf "_law_readings" "_law_readings" (defArgs s_l_readings) (defBody s_l_readings) (defScope s_l_readings) .none kV18 dc18 pm18 an18 cd18 ct18), sl18⟩) (c18 : PySem.W.codeIn K cd18 "_law_readings" = true) (k18 : PySem.W.keepIn K (.ref f18) = true)
    (a19 : PySem.W.nsIn K mainGlobals "_law_windows" = some (some (.ref f19))) (l19 : K.lookup f19 = some ⟨oc19, od19, .func (PySem.W.fnOf "_law_windows" "_law_windows" (defArgs s_l_windows) (defBody s_l_windows) (defScope s_l_windows) .none kV19 dc19 pm19 an19 cd19 ct19), sl19⟩) (c19 : PySem.W.codeIn K cd19 "_law_windows" = true) (k19 : PySem.W.keepIn K (.ref f19) = true)
    (a20 : PySem.W.nsIn K mainGlobals "_law_window" = some (some (.ref f20))) (l20 : K.lookup f20 = some ⟨oc20, od20, .func (PySem.W.fnOf "_law_window" "_law_window" (defArgs s_l_window) (defBody s_l_window) (defScope s_l_window) .none kV20 dc20 pm20 an20 cd20 ct20), sl20⟩) (c20 : PySem.W.codeIn K cd20 "_law_window" = true) (k20 : PySem.W.keepIn K (.ref f20) = true)
    (a21 : PySem.W.nsIn K mainGlobals "_law_value_of" = some (some (.ref f21))) (l21 : K.lookup f21 = some ⟨oc21, od21, .func (PySem.W.fnOf "_law_value_of" "_law_value_of" (defArgs s_l_value_of) (defBody s_l_value_of) (defScope s_l_value_of) .none kV21 dc21 pm21 an21 cd21 ct21), sl21⟩) (c21 : PySem.W.codeIn K cd21 "_law_value_of" = true) (k21 : PySem.W.keepIn K (.ref f21) = true)
    (a22 : PySem.W.nsIn K mainGlobals "_law_aggregate" = some (some (.ref f22))) (l22 : K.lookup f22 = some ⟨oc22, od22, .func (PySem.W.fnOf "_law_aggregate" "_law_aggregate" (defArgs s_l_aggregate) (defBody s_l_aggregate) (defScope s_l_aggregate) .none kV22 dc22 pm22 an22 cd22 ct22), sl22⟩) (c22 : PySem.W.codeIn K cd22 "_law_aggregate" = true) (k22 : PySem.W.keepIn K (.ref f22) = true)
    (a23 : PySem.W.nsIn K mainGlobals "_law_term" = some (some (.ref f23))) (l23 : K.lookup f23 = some ⟨oc23, od23, .func (PySem.W.fnOf "_law_term" "_law_term" (defArgs s_l_term) (defBody s_l_term) (defScope s_l_term) .none kV23 dc23 pm23 an23 cd23 ct23), sl23⟩) (c23 : PySem.W.codeIn K cd23 "_law_term" = true) (k23 : PySem.W.keepIn K (.ref f23) = true)
    (a24 : PySem.W.nsIn K mainGlobals "_law_due" = some (some (.ref f24))) (l24 : K.lookup f24 = some ⟨oc24, od24, .func (PySem.W.fnOf "_law_due" "_law_due" (defArgs s_l_due) (defBody s_l_due) (defScope s_l_due) .none kV24 dc24 pm24 an24 cd24 ct24), sl24⟩) (c24 : PySem.W.codeIn K cd24 "_law_due" = true) (k24 : PySem.W.keepIn K (.ref f24) = true)
    (a25 : PySem.W.nsIn K mainGlobals "_law_moved" = some (some (.ref f25))) (l25 : K.lookup f25 = some ⟨oc25, od25, .func (PySem.W.fnOf "_law_moved" "_law_moved" (defArgs s_l_moved) (defBody s_l_moved) (defScope s_l_moved) .none kV25 dc25 pm25 an25 cd25 ct25), sl25⟩) (c25 : PySem.W.codeIn K cd25 "_law_moved" = true) (k25 : PySem.W.keepIn K (.ref f25) = true)
    (a26 : PySem.W.nsIn K mainGlobals "_law_same_value" = some (some (.ref f26))) (l26 : K.lookup f26 = some ⟨oc26, od26, .func (PySem.W.fnOf "_law_same_value" "_law_same_value" (defArgs s_l_same_value) (defBody s_l_same_value) (defScope s_l_same_value) .none kV26 dc26 pm26 an26 cd26 ct26), sl26⟩) (c26 : PySem.W.codeIn K cd26 "_law_same_value" = true) (k26 : PySem.W.keepIn K (.ref f26) = true)
    (a27 : PySem.W.nsIn K mainGlobals "law" = some (some (.ref f27))) (l27 : K.lookup f27 = some ⟨oc27, od27, .func (PySem.W.fnOf "law" "law" (defArgs s_law) (defBody s_law) (defScope s_law) .none kV27 dc27 pm27 an27 cd27 ct27), sl27⟩) (c27 : PySem.W.codeIn K cd27 "law" = true) (k27 : PySem.W.keepIn K (.ref f27) = true)
    (z28 : PySem.W.nsIn K mainGlobals "abs" = some none)
    (z29 : PySem.W.nsIn K mainGlobals "bool" = some none)
    (z30 : PySem.W.nsIn K mainGlobals "int" = some none)
    (z31 : PySem.W.nsIn K mainGlobals "isinstance" = some none)
    (z32 : PySem.W.nsIn K mainGlobals "len" = some none)
    (z33 : PySem.W.nsIn K mainGlobals "list" = some none)
    (z34 : PySem.W.nsIn K mainGlobals "max" = some none)
    (z35 : PySem.W.nsIn K mainGlobals "min" = some none)
    (z36 : PySem.W.nsIn K mainGlobals "range" = some none)
    (z37 : PySem.W.nsIn K mainGlobals "set" = some none)
    (z38 : PySem.W.nsIn K mainGlobals "sorted" = some none)
    (z39 : PySem.W.nsIn K mainGlobals "sum" = some none)
    (z40 : PySem.W.nsIn K mainGlobals "tuple" = some none) :
    ∃ fd : FuncData, (∀ (s : Shared) (v : Value), BindsTo s fd ⟨[v], []⟩ [("script", v)]) ∧ ∀ base : Heap, K.In base → base.Ns mainGlobals mg → base.NoSeer →  FnOk l.prog w K mg base CX0 38 fa fd ["script"] (sp_law K) := by
  have e := hfa.symm.trans (PySem.W.mg_of X G a27)
  cases e
  have F1 := fun_mk (st := s_window_of) l1 c1 k1
  have B1 := F1.binds (ps := ["plan", "time"]) (fun _ _ _ _ _ _ us hl => match us, hl with | [_, _], _ => rfl)
  have F2 := fun_mk (st := s_readings) l2 c2 k2
  have B2 := F2.binds (ps := ["plan", "history", "meters", "window"]) (fun _ _ _ _ _ _ us hl => match us, hl with | [_, _, _, _], _ => rfl)
  have F3 := fun_mk (st := s_value_of) l3 c3 k3
  have B3 := F3.binds (ps := ["aggregate", "values"]) (fun _ _ _ _ _ _ us hl => match us, hl with | [_, _], _ => rfl)
  have F4 := fun_mk (st := s_plain_value) l4 c4 k4
  have B4 := F4.binds (ps := ["plan", "history", "aggregate", "meters", "window"]) (fun _ _ _ _ _ _ us hl => match us, hl with | [_, _, _, _, _], _ => rfl)
  have F5 := fun_mk (st := s_plain_balance) l5 c5 k5
  have B5 := F5.binds (ps := ["plan", "history", "balance"]) (fun _ _ _ _ _ _ us hl => match us, hl with | [_, _, _], _ => rfl)
  have F6 := fun_mk (st := s_l_draws) l6 c6 k6
  have B6 := F6.binds (ps := ["script", "many"]) (fun _ _ _ _ _ _ us hl => match us, hl with | [_, _], _ => rfl)
  have F7 := fun_mk (st := s_l_take) l7 c7 k7
  have B7 := F7.binds (ps := ["draws", "many"]) (fun _ _ _ _ _ _ us hl => match us, hl with | [_, _], _ => rfl)
  have F8 := fun_mk (st := s_l_cell) l8 c8 k8
  have B8 := F8.binds (ps := ["script", "draws"]) (fun _ _ _ _ _ _ us hl => match us, hl with | [_, _], _ => rfl)
  have F9 := fun_mk (st := s_l_word) l9 c9 k9
  have B9 := F9.binds (ps := ["number"]) (fun _ _ _ _ _ _ us hl => match us, hl with | [_], _ => rfl)
  have F10 := fun_mk (st := s_l_some_word) l10 c10 k10
  have B10 := F10.binds (ps := ["draws"]) (fun _ _ _ _ _ _ us hl => match us, hl with | [_], _ => rfl)
  have F11 := fun_mk (st := s_l_is_integer) l11 c11 k11
  have B11 := F11.binds (ps := ["value"]) (fun _ _ _ _ _ _ us hl => match us, hl with | [_], _ => rfl)
  have F12 := fun_mk (st := s_l_reading) l12 c12 k12
  have B12 := F12.binds (ps := ["draws", "meter"]) (fun _ _ _ _ _ _ us hl => match us, hl with | [_, _], _ => rfl)
  have F13 := fun_mk (st := s_l_plan) l13 c13 k13
  have B13 := F13.binds (ps := ["draws", "cell"]) (fun _ _ _ _ _ _ us hl => match us, hl with | [_, _], _ => rfl)
  have F14 := fun_mk (st := s_l_versions) l14 c14 k14
  have B14 := F14.binds (ps := ["draws", "meter"]) (fun _ _ _ _ _ _ us hl => match us, hl with | [_, _], _ => rfl)
  have F15 := fun_mk (st := s_l_slots) l15 c15 k15
  have B15 := F15.binds (ps := ["draws", "meter", "most", "cell"]) (fun _ _ _ _ _ _ us hl => match us, hl with | [_, _, _, _], _ => rfl)
  have F16 := fun_mk (st := s_l_history) l16 c16 k16
  have B16 := F16.binds (ps := ["draws", "plan", "most", "cell"]) (fun _ _ _ _ _ _ us hl => match us, hl with | [_, _, _, _], _ => rfl)
  have F17 := fun_mk (st := s_l_chosen) l17 c17 k17
  have B17 := F17.binds (ps := ["draws", "names"]) (fun _ _ _ _ _ _ us hl => match us, hl with | [_, _], _ => rfl)
  have F18 := fun_mk (st := s_l_readings) l18 c18 k18
  have B18 := F18.binds (ps := ["plan", "history", "chosen", "window"]) (fun _ _ _ _ _ _ us hl => match us, hl with | [_, _, _, _], _ => rfl)
  have F19 := fun_mk (st := s_l_windows) l19 c19 k19
  have B19 := F19.binds (ps := ["plan", "history"]) (fun _ _ _ _ _ _ us hl => match us, hl with | [_, _], _ => rfl)
  have F20 := fun_mk (st := s_l_window) l20 c20 k20
  have B20 := F20.binds (ps := ["draws", "plan", "history", "cell"]) (fun _ _ _ _ _ _ us hl => match us, hl with | [_, _, _, _], _ => rfl)
  have F21 := fun_mk (st := s_l_value_of) l21 c21 k21
  have B21 := F21.binds (ps := ["aggregate", "values"]) (fun _ _ _ _ _ _ us hl => match us, hl with | [_, _], _ => rfl)
  have F22 := fun_mk (st := s_l_aggregate) l22 c22 k22
  have B22 := F22.binds (ps := ["draws", "plan", "cell"]) (fun _ _ _ _ _ _ us hl => match us, hl with | [_, _, _], _ => rfl)
  have F23 := fun_mk (st := s_l_term) l23 c23 k23
  have B23 := F23.binds (ps := ["draws", "plan", "history", "cell"]) (fun _ _ _ _ _ _ us hl => match us, hl with | [_, _, _, _], _ => rfl)
  have F24 := fun_mk (st := s_l_due) l24 c24 k24
  have B24 := F24.binds (ps := ["plan", "history", "aggregate", "chosen", "window"]) (fun _ _ _ _ _ _ us hl => match us, hl with | [_, _, _, _, _], _ => rfl)
  have F25 := fun_mk (st := s_l_moved) l25 c25 k25
  have B25 := F25.binds (ps := ["plan", "history", "windows"]) (fun _ _ _ _ _ _ us hl => match us, hl with | [_, _, _], _ => rfl)
  have F26 := fun_mk (st := s_l_same_value) l26 c26 k26
  have B26 := F26.binds (ps := ["actual", "due"]) (fun _ _ _ _ _ _ us hl => match us, hl with | [_, _], _ => rfl)
  have F27 := fun_mk (st := s_law) l27 c27 k27
  have B27 := F27.binds (ps := ["script"]) (fun _ _ _ _ _ _ us hl => match us, hl with | [_], _ => rfl)
  let T : Ctx K mg := { f_window_of := f1, fd_window_of := _, F_window_of := F1, b_window_of := B1, g_window_of := PySem.W.mg_of X G a1, f_readings := f2, fd_readings := _, F_readings := F2, b_readings := B2, g_readings := PySem.W.mg_of X G a2, f_value_of := f3, fd_value_of := _, F_value_of := F3, b_value_of := B3, g_value_of := PySem.W.mg_of X G a3, f_plain_value := f4, fd_plain_value := _, F_plain_value := F4, b_plain_value := B4, g_plain_value := PySem.W.mg_of X G a4, f_plain_balance := f5, fd_plain_balance := _, F_plain_balance := F5, b_plain_balance := B5, g_plain_balance := PySem.W.mg_of X G a5, f_l_draws := f6, fd_l_draws := _, F_l_draws := F6, b_l_draws := B6, g_l_draws := PySem.W.mg_of X G a6, f_l_take := f7, fd_l_take := _, F_l_take := F7, b_l_take := B7, g_l_take := PySem.W.mg_of X G a7, f_l_cell := f8, fd_l_cell := _, F_l_cell := F8, b_l_cell := B8, g_l_cell := PySem.W.mg_of X G a8, f_l_word := f9, fd_l_word := _, F_l_word := F9, b_l_word := B9, g_l_word := PySem.W.mg_of X G a9, f_l_some_word := f10, fd_l_some_word := _, F_l_some_word := F10, b_l_some_word := B10, g_l_some_word := PySem.W.mg_of X G a10, f_l_is_integer := f11, fd_l_is_integer := _, F_l_is_integer := F11, b_l_is_integer := B11, g_l_is_integer := PySem.W.mg_of X G a11, f_l_reading := f12, fd_l_reading := _, F_l_reading := F12, b_l_reading := B12, g_l_reading := PySem.W.mg_of X G a12, f_l_plan := f13, fd_l_plan := _, F_l_plan := F13, b_l_plan := B13, g_l_plan := PySem.W.mg_of X G a13, f_l_versions := f14, fd_l_versions := _, F_l_versions := F14, b_l_versions := B14, g_l_versions := PySem.W.mg_of X G a14, f_l_slots := f15, fd_l_slots := _, F_l_slots := F15, b_l_slots := B15, g_l_slots := PySem.W.mg_of X G a15, f_l_history := f16, fd_l_history := _, F_l_history := F16, b_l_history := B16, g_l_history := PySem.W.mg_of X G a16, f_l_chosen := f17, fd_l_chosen := _, F_l_chosen := F17, b_l_chosen := B17, g_l_chosen := PySem.W.mg_of X G a17, f_l_readings := f18, fd_l_readings := _, F_l_readings := F18, b_l_readings := B18, g_l_readings := PySem.W.mg_of X G a18, f_l_windows := f19, fd_l_windows := _, F_l_windows := F19, b_l_windows := B19, g_l_windows := PySem.W.mg_of X G a19, f_l_window := f20, fd_l_window := _, F_l_window := F20, b_l_window := B20, g_l_window := PySem.W.mg_of X G a20, f_l_value_of := f21, fd_l_value_of := _, F_l_value_of := F21, b_l_value_of := B21, g_l_value_of := PySem.W.mg_of X G a21, f_l_aggregate := f22, fd_l_aggregate := _, F_l_aggregate := F22, b_l_aggregate := B22, g_l_aggregate := PySem.W.mg_of X G a22, f_l_term := f23, fd_l_term := _, F_l_term := F23, b_l_term := B23, g_l_term := PySem.W.mg_of X G a23, f_l_due := f24, fd_l_due := _, F_l_due := F24, b_l_due := B24, g_l_due := PySem.W.mg_of X G a24, f_l_moved := f25, fd_l_moved := _, F_l_moved := F25, b_l_moved := B25, g_l_moved := PySem.W.mg_of X G a25, f_l_same_value := f26, fd_l_same_value := _, F_l_same_value := F26, b_l_same_value := B26, g_l_same_value := PySem.W.mg_of X G a26, f_law := fa, fd_law := _, F_law := F27, b_law := B27, g_law := PySem.W.mg_of X G a27, m_abs := PySem.W.mg_none_of X G z28, m_bool := PySem.W.mg_none_of X G z29, m_int := PySem.W.mg_none_of X G z30, m_isinstance := PySem.W.mg_none_of X G z31, m_len := PySem.W.mg_none_of X G z32, m_list := PySem.W.mg_none_of X G z33, m_max := PySem.W.mg_none_of X G z34, m_min := PySem.W.mg_none_of X G z35, m_range := PySem.W.mg_none_of X G z36, m_set := PySem.W.mg_none_of X G z37, m_sorted := PySem.W.mg_none_of X G z38, m_sum := PySem.W.mg_none_of X G z39, m_tuple := PySem.W.mg_none_of X G z40 }
  exact ⟨PySem.W.fnOf "law" "law" (defArgs s_law) (defBody s_law) (defScope s_law) .none kV27 dc27 pm27 an27 cd27 ct27, fun s v => .of_eq rfl, fun base _ _ hN => ok_law T hN hgt⟩
end Tw
open PySem PySem.W PyProof.Rows
set_option maxHeartbeats 0 in
theorem PySem.Challenge.cw_toldwhensure_k20_whole_plain_values_holds : PySem.Challenge.rw_toldwhensure_k20_whole_plain_values.Holds := by
  w_on; o_law; k_head; (case hw => w_witness2)
  k_fill
  refine Big.walk (l := PySem.Challenge.rw_toldwhensure_k20_whole_plain_values) (n := 63) (k := 38) (x := "script") (CX := fun _ => L2.CX0) (sp := fun w => Tw.sp_law _) rfl (by decide) rfl ⟨rfl, by decide, by decide⟩ (by decide +kernel) (fun w h Y => PySem.W.kIn_of Y) ?F
    (fun _ _ a ns hl hb _ hS => ⟨a, ns, 1048576, rfl, hS, hl, Nat.le_refl _, by decide, fun z hz => Tw.lt_bits (hb z hz), fun _ => rfl⟩) (fun _ _ _ _ _ h => h)
  case F =>
    intro w mg fa h KX G hmg
    refine' Tw.all_mk KX G hmg (by rfl) ?a1 ?l1 ?c1 ?k1 ?a2 ?l2 ?c2 ?k2 ?a3 ?l3 ?c3 ?k3 ?a4 ?l4 ?c4 ?k4 ?a5 ?l5 ?c5 ?k5 ?a6 ?l6 ?c6 ?k6 ?a7 ?l7 ?c7 ?k7 ?a8 ?l8 ?c8 ?k8 ?a9 ?l9 ?c9 ?k9 ?a10 ?l10 ?c10 ?k10 ?a11 ?l11 ?c11 ?k11 ?a12 ?l12 ?c12 ?k12 ?a13 ?l13 ?c13 ?k13 ?a14 ?l14 ?c14 ?k14 ?a15 ?l15 ?c15 ?k15 ?a16 ?l16 ?c16 ?k16 ?a17 ?l17 ?c17 ?k17 ?a18 ?l18 ?c18 ?k18 ?a19 ?l19 ?c19 ?k19 ?a20 ?l20 ?c20 ?k20 ?a21 ?l21 ?c21 ?k21 ?a22 ?l22 ?c22 ?k22 ?a23 ?l23 ?c23 ?k23 ?a24 ?l24 ?c24 ?k24 ?a25 ?l25 ?c25 ?k25 ?a26 ?l26 ?c26 ?k26 ?a27 ?l27 ?c27 ?k27 ?z28 ?z29 ?z30 ?z31 ?z32 ?z33 ?z34 ?z35 ?z36 ?z37 ?z38 ?z39 ?z40
    (case a1 => k_is); (case l1 => k_is); (case c1 => k_is); (case k1 => k_is); (case a2 => k_is); (case l2 => k_is); (case c2 => k_is); (case k2 => k_is); (case a3 => k_is); (case l3 => k_is); (case c3 => k_is); (case k3 => k_is); (case a4 => k_is); (case l4 => k_is); (case c4 => k_is); (case k4 => k_is); (case a5 => k_is); (case l5 => k_is); (case c5 => k_is); (case k5 => k_is); (case a6 => k_is); (case l6 => k_is); (case c6 => k_is); (case k6 => k_is); (case a7 => k_is); (case l7 => k_is); (case c7 => k_is); (case k7 => k_is); (case a8 => k_is); (case l8 => k_is); (case c8 => k_is); (case k8 => k_is); (case a9 => k_is); (case l9 => k_is); (case c9 => k_is); (case k9 => k_is); (case a10 => k_is); (case l10 => k_is); (case c10 => k_is); (case k10 => k_is); (case a11 => k_is); (case l11 => k_is); (case c11 => k_is); (case k11 => k_is); (case a12 => k_is); (case l12 => k_is); (case c12 => k_is); (case k12 => k_is); (case a13 => k_is); (case l13 => k_is); (case c13 => k_is); (case k13 => k_is); (case a14 => k_is); (case l14 => k_is); (case c14 => k_is); (case k14 => k_is); (case a15 => k_is); (case l15 => k_is); (case c15 => k_is); (case k15 => k_is); (case a16 => k_is); (case l16 => k_is); (case c16 => k_is); (case k16 => k_is); (case a17 => k_is); (case l17 => k_is); (case c17 => k_is); (case k17 => k_is); (case a18 => k_is); (case l18 => k_is); (case c18 => k_is); (case k18 => k_is); (case a19 => k_is); (case l19 => k_is); (case c19 => k_is); (case k19 => k_is); (case a20 => k_is); (case l20 => k_is); (case c20 => k_is); (case k20 => k_is); (case a21 => k_is); (case l21 => k_is); (case c21 => k_is); (case k21 => k_is); (case a22 => k_is); (case l22 => k_is); (case c22 => k_is); (case k22 => k_is); (case a23 => k_is); (case l23 => k_is); (case c23 => k_is); (case k23 => k_is); (case a24 => k_is); (case l24 => k_is); (case c24 => k_is); (case k24 => k_is); (case a25 => k_is); (case l25 => k_is); (case c25 => k_is); (case k25 => k_is); (case a26 => k_is); (case l26 => k_is); (case c26 => k_is); (case k26 => k_is); (case a27 => k_is); (case l27 => k_is); (case c27 => k_is); (case k27 => k_is); (case z28 => k_is); (case z29 => k_is); (case z30 => k_is); (case z31 => k_is); (case z32 => k_is); (case z33 => k_is); (case z34 => k_is); (case z35 => k_is); (case z36 => k_is); (case z37 => k_is); (case z38 => k_is); (case z39 => k_is); (case z40 => k_is)
