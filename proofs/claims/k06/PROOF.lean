import PyProof.Rows.All
import Wide.All
import OpenK.AllK
import Wide.FinOn
import PyProof.Rows.ReprOcc
import HandS.ForMost
import HandS.Wide
import HandS.WideBits
import HandS.TupAny
import HandS.IsInst
import HandS.SetFor
import HandS.SetTxt0
import HandS.Strs
import HandS.More
import HandS.EndBits
import HandS.Zip
import HandS.FStr
import HandS.Walk
import HandS.Star
import HandS.TryOnly
import HandS.Exc
import HandS.StrMore
import HandS.Sort
import KE.GoesEnumKw
import PySem.Challenge.RW_toldwhensure_k06_bags_read_back
set_option Elab.async false
set_option linter.all false
set_option maxRecDepth 100000
/-! sets of texts: set(list of texts), sorted(such a set). The members are told as a list without duplicates. -/
namespace Tset
open PySem PySem.Spec PyProof.Rows L2 PySem.Froz
/-- the payload D has the texts l, can be walked and can be read in order -/
structure Pay (P : Program) (w : World) (D : SD) (l : List Str) : Prop where
  tx : TxOk P w D l
  ris : Ris D.2.2.place.toList
  led : w.params.followText "set-order" = true ∨ D.2.2.led = true
  nd : l.Nodup
def Holds (P : Program) (w : World) (h : Heap) (a : Addr) (l : List Str) : Prop := ∃ D : SD, h.get? a = some (sObj "set" D) ∧ Pay P w D l
section
variable {P : Program} {w : World} {A : Around} {E : Value → Shared → Prop} {s : Shared}
theorem Holds.kept {h h' : Heap} {a : Addr} {l : List Str} (x : Holds P w h a l) (k : ∀ o, h.get? a = some o → h'.get? a = some o) : Holds P w h' a l :=
  let ⟨D, e, r⟩ := x
  ⟨D, k _ e, r⟩
theorem Pay.tail {es : Array (Int × Value)} {t : SetTable} {l : List Str} (ep : Nat) (dm : Bool) (tx : TxOk P w (tailTx ep es t dm) l) (nd : l.Nodup) (r : Ris t.place.toList) (g : w.params.followText "set-order" = true ∨ t.led = true) :
    Pay P w (tailTx ep es t dm) l := by
  refine ⟨tx, ?_, ?_, nd⟩ <;> unfold tailTx <;> split
  · exact relayAll_ris _ _ _
  · exact r
  · rcases g with g | g
    · exact .inl g
    · exact .inr ((relayAll_led _ _ _).trans g)
  · exact g
theorem Pay.add {D : SD} {l : List Str} {k : Str} (u : Tok) (x : Pay P w D l) (hk : k ∉ l) : Pay P w (addTx (hashStr w k) (.str k u) D) (k :: l) := by
  have tx := add_ok (k := k) u x.tx
  unfold addTx at tx ⊢
  have r1 := layNew_ris D.2.2 D.1 (hashStr w k) (.str k u) x.ris
  have l1 := layNew_led D.2.2 D.1 (hashStr w k) (.str k u)
  refine Pay.tail _ _ tx (List.nodup_cons.mpr ⟨hk, x.nd⟩) ?_ ?_
  · split <;> exact r1
  · rcases x.led with g | g
    · exact .inl g
    · right
      split
      · exact l1.trans g
      · exact l1.trans g
/-- a text that is there already is not added -/
theorem add_there {a : Addr} {D : SD} {l : List Str} {k : Str} {u : Tok} {Q : Bool → Shared → Prop} (ho : s.heap.get? a = some (sObj "set" D)) (x : TxOk P w D l) (hk : k ∈ l) (hb : l.length < scanBound) (q : Q false s) :
    wpAny (model P w) A (setAddHashed a (.str k u) (hashStr w k)) Q E s := by
  obtain ⟨es, ep, t⟩ := D
  have hy : (strKind P w).is k (.str k u) = true := is_str k u
  have hsz : es.size = l.length := x.sz
  have fits : t.fits es.size = true := x.fit
  have elems : ElemsOf (strKind P w) es.toList := x.el
  have few : es.size < scanBound := by rw [hsz]; exact hb
  obtain ⟨e, he, hz⟩ := (x.mem k).mp hk
  unfold setAddHashed setAddHashedIn
  refine wpAny_holding (wpAny_bind (wpAny_setState_of ho rfl fits ?_))
  dsimp only
  rw [byScan_of rfl few elems]
  simp only [↓reduceIte]
  unfold setAddByScan
  refine wpAny_bind (wpAny_bind (wpAny_rule ?_))
  refine wpAny_bind (wpAny_setScan_of (knd := strKind P w) (k := k) hy ho rfl fits elems ?_)
  cases hf : List.findIdx? (fun e => (strKind P w).is k e.2) es.toList with
  | some j => exact wpAny_pure (wpAny_pure q)
  | none =>
    have no := List.findIdx?_eq_none_iff.mp hf e he
    rw [hz] at no
    cases no
/-- one text more: it is there behind it -/
theorem add_one {a : Addr} {l : List Str} {k : Str} {u : Tok} {Q : Bool → Shared → Prop} (x : Holds P w s.heap a l) (hb : l.length + 1 < scanBound)
    (q : ∀ b h' l', Heap.SameBut a s.heap h' → Holds P w h' a l' → (∀ z, z ∈ l' ↔ z = k ∨ z ∈ l) → l'.length ≤ l.length + 1 → Q b { s with heap := h' }) :
    wpAny (model P w) A (setAddHashed a (.str k u) (hashStr w k)) Q E s := by
  obtain ⟨D, ho, p⟩ := x
  by_cases hk : k ∈ l
  · exact add_there ho p.tx hk (by omega) (q false s.heap l (Heap.SameBut.refl a s.heap) ⟨D, ho, p⟩ (fun z => ⟨.inr, fun h => h.elim (fun e => e ▸ hk) id⟩) (by omega))
  · refine add_x ho p.tx hk hb (q true _ (k :: l) (Heap.SameBut.update s.heap a _) ⟨_, get_upd _ ho rfl, p.add u hk⟩ (fun z => List.mem_cons) (by simp))
/-- the fresh set -/
theorem fresh {h : Heap} {a : Addr} (ho : h.get? a = some { cls := .type "set", dict := none, data := .set #[] 0 (.fresh 0 0 (!w.params.followText "set-order")) }) : Holds P w h a [] := by
  refine ⟨(#[], 0, .fresh 0 0 (!w.params.followText "set-order")), ho, TxOk.nil rfl, List.Pairwise.nil, ?_, List.nodup_nil⟩
  show _ ∨ (!w.params.followText "set-order") = true
  cases w.params.followText "set-order"
  · exact .inr rfl
  · exact .inl rfl
/-- the loop that puts the items in -/
theorem fill {I S : Addr} {fp wr : List Addr} {G : Array GenState → Array GenState → Prop} {n : Nat} {Pv : Nat → Value → Prop} {Sx : Nat → Shared → Prop} {R : Result → Shared → Prop} (W : WalksS P w A.in1 I fp wr G n Pv Sx)
    (nS : S ∉ fp) (ks : List Str) (hn : n = ks.length) (hb : ks.length + 1 < scanBound) (val : ∀ i v, Pv i v → ∃ k t, ks[i]? = some k ∧ v = .str k t) :
    ∀ (left i : Nat) (s : Shared), n - i = left → i ≤ n → Sx i s → (∃ l, Holds P w s.heap S l ∧ (∀ z, z ∈ l ↔ z ∈ ks.take i) ∧ l.length ≤ i) →
      (∀ s' l, Moved (S :: wr) G s s' → Holds P w s'.heap S l → (∀ z, z ∈ l ↔ z ∈ ks) → l.length ≤ n → R (.ok (.ret .none)) s') → codeAny (model P w) A (.builtin "set.update.loop" ⟨[.ref S, .ref I], []⟩) R s := by
  have nSw : S ∉ wr := fun z => nS (W.sub _ z)
  have up : ∀ b ∈ wr, b ∈ S :: wr := fun b z => List.mem_cons_of_mem _ z
  intro left
  induction left with
  | zero =>
    intro i s e hi st ⟨l, hl, hm, hll⟩ hR
    obtain rfl : i = n := by omega
    refine codeAny_builtin F.entry_set_update_loop ?_
    rw [Around.under_plainId F.plain_set_update_loop _]
    refine wpAny_bind (m := pyNext (.ref I)) (W.done s _ _ st fun s' mv => ?_)
    rw [List.take_of_length_le (by omega)] at hm
    exact wpAny_pure (hR s' l (mv.mono up) (hl.kept fun o z => mv.heap S o nSw z) hm hll)
  | succ left ih =>
    intro i s e hi st ⟨l, hl, hm, hll⟩ hR
    have lt : i < n := by omega
    refine codeAny_builtin F.entry_set_update_loop ?_
    rw [Around.under_plainId F.plain_set_update_loop _]
    refine wpAny_bind (m := pyNext (.ref I)) (W.item i s _ _ lt st fun v s1 hv st1 mv => ?_)
    obtain ⟨k, t, hk, rfl⟩ := val i v hv
    refine wpAny_bind (m := holding [Value.str k t] (setAdd S (.str k t))) (wpAny_holding ?_)
    unfold setAdd
    refine wpAny_holding (wpAny_bind ((strKind P w).pyHash (is_str k t) ?_))
    refine add_one (s := { s1 with toks := s1.toks + 1 }) (l := l) (hl.kept fun o z => mv.heap S o nSw z) (by omega) fun b h2 l2 sb hl2 hm2 hll2 => ?_
    refine wpAny_pure ⟨plainId_quiet F.plain_set_update_loop _, ih (i + 1) _ (by omega) lt (W.frame _ s1 _ _ st1 (Nat.le_succ _) fun b hb o z => ?_) ⟨l2, hl2, fun z => ?_, by omega⟩ fun s3 l3 mv3 hl3 hm3 hll3 => ?_⟩
    · rw [sb.2 b fun x => nS (x ▸ hb)]
      exact z
    · rw [hm2, hm, List.take_add_one, hk]
      simp only [Option.toList_some, List.mem_append, List.mem_singleton]
      exact Or.comm
    · refine hR s3 l3 (Moved.trans W.gtrans ((mv.mono up).then_heap (Nat.le_succ _) fun b o hb z => ?_) mv3) hl3 hm3 hll3
      rw [sb.2 b fun x => hb (x ▸ List.mem_cons_self)]
      exact z
theorem at_text : ∀ {us : List Value} {ks : List Str}, StrsAre us ks → ∀ (i : Nat) (v : Value), us[i]? = some v → ∃ k t, ks[i]? = some k ∧ v = .str k t
  | _, _, .nil, i, v, h => by simp at h
  | _, _, .cons k t r, 0, v, h => ⟨k, t, rfl, (Option.some.inj h).symm⟩
  | _, _, .cons k t r, i + 1, v, h => at_text r i v h
set_option maxHeartbeats 3200000 in
theorem made {l : Addr} {items : Array Value} (ks : List Str) {Q : Value → Shared → Prop} (hh : A.handled = none) (hl : s.heap.IsList l items) (hit : StrsAre items.toList ks) (hb : ks.length + 1 < scanBound)
    (q : ∀ (h' : Heap) (tk : Nat) (ls : List Str), Holds P w h' s.heap.objs.size ls → (∀ z, z ∈ ls ↔ z ∈ ks) → ls.length ≤ ks.length → (∀ b o, s.heap.get? b = some o → h'.get? b = some o) → Q (.ref s.heap.objs.size) { s with heap := h', toks := tk }) :
    wpAny (model P w) A (call (.type "set") [.ref l]) Q E s := by
  have sz : items.size = ks.length := by rw [← Array.length_toList]; exact StrsAre.length hit
  obtain ⟨_, _, hmro⟩ := F.called_set.mro
  have hmade := F.called_set.made
  have hsub := F.called_set.sub
  have h1 := F.called_set.notType
  have h2 := F.called_set.canCreate
  have h3 := F.typeCall_set_1 (.ref l)
  refine wpAny_call (codeAny_of_tree ?_)
  show wpAny _ _ (callAny (.type "set") _) _ _ _
  refine wpAny_pure ⟨Code.quiet_builtin _ (by decide +kernel), codeAny_builtin F.entry_type_call ?_⟩
  rw [Around.under_plain (weight_type_call_type "set" [.ref l] []) rfl]
  repeat (any_goals (first | assumption | wp_step))
  generalize eo : ({ cls := .type "set", dict := none, data := .set #[] 0 (.fresh 0 0 (!w.params.followText "set-order")) } : Obj) = ob
  refine codeAny_mono (code_set_led1 (.ref l) (E := E) (Q₁ := fun r s' => r = .ref s.heap.objs.size ∧ s' = { s with heap := s.heap.push ob }) (by subst eo; exact ⟨rfl, rfl⟩)) fun r s' hr => ?_
  rcases r with e | fl
  · exact hr
  cases fl with
  | ret r =>
    obtain ⟨rfl, rfl⟩ := hr
    have at0 : (s.heap.push ob).get? s.heap.objs.size = some ob := Heap.get?_push_size _ (by subst eo; rfl)
    have ty0 : Shared.TypeIs { s with heap := s.heap.push ob } (.ref s.heap.objs.size) "set" := ⟨ob, at0, by subst eo; rfl⟩
    have hli := F.called_set.init.lookup
    have hbi := F.called_set.init.bind (.ref s.heap.objs.size)
    repeat (any_goals (first | assumption | wp_step))
    refine codeAny_mono (codeAny_call_builtin (R := wants (fun r s2 => r = .none ∧ ∃ h' tk ls, s2 = { s with heap := h', toks := tk } ∧ Holds P w h' s.heap.objs.size ls ∧ (∀ z, z ∈ ls ↔ z ∈ ks) ∧ ls.length ≤ ks.length ∧ (∀ b o, s.heap.get? b = some o → h'.get? b = some o)) E)
      F.called_set.init.plain F.entry_set_init (check_set_init_1 ty0 ?_)) fun r s2 hr => ?_
    · obtain ⟨⟨oc, od, oD, os⟩, hol, hc, nl, hd⟩ := hl
      simp only at hc hd
      subst hc; subst hd
      have lst1 : (s.heap.push ob).IsList l items := ⟨_, Heap.get?_push_of_some _ hol, rfl, nl, rfl⟩
      have hol' := Heap.get?_push_of_some ob hol
      have neI : l ≠ (s.heap.push ob).objs.size := by
        rw [Heap.size_push]
        exact Nat.ne_of_lt (Nat.lt_succ_of_lt (Heap.lt_size hol))
      subst eo
      have a1 := F.sub_list_set
      have a2 := F.sub_list_frozenset
      have a3 : (Value.type "list" == Value.type "dict") = false := by decide
      unfold Builtin.«set.__init__» noKeywords Builtin.Frozenset.updateFrom
      generalize hPI : pyIter = PI
      wp_walk
      subst hPI
      refine wpAny_pyIter_list lst1 ?_
      refine wpAny_bind (wpAny_runValue ?_)
      have ltl : l < s.heap.objs.size := Heap.lt_size hol
      have hd3 : A.in1.in1.in1.handled = none := by simp [hh]
      have val : ∀ (i : Nat) (v : Value), items[i]? = some v → ∃ k t, ks[i]? = some k ∧ v = .str k t := fun i v hv => at_text hit i v (by rw [Array.getElem?_toList]; exact hv)
      refine fill ((Walks.list hd3 _ l neI items).toS) (S := s.heap.objs.size) ?nS ks sz hb val (items.size - 0) 0 _ (by omega) (Nat.zero_le _) ⟨⟨_, Heap.get?_push_size _ rfl, rfl, rfl⟩, (lst1.push _)⟩ ⟨[], ?f, by simp, Nat.le_refl 0⟩ ?R
      case nS =>
        rw [Heap.size_push]
        simp only [List.mem_cons, List.mem_singleton, List.not_mem_nil, or_false, not_or]
        exact ⟨Nat.ne_of_lt (Nat.lt_succ_self _), Nat.ne_of_gt ltl⟩
      case f =>
        have z := Heap.get?_push_of_some ({ cls := .type "list_iterator", data := .fields #[.ref l, .int 0 0] } : Obj) at0
        exact fresh z
      case R =>
        rintro ⟨h', g2, d2, t2, o2⟩ ls mv hH hm hll
        obtain rfl : g2 = s.gens := mv.gens
        obtain rfl : d2 = s.drawn := mv.drawn
        obtain rfl : o2 = s.os := mv.os
        show wpAny _ _ _ _ _ _
        refine wpAny_pure ?_
        show wpAny _ _ (ret Value.none) _ _ _
        refine wpAny_pure ⟨rfl, h', t2, ls, rfl, hH, hm, by rw [← sz]; exact hll, fun b o e => ?_⟩
        have b0 : b < s.heap.objs.size := Heap.lt_size e
        refine mv.heap b o ?_ (Heap.get?_push_of_some _ (Heap.get?_push_of_some _ e))
        simp only [List.mem_cons, List.mem_singleton, List.not_mem_nil, or_false, not_or]
        refine ⟨Nat.ne_of_lt b0, ?_⟩
        rw [Heap.size_push]
        exact Nat.ne_of_lt (Nat.lt_succ_of_lt b0)
    · rcases r with e | fl
      · exact hr
      cases fl with
      | ret r =>
        obtain ⟨rfl, h', tk, ls, rfl, hH, hm, hll, hk⟩ := hr
        repeat (any_goals (first | assumption | wp_step))
        exact q _ _ _ hH hm hll hk
      | _ => exact hr.elim
  | _ => exact hr.elim
/-- as many items as members, each member among them: the members in another order -/
theorem perm_of : ∀ (l ls : List Str), l.Nodup → (∀ z ∈ l, z ∈ ls) → ls.length ≤ l.length → ls.Perm l
  | [], ls, _, _, h => by
    have e : ls = [] := List.length_eq_zero_iff.mp (by simpa using h)
    rw [e]
  | x :: l, ls, nd, sub, h => by
    obtain ⟨nx, nd⟩ := List.nodup_cons.mp nd
    have hx : x ∈ ls := sub x List.mem_cons_self
    have p := List.perm_cons_erase hx
    have e1 : (ls.erase x).length ≤ l.length := by
      rw [List.length_erase_of_mem hx]
      simp only [List.length_cons] at h
      omega
    refine p.trans (List.Perm.cons x (perm_of l (ls.erase x) nd (fun z hz => ?_) e1))
    rcases List.mem_cons.mp (p.mem_iff.mp (sub z (List.mem_cons_of_mem _ hz))) with e | m
    · exact absurd (e ▸ hz) nx
    · exact m
theorem texts : ∀ (es : List (Int × Value)), ElemsOf (strKind P w) es → ∃ ls : List Str, StrsAre (es.map (·.2)) ls ∧ ∀ z, z ∈ ls ↔ ∃ e ∈ es, (strKind P w).is z e.2 = true
  | [], _ => ⟨[], .nil, fun z => by simp⟩
  | e :: es, h => by
    obtain ⟨ls, r, m⟩ := texts es fun x hx => h x (List.mem_cons_of_mem _ hx)
    obtain ⟨⟨k, hk, _⟩, _⟩ := h e List.mem_cons_self
    obtain ⟨t, ek⟩ := Value.isStrOf_shape (x := k) (v := e.2) hk
    refine ⟨k :: ls, ?_, fun z => ?_⟩
    · show StrsAre (e.2 :: es.map (·.2)) (k :: ls)
      rw [ek]
      exact .cons k t r
    · rw [List.mem_cons, m]
      constructor
      · rintro (rfl | ⟨x, hx, y⟩)
        · exact ⟨e, List.mem_cons_self, hk⟩
        · exact ⟨x, List.mem_cons_of_mem _ hx, y⟩
      · rintro ⟨x, hx, y⟩
        rcases List.mem_cons.mp hx with rfl | hx
        · exact .inl ((strKind P w).inj x.2 z k y hk)
        · exact .inr ⟨x, hx, y⟩
/-- the values of the payload, whatever their order, are the members, whatever theirs -/
theorem values {D : SD} {l : List Str} {vs : List Value} (p : Pay P w D l) (pm : vs.Perm (D.1.toList.map (·.2))) : ∃ ls : List Str, StrsAre vs ls ∧ ls.Perm l := by
  obtain ⟨l1, r1, m1⟩ := texts D.1.toList p.tx.el
  have e1 : l1.length = l.length := by rw [← StrsAre.length r1, List.length_map, Array.length_toList, p.tx.sz]
  have p1 : l1.Perm l := perm_of l l1 p.nd (fun z hz => (m1 z).mpr ((p.tx.mem z).mp hz)) (by omega)
  have all : ∀ v ∈ vs, ∃ x t, v = .str x t := fun v hv => r1.all v (pm.mem_iff.mp hv)
  refine ⟨vs.map strOf, strsAre_map vs all, ?_⟩
  have e2 := pm.map strOf
  rw [r1.strs] at e2
  exact e2.trans p1
/-- sorted(the set), fewer than 64 members -/
theorem inOrder {a : Addr} {l : List Str} {Q : Value → Shared → Prop} (x : Holds P w s.heap a l) (hh : A.handled = none) (few : l.length < 64)
    (q : ∀ s' p (out : Array Value) (c : Nat) (ls : List Str), (∀ b o, s.heap.get? b = some o → s'.heap.get? b = some o) → s'.gens = s.gens → s'.os = s.os → s.heap.objs.size ≤ p → s'.heap.get? p = some (seqObj "list" out c) →
      StrsAre out.toList ls → ls.Perm l → sortedS ls = true → Q (.ref p) s') : wpAny (model P w) A (call (.builtin "sorted") [.ref a]) Q E s := by
  obtain ⟨⟨es, ep, t⟩, ho, p⟩ := x
  have sz : es.size = l.length := p.tx.sz
  refine Calls.call_function_entry kind_sorted plain_sorted entry_sorted (args_sorted1 _) ?_
  unfold Builtin.«sorted»
  refine wpAny_bind (m := checkCount "sorted" 1 1 _) (wpAny_pure ?_)
  refine wpAny_bind (collect_set (A := A.in1) hh ⟨_, ho, rfl, rfl⟩ p.tx.fit (by show es.size < scanBound; unfold scanBound; omega) p.ris p.led fun s1 vs k1 z1 g1 o1 pm => ?_)
  obtain ⟨ls, r, pl⟩ := values p pm
  have hv : vs.length = l.length := by rw [StrsAre.length r, pl.length_eq]
  refine wpAny_bind (wpAny_newList ?_ (by rw [hv, sizeLine_eq]; omega))
  have at1 : (s1.heap.push (seqObj "list" vs.toArray 0)).get? s1.heap.objs.size = some (seqObj "list" vs.toArray 0) := Heap.get?_push_size _ rfl
  refine wpAny_bind (wpAny_holding (wpAny_call_entry slot_list_sort ⟨_, at1, rfl⟩ entry_list_sort
    (list_sort_treeK strKind_oneLt at1 r.keysOf (fun v1 v2 rest e => keyKind_strs (by rw [← e]; exact r)) (by rw [hv]; exact few) fun st' hp hs => ?_) (args_list_sort _)))
  obtain ⟨ys, b1, b2, b3⟩ := sorted_out_str r hp hs
  obtain ⟨c, hc⟩ := sortedHeap_at (vs := vs) (out := (arrOf st').map (·.2)) at1
  refine ⟨_, rfl, wpAny_pure ⟨_, rfl, q _ s1.heap.objs.size _ c ys (fun b u e => ?_) g1 o1 z1 hc b1 (b2.trans pl) b3⟩⟩
  have e1 := k1 b u e
  have lt := Heap.lt_size e1
  show (sortedHeap (s1.heap.push (seqObj "list" vs.toArray 0)) s1.heap.objs.size vs _).get? b = some u
  rw [sortedHeap_old (Nat.ne_of_lt lt) (by rw [size_push']; exact Nat.lt_succ_of_lt lt)]
  exact Heap.get?_push_of_some _ e1
end
/-- what stands at a: a set of the texts l -/
def SetS (P : Program) (w : World) (a : Addr) (l : List Str) : HO := .ext fun h => Holds P w h a l
section
variable {X : Cx}
def rSetOfS (K : PySem.W.Frag) (P : Program) (w : World) : List V → Hp → VK → Prop := fun xs H Q => ∃ (l : Addr) (ks : List Str), xs = [V.ref l] ∧ SqL K H l (ks.map V.str) ∧ ks.length ≤ 1000 ∧
  ∀ a ls, H a = none → (∀ z, z ∈ ls ↔ z ∈ ks) → ls.length ≤ ks.length → Q (.ref a) (upd H a (SetS P w a ls))
theorem cr_setOfS (hc : X.calm = true) : CallR X (.type "set") (rSetOfS X.K X.prog X.w) := by
  intro pins s σ H xs us Q I r h
  obtain ⟨l, ks, rfl, hl, hk, q⟩ := h
  rw [Vals.ref1 r]
  obtain ⟨its, rv, pl, hz⟩ := I.list hl
  have hn : H s.heap.objs.size = none := I.hok.fresh (Nat.le_refl _)
  refine made (P := X.prog) (w := X.w) ks (I.ok.hd hc) pl.isList (by simpa using rv.strs) (by unfold scanBound; omega) fun h' tk ls hh hm hl k => ?_
  have new : ObjOk X.prog X.w (upd H s.heap.objs.size (SetS X.prog X.w s.heap.objs.size ls)) h' s.heap.objs.size (SetS X.prog X.w s.heap.objs.size ls) :=
    ⟨hh, let ⟨_, e, _⟩ := hh; ⟨_, e⟩, fun h1 h2 x kk => x.kept kk⟩
  exact ⟨.ref s.heap.objs.size, upd H s.heap.objs.size (SetS X.prog X.w s.heap.objs.size ls), I.laid (t' := tk) k (Nat.le_refl _) new, rfl, q _ ls hn hm hl⟩
def rSortedS (P : Program) (w : World) : List V → Hp → VK → Prop := fun vs H Q => ∃ (a : Addr) (l : List Str), vs = [V.ref a] ∧ H a = some (SetS P w a l) ∧ l.length < 64 ∧
  ∀ (ls : List Str) (p : Addr), ls.Perm l → ls.Nodup → sortedS ls = true → H p = none → Q (.ref p) (upd H p (.lst (ls.map V.str)))
theorem cr_sortedSetS (hc : X.calm = true) : CallR X (.builtin "sorted") (rSortedS X.prog X.w) := by
  intro pins s σ H vs us Q I r h
  obtain ⟨a, l, rfl, ha, few, q⟩ := h
  have R : Holds X.prog X.w s.heap a l := (I.hok a _ ha).1
  have nd : l.Nodup := let ⟨_, _, p⟩ := R; p.nd
  rw [Vals.ref1 r]
  refine inOrder R (I.ok.hd hc) few fun s' p out c ls k g o hp hg hi pm so => ?_
  have hlen : (ls.map V.str).length ≤ sizeLine := by rw [List.length_map, pm.length_eq, sizeLine_eq]; omega
  have hn : H p = none := I.hok.fresh hp
  have J : Inv X pins σ (upd H p (.lst (ls.map V.str))) { s with heap := s'.heap, gens := s'.gens, drawn := s'.drawn, toks := s'.toks } :=
    I.call (ch := []) (Un.laid k hp hn) (I.hok.laid k hp ⟨hlen, out.toList, c, vals_of_strs hi, hg⟩) (by rw [g]; exact I.bare) (fun _ z => nomatch z)
  have e : s' = { s with heap := s'.heap, gens := s'.gens, drawn := s'.drawn, toks := s'.toks } := by
    cases s'
    cases s
    cases o
    rfl
  rw [e]
  exact ⟨.ref p, _, J, rfl, q ls p pm (pm.nodup_iff.mpr nd) so hn⟩
end
end Tset

/-! sorted(xs), xs a list of tuples of a text and ints: a new list of the same tuples in some order -/
namespace Row4
open PySem PySem.Spec PyProof.Rows L2 Srt
/-- v is a tuple of the text x and the ints ns -/
def IsRow (h : Heap) (v : Value) (x : Str) (ns : List Int) : Prop := ∃ a o t us n, v = .ref a ∧ h.get? a = some o ∧ o.cls = .type "tuple" ∧ o.data = .seq (Value.str x t :: us).toArray n ∧ IntsAre us ns
theorem IsRow.keeps {h h' : Heap} {v : Value} {x : Str} {ns : List Int} (p : IsRow h v x ns) (k : ∀ b o, h.get? b = some o → o.cls = .type "tuple" → h'.get? b = some o) : IsRow h' v x ns := by
  obtain ⟨a, o, t, us, n, e, ho, hc, r⟩ := p
  exact ⟨a, o, t, us, n, e, k _ _ ho hc, hc, r⟩
section
variable {prog : Program} {w : World} {A : Around} {s : Shared}
theorem lexInts (fin : Bool) : ∀ (us us' : List Value) (ns ns' : List Int) (i : Nat), IntsAre us ns → IntsAre us' ns' → ∃ c, PySem.W.KatLex prog w A true fin (fun b s' => s' = s ∧ b = c) (us.zip us') (i + 1) s
  | [], _, _, _, i, _, _ => ⟨fin, PySem.W.kat_nil ⟨rfl, rfl⟩⟩
  | _ :: _, [], _, _, i, _, _ => ⟨fin, PySem.W.kat_nil ⟨rfl, rfl⟩⟩
  | _ :: us, _ :: us', _, _, i, .cons x t r, .cons y u r' => by
    obtain ⟨c, hc⟩ := lexInts fin us us' _ _ (i + 1) r r'
    by_cases e : x = y
    · refine ⟨c, PySem.W.kat_cons (SeqAt.EqAt.int_int x t y u prog w _ _ ?_)⟩
      have e1 : (x == y) = true := by rw [e]; exact beq_self_eq_true y
      rw [e1]
      exact PySem.W.kat_yes hc
    · refine ⟨decide (x < y), PySem.W.kat_cons (SeqAt.EqAt.int_int x t y u prog w _ _ ?_)⟩
      rw [beq_eq_false_iff_ne.mpr e]
      refine PySem.W.kat_no (PySem.W.kat_one _ _ (PyProof.Rows.lt_int ?_))
      exact (show s = s ∧ decide (x < y) = decide (x < y) from ⟨rfl, rfl⟩)
theorem rows_tot {vs : List Value} (hp : ∀ v ∈ vs, ∃ x ns, IsRow s.heap v x ns) : Tot prog w A s (tuples' true) (fun p => p.1 ∈ vs) := by
  intro p q hm hm'
  obtain ⟨x, ns, a, o, t, us, n, e, ho, hc, hd, hi⟩ := hp _ hm
  obtain ⟨x', ns', a', o', t', us', n', e', ho', hc', hd', hi'⟩ := hp _ hm'
  rw [e, e']
  by_cases ex : x = x'
  · obtain ⟨c, hc⟩ := lexInts (prog := prog) (w := w) (A := A) (s := s) (decide ((Value.str x t :: us).toArray.size < (Value.str x' t' :: us').toArray.size)) us us' ns ns' 0 hi hi'
    refine ⟨c, PySem.W.kat_lt ho hd ho' hd' ?_⟩
    refine PySem.W.kat_cons (SeqAt.EqAt.str_str x t x' t' prog w _ _ ?_)
    have e1 : (x == x') = true := by rw [ex]; exact beq_self_eq_true x'
    rw [e1]
    exact PySem.W.kat_yes hc
  · refine ⟨decide (x.cps.toList < x'.cps.toList), PySem.W.kat_lt ho hd ho' hd' ?_⟩
    refine PySem.W.kat_cons (SeqAt.EqAt.str_str x t x' t' prog w _ _ ?_)
    have e1 : (x == x') = false := beq_eq_false_iff_ne.mpr ex
    rw [e1]
    exact PySem.W.kat_no (oneLt_str ⟨rfl, rfl⟩)
theorem heads {h : Heap} : ∀ {vs : List Value}, (∀ v ∈ vs, ∃ x ns, IsRow h v x ns) → ∃ fs : List Value, PySem.W.KatTups h vs fs ∧ fs.length = vs.length ∧ ∀ f ∈ fs, ∃ x t, f = Value.str x t
  | [], _ => ⟨[], PySem.W.KatTups.nil, rfl, fun _ z => nomatch z⟩
  | v :: vs, hp => by
    obtain ⟨fs, a1, a2, a3⟩ := heads fun z hz => hp z (List.mem_cons_of_mem _ hz)
    obtain ⟨x, ns, a, o, t, us, n, rfl, ho, hc, hd, _⟩ := hp v List.mem_cons_self
    refine ⟨.str x t :: fs, .cons ho hc hd rfl a1, by simp only [List.length_cons, a2], fun f hf => ?_⟩
    rcases List.mem_cons.mp hf with rfl | z
    · exact ⟨x, t, rfl⟩
    · exact a3 f z
theorem rows_sortable {a : Addr} {vs : List Value} (h0 : 0 < vs.length) (hp : ∀ v ∈ vs, ∃ x ns, IsRow s.heap v x ns) (ha : ∀ o, s.heap.get? a = some o → o.cls ≠ .type "tuple") : Sortable prog w A s a vs := by
  intro h' keep
  have hp' : ∀ v ∈ vs, ∃ x ns, IsRow h' v x ns := fun v hv =>
    let ⟨x, ns, p⟩ := hp v hv
    ⟨x, ns, p.keeps fun b o e c => keep b o (fun z => ha o (z ▸ e) c) e⟩
  obtain ⟨fs, a1, a2, a3⟩ := heads hp'
  refine ⟨tuples' true, fun Q E q => ?_, rows_tot hp'⟩
  refine PySem.W.kat_kind (T := .type "str") a1 (by omega) (fun f hf => ?_) (by rfl) ?_
  · obtain ⟨x, t, rfl⟩ := a3 f hf
    exact PySem.W.Looks.now
  · rw [show (Value.type "str" != Value.type "tuple") = true by first | decide +kernel | rfl]
    exact q
end
section
variable {X : Cx}
/-- x stands for a tuple of a text and ints -/
def RowV (K : PySem.W.Frag) (H : Hp) (x : V) : Prop := ∃ (t : Addr) (z : Str) (ns : List Int), x = .ref t ∧ SqT K H t (.str z :: ns.map V.int)
def rSortRows (K : PySem.W.Frag) : List V → Hp → VK → Prop := fun vs H Q => ∃ (a : Addr) (xs : List V), vs = [V.ref a] ∧ SqL K H a xs ∧ (∀ x ∈ xs, RowV K H x) ∧ ∀ ys p, ys.Perm xs → H p = none → Q (.ref p) (upd H p (.lst ys))
theorem back : ∀ {xs : List V} {us : List Value}, Vals xs us → (∀ x ∈ xs, ∃ t, x = V.ref t) → ∀ {out : List Value}, out.Perm us → ∃ ys : List V, ys.Perm xs ∧ Vals ys out := by
  intro xs us r hx out p
  have f : ∀ {xs : List V} {us : List Value}, Vals xs us → (∀ x ∈ xs, ∃ t, x = V.ref t) → ∃ as : List Addr, xs = as.map V.ref ∧ us = as.map Value.ref := by
    intro xs us r
    induction r with
    | nil => exact fun _ => ⟨[], rfl, rfl⟩
    | cons a _ ih =>
      intro hx
      obtain ⟨t, rfl⟩ := hx _ List.mem_cons_self
      obtain ⟨as, e1, e2⟩ := ih fun x hm => hx x (List.mem_cons_of_mem _ hm)
      cases a
      exact ⟨t :: as, by rw [e1]; rfl, by rw [e2]; rfl⟩
  obtain ⟨as, e1, e2⟩ := f r hx
  subst e1 e2
  have g : ∀ v ∈ out, ∃ t, v = Value.ref t := fun v hv => by
    obtain ⟨t, _, e⟩ := List.mem_map.mp (p.mem_iff.mp hv)
    exact ⟨t, e.symm⟩
  have k : ∀ out : List Value, (∀ v ∈ out, ∃ t, v = Value.ref t) → ∃ bs : List Addr, out = bs.map Value.ref := by
    intro out
    induction out with
    | nil => exact fun _ => ⟨[], rfl⟩
    | cons v out ih =>
      intro h
      obtain ⟨t, rfl⟩ := h v List.mem_cons_self
      obtain ⟨bs, e⟩ := ih fun u hu => h u (List.mem_cons_of_mem _ hu)
      exact ⟨t :: bs, by rw [e]; rfl⟩
  obtain ⟨bs, rfl⟩ := k out g
  have unref : ∀ l : List Addr, (l.map Value.ref).map (fun v => match v with | .ref a => V.ref a | _ => V.non) = l.map V.ref := fun l => by rw [List.map_map]; rfl
  have q := p.map (fun v => match v with | .ref a => V.ref a | _ => V.non)
  rw [unref, unref] at q
  refine ⟨bs.map V.ref, q, ?_⟩
  clear q unref g p
  induction bs with
  | nil => exact .nil
  | cons b bs ih => exact .cons rfl (ih)
theorem cr_sortRows : CallR X (.builtin "sorted") (rSortRows X.K) := by
  intro pins s σ H vs us Q I r h
  obtain ⟨a, xs, rfl, hs, hx, q⟩ := h
  obtain ⟨its, rv, hl, hz⟩ := I.list hs
  rw [Vals.ref1 r]
  have rows : ∀ v ∈ its, ∃ x ns, IsRow s.heap v x ns := fun v hv => by
    obtain ⟨i, hi⟩ := List.mem_iff_getElem?.mp hv
    have hil : i < xs.length := by
      have := (List.getElem?_eq_some_iff.mp hi).1
      rw [rv.length]
      exact this
    obtain ⟨u, hu, ru⟩ := rv.get (List.getElem?_eq_getElem hil)
    rw [hi] at hu
    cases hu
    obtain ⟨t, z, ns, e, ht⟩ := hx _ (List.getElem_mem hil)
    rw [e] at ru
    obtain ⟨ws, rw_, ⟨ob, ho, hc, n, hd⟩, _⟩ := I.tuple ht
    cases ru
    cases rw_ with
    | cons r1 r2 =>
      obtain ⟨tk, rfl⟩ := r1
      exact ⟨z, ns, t, ob, tk, _, n, rfl, ho, hc, hd, Vals.ints r2⟩
  refine sorted_any hl.isList (by rw [← rv.length]; exact hz) (fun h2 h1 b hb k => ?_) fun out p => ?_
  · refine rows_sortable (s := { s with heap := h1 }) (by omega) (fun v hv => ?_) fun o e => ?_
    · obtain ⟨x, ns, y⟩ := rows v hv
      exact ⟨x, ns, y.keeps fun b o e _ => (k b o e).2⟩
    · have e' : some o = some (seqObj "list" its.toArray 0) := e.symm.trans hb
      cases e'
      exact fun c => absurd (Value.type.inj c) (by decide)
  · obtain ⟨ep, he⟩ := PyProof.Rows.sortedAll_at s.heap its out.toArray
    obtain ⟨ys, py, ry⟩ := back rv (fun x m => let ⟨t, _, _, e, _⟩ := hx x m; ⟨t, e⟩) p
    have hlen : ys.length ≤ sizeLine := by rw [py.length_eq]; exact hz
    exact ⟨.ref _, upd H (s.heap.objs.size + 1) (.lst ys), I.laid (t' := s.toks) (fun _ _ => PyProof.Rows.sortedAll_old) (Nat.le_succ _) ⟨hlen, out, ep, ry, he⟩, rfl, q ys _ py (I.hok.fresh (Nat.le_succ _))⟩
end
end Row4

/-! a, b, *rest = t, t a tuple: the names ahead of the star, the rest as a new list -/
namespace Star2
open PySem PySem.Spec PyProof.Rows L2
theorem nolen_ti : typeLookup (.type "tuple_iterator") "__len__" = pure none := by rw [typeLookup_type, builtinLookup_eq_fast]; kernel_rfl
theorem hint_ti : typeLookup (.type "tuple_iterator") "__length_hint__" = pure (some (.builtin "tuple_iterator.__length_hint__")) := by rw [typeLookup_type, builtinLookup_eq_fast]; kernel_rfl
section
variable {prog : Program} {w : World} {A : Around} {E : Value → Shared → Prop} {s : Shared}
/-- the walk of a tuple from its k-th item on -/
theorem from_ {I ax : Addr} {items : Array Value} {k : Nat} (W : Walks prog w A I [I, ax] [I] items.size (fun i v => items[i]? = some v) (fun i h => h.IsTupleIter I ax i ∧ h.IsTuple ax items)) (hk : k ≤ items.size) :
    Walks prog w A I [I, ax] [I] (items.size - k) (fun i v => items[i + k]? = some v) (fun i h => h.IsTupleIter I ax (i + k) ∧ h.IsTuple ax items) where
  sub := W.sub
  frame := fun i => W.frame (i + k)
  item := fun i s Q E hi st q => W.item (i + k) s Q E (by omega) st fun v h' tk pv st' kk => q v h' tk pv ((show i + k + 1 = i + 1 + k by omega) ▸ st') kk
  done := fun s Q E st q => W.done s Q E ((show items.size - k + k = items.size by omega) ▸ st) q
  self := fun i => W.self (i + k)
/-- what is left of the walk, gathered -/
theorem rest {it t : Addr} {items : Array Value} {k : Nat} {Q : List Value → Shared → Prop} (hh : A.handled = none) (hit : s.heap.IsTupleIter it t k) (ht : s.heap.IsTuple t items) (ne : t ≠ it) (hk : k ≤ items.size) (hz : items.size ≤ sizeLine)
    (q : ∀ (h' : Heap) (tk : Nat), (∀ b o, b ≠ it → s.heap.get? b = some o → h'.get? b = some o) → s.heap.objs.size ≤ h'.objs.size → Q (items.toList.drop k) { s with heap := h', toks := tk }) : wpAny (model prog w) A (collect (.ref it)) Q E s := by
  have W := (from_ (Walks.tuple (prog := prog) (w := w) (A := A.in1) hh it t ne items) hk).toS
  obtain ⟨oi, hoi, _⟩ := id hit
  obtain ⟨ot, hot, _⟩ := id ht
  have n1 : s.heap.objs.size ≠ it := Nat.ne_of_gt (Heap.lt_size hoi)
  have n2 : s.heap.objs.size ≠ t := Nat.ne_of_gt (Heap.lt_size hot)
  have nS : s.heap.objs.size ∉ [it, t] := by simp only [List.mem_cons, List.not_mem_nil, or_false, not_or]; exact ⟨n1, n2⟩
  unfold collect
  refine wpAny_bind (wpAny_runValue (codeAny_builtin F.entry_proto_collect ?_))
  rw [Around.under_plainId F.plain_proto_collect _]
  refine wpAny_bind (m := newList []) (wpAny_newObj_type ?_)
  refine wpAny_pure ⟨plainId_quiet F.plain_list_iadd _, codeAny_builtin F.entry_list_iadd ?_⟩
  rw [Around.under_plainId F.plain_list_iadd _]
  generalize eo : ({ cls := .type "list", data := .seq ([] : List Value).toArray } : Obj) = ob
  have at1 : (s.heap.push ob).get? s.heap.objs.size = some ob := Heap.get?_push_size _ (by subst eo; rfl)
  have it1 : (s.heap.push ob).IsTupleIter it t (0 + k) := by rw [Nat.zero_add]; exact hit.at fun o e => Heap.get?_push_of_some _ e
  have ht1 : (s.heap.push ob).IsTuple t items := ht.push _
  have ty : ({ s with heap := s.heap.push ob } : Shared).TypeIs (.ref it) "tuple_iterator" := Heap.IsTupleIter.typeIs (s := { s with heap := s.heap.push ob }) it1
  have other : Builtin.List.listSameRef (.ref s.heap.objs.size) (.ref it) = false := by simp [Builtin.List.listSameRef, n1]
  subst eo
  show wpAny _ A.in1 (Builtin.List.listExtendWith (.ref s.heap.objs.size) (.ref it) (.ref s.heap.objs.size)) _ _ _
  unfold Builtin.List.listExtendWith
  refine wpAny_bind (wpAny_typeOf ty ?_)
  rw [if_neg (by rw [other]; decide)]
  refine wpAny_bind (wpAny_pyIter_tupleiter (s := { s with heap := s.heap.push _ }) it1 ?_)
  refine wpAny_bind (wpAny_holding ?_)
  unfold Builtin.List.listLengthHint
  refine wpAny_bind (wpAny_specialOf ty nolen_ti ?_)
  show wpAny _ A.in1 (specialOf (Value.ref it) (Str.ofString "__length_hint__") >>= _) _ _ _
  refine wpAny_bind (wpAny_specialOf ty hint_ti ?_)
  generalize hid : ("tuple_iterator.__length_hint__" : String) = id0
  wp_delta
  rw [show splitId id0 = some ("tuple_iterator", "__length_hint__") from by subst hid; decide +kernel]
  subst hid
  refine wpAny_bind (wpAny_isInstance (b := true) ty (by rw [isSubtype_type]; kernel_rfl) ?_)
  refine wpAny_pure ?_
  rw [if_neg (by decide)]
  refine wpAny_pure ⟨plainId_quiet F.plain_extend_loop _, codeAny_extend_loopS W (by omega) _ nS _ (items.size - k) 0 _ _ _ rfl (Nat.zero_le _) ⟨it1, ht1⟩ at1 (ItemsOf.nil _) fun s' acc c mv at2 got => ?_⟩
  show wpAny _ A (load s.heap.objs.size >>= _) _ _ s'
  refine wpAny_bind (wpAny_load at2 (wpAny_pure ?_))
  have ea : acc.toList = items.toList.drop k := by
    refine List.ext_getElem? fun i => ?_
    rw [List.getElem?_drop, Array.getElem?_toList, Array.getElem?_toList]
    have hs : acc.size = items.size - k := got.1
    by_cases hi : i < acc.size
    · have z := got.2 i acc[i] (Array.getElem?_eq_getElem hi)
      rw [Array.getElem?_eq_getElem hi, Nat.add_comm k i]
      exact z.symm
    · rw [Array.getElem?_eq_none (by omega), Array.getElem?_eq_none (by omega)]
  show Q acc.toList s'
  rw [ea, Moved.eq_with mv]
  refine q s'.heap s'.toks (fun b o hb e => mv.heap b o (fun hm => ?_) (Heap.get?_push_of_some _ e)) (Nat.le_of_lt (Heap.lt_size at2))
  rcases List.mem_cons.mp hm with z | hm
  · exact absurd (Heap.lt_size e) (by rw [z]; exact Nat.lt_irrefl _)
  · exact hb (List.mem_singleton.mp hm)
theorem items_star {t : Addr} {items : Array Value} {i n : Nat} {Q : List Value → Shared → Prop} (hh : A.handled = none) (ht : IsTup s.heap t items) (hi : i + 1 = n) (hl : i ≤ items.size) (hz : items.size ≤ sizeLine)
    (q : ∀ (h' : Heap) (tk : Nat), (∀ b o, s.heap.get? b = some o → h'.get? b = some o) → s.heap.objs.size ≤ h'.objs.size →
      Q (items.toList.take i ++ [.ref h'.objs.size]) { s with heap := h'.push { cls := .type "list", data := .seq (items.toList.drop i).toArray }, toks := tk }) :
    wpAny (model prog w) A (unpackItems (.ref t) n (some i)) Q E s := by
  have nt : t ≠ s.heap.objs.size := by obtain ⟨o, ho, _⟩ := ht; exact Nat.ne_of_lt (Heap.lt_size ho)
  unfold unpackItems
  refine wpAny_bind ?_
  unfold notIterableAtAll
  refine wpAny_bind (wpAny_specialOf ht.typeIs slot_tuple_iter.lookup (wpAny_pure ?_))
  simp only [Bool.false_eq_true, if_false]
  refine wpAny_bind (wpAny_holding (iter_tuple ht ?_))
  refine wpAny_bind (wpAny_holding (draw_tuple nt i 0 _ _ ⟨_, Heap.get?_push_size _ rfl, rfl, rfl⟩ (ht.push _) (by omega) fun h1 it1 sb => ?_))
  have e1 : List.take i (List.drop 0 items.toList) = items.toList.take i := by rw [List.drop_zero]
  rw [e1]
  have len1 : (items.toList.take i).length = i := by rw [List.length_take, Array.length_toList]; omega
  rw [if_neg (by rw [len1]; omega)]
  have ht1 : IsTup h1 t items := (ht.push _).extBut sb.extBut nt
  obtain ⟨ot, hot, hoc, hod⟩ := id ht1
  obtain ⟨oi, hoi, hic, hid⟩ := id it1
  refine wpAny_bind (wpAny_holding (rest (k := i) hh (by rw [Nat.zero_add] at it1; exact it1) ht1 nt hl hz fun h2 tk k2 z2 => ?_))
  have ea : n - 1 - i = 0 := by omega
  rw [ea]
  try dsimp only
  rw [if_neg (by omega)]
  have em : (items.toList.drop i).length - 0 = (items.toList.drop i).length := rfl
  rw [em, List.take_length, List.drop_length]
  refine wpAny_bind (wpAny_newList ?_ (by rw [List.length_drop, Array.length_toList]; omega))
  refine wpAny_pure ?_
  rw [List.append_nil]
  refine q h2 tk (fun b o e => ?_) ?_
  · have hb : b ≠ s.heap.objs.size := Nat.ne_of_lt (Heap.lt_size e)
    exact k2 b o hb (sb.extBut b o hb (Heap.get?_push_of_some _ e))
  · exact Nat.le_trans (Nat.le_of_lt (Heap.lt_size hoi)) z2
end
section
variable {X : Cx}
/-- names ahead of the star: their targets' readings; then the starred one's -/
def gStar (K : PySem.W.Frag) (i : Nat) (t : TGs) : TG := fun v σ H Q => ∃ a xs, v = .ref a ∧ SqT K H a xs ∧ i ≤ xs.length ∧ ∀ p, H p = none → t (xs.take i ++ [.ref p]) σ (upd H p (.lst (xs.drop i))) Q
theorem pgs_star {e : Expr} {pos : Pos} {t : TG} (h1 : PG X e t) (hs : (assignEach [.Starred e pos] X.env).map (·.2) = [assign e X.env] := by rfl) : PGs X [.Starred e pos] (gCons t gNil) := by
  refine ⟨fun pins s σ H vs us Q I r h => ?_⟩
  obtain ⟨v, vr, rfl, h⟩ := h
  cases r with
  | cons r rr =>
    rw [hs]
    refine assignInOrder_cons (thn (h1.run pins s σ H _ _ _ I r h) fun _ s1 ⟨σ1, H1, I1, e1, q1⟩ => ?_)
    subst e1
    cases rr
    exact assignInOrder_nil ⟨σ1, H1, I1, q1⟩
theorem pg_star {es : List Expr} {k : Nat} {t : TGs} {i : Nat} {pos : Pos} (hc : X.calm = true) (h : PGs X es t) (hn : (assignEach es X.env).length = i + 1 := by rfl) (hst : (assignEach es X.env).findIdx? (·.1) = some i := by rfl) : PG X (.Tuple es k pos) (gStar X.K i t) := by
  refine ⟨fun pins s σ H v u Q I r hw => ?_⟩
  obtain ⟨a, xs, rfl, hq, hl, hw⟩ := hw
  cases r
  obtain ⟨its, rv, ht, hz⟩ := I.tuple hq
  have el := rv.length
  rw [assign_Tuple]
  refine wpAny_bind (wpAny_standAt ?_)
  unfold unpack
  rw [hn, hst]
  refine wpAny_bind (wpAny_holding (items_star (I.ok.hd hc) ht rfl (by simp; omega) (by simp; omega) fun h' tk kk hs => ?_))
  have keep : ∀ b o, s.heap.get? b = some o → (h'.push { cls := .type "list", data := .seq (its.toArray.toList.drop i).toArray }).get? b = some o := fun b o e => Heap.get?_push_of_some _ (kk b o e)
  have hp : H h'.objs.size = none := I.hok.fresh hs
  have new : ObjOk X.prog X.w (upd H h'.objs.size (.lst (xs.drop i))) (h'.push { cls := .type "list", data := .seq (its.toArray.toList.drop i).toArray }) h'.objs.size (.lst (xs.drop i)) :=
    ⟨by rw [List.length_drop]; omega, its.drop i, 0, rv.drop i, by rw [Heap.get?_push_size _ rfl]⟩
  have J : Inv X pins σ (upd H h'.objs.size (.lst (xs.drop i))) { s with heap := h'.push { cls := .type "list", data := .seq (its.toArray.toList.drop i).toArray }, toks := tk } := I.laid keep hs new
  exact h.run pins _ σ _ _ _ Q J (Vals.append (by simpa using rv.take i) (.cons (show RelV (V.ref h'.objs.size) (Value.ref h'.objs.size) from rfl) .nil)) (hw _ hp)
end
end Star2

/-! zip of a tuple and a list: two walks of different kinds side by side -/
namespace Zmix
open PySem PySem.Spec PyProof.Rows L2
/-- what a walk at i over l needs to stand, and stands on -/
def Looks (i l : Addr) (P : Heap → Prop) : Prop := ∀ h h' : Heap, P h → (∀ b o, b = i ∨ b = l → h.get? b = some o → h'.get? b = some o) → P h'
/-- the walk's next item: only the walk's own object moves -/
def Gives (prog : Program) (w : World) (i : Addr) (x : Value) (P P' : Heap → Prop) : Prop :=
  ∀ (A : Around) (E : Value → Shared → Prop) (s : Shared) (Q : Value → Shared → Prop), P s.heap → (∀ h', P' h' → Heap.SameBut i s.heap h' → Q x { s with heap := h' }) → wpAny (model prog w) A (Builtin.SmallTypes.nextOf (.ref i)) Q E s
def Halts (prog : Program) (w : World) (i : Addr) (P : Heap → Prop) : Prop :=
  ∀ (A : Around) (E : Value → Shared → Prop) (s : Shared) (Q : Value → Shared → Prop), A.handled = none → P s.heap → (∀ h' e, Heap.ExtBut i s.heap h' → (∃ o, h'.get? e = some o ∧ o.cls = .type "StopIteration") → E (.ref e) { s with heap := h' }) → wpAny (model prog w) A (Builtin.SmallTypes.nextOf (.ref i)) Q E s
abbrev TW (i l : Addr) (k : Nat) (xs : Array Value) (h : Heap) : Prop := h.IsTupleIter i l k ∧ h.IsTuple l xs
abbrev LW (i l : Addr) (k : Nat) (xs : Array Value) (h : Heap) : Prop := h.IsListIter i l k ∧ h.IsList l xs
theorem looksT (i l : Addr) (k : Nat) (xs : Array Value) : Looks i l (TW i l k xs) := fun h h' p q => ⟨p.1.at fun o e => q i o (.inl rfl) e, by
  obtain ⟨o, ho, r⟩ := p.2
  exact ⟨o, q l o (.inr rfl) ho, r⟩⟩
theorem looksL (i l : Addr) (k : Nat) (xs : Array Value) : Looks i l (LW i l k xs) := fun h h' p q => ⟨p.1.at fun o e => q i o (.inl rfl) e, by
  obtain ⟨o, ho, r⟩ := p.2
  exact ⟨o, q l o (.inr rfl) ho, r⟩⟩
section
variable {prog : Program} {w : World} {A : Around} {E : Value → Shared → Prop} {s : Shared}
theorem givesT {i l : Addr} {k : Nat} {xs : Array Value} {x : Value} (ne : l ≠ i) (hx : xs[k]? = some x) : Gives prog w i x (TW i l k xs) (TW i l (k + 1) xs) := fun A E s Q p q =>
  RZ.nextOf_tuple_item p.1 p.2 hx fun h' a b => q h' ⟨a, p.2.extBut b.extBut ne⟩ b
theorem givesL {i l : Addr} {k : Nat} {xs : Array Value} {x : Value} (ne : l ≠ i) (hx : xs[k]? = some x) : Gives prog w i x (LW i l k xs) (LW i l (k + 1) xs) := fun A E s Q p q =>
  wpAny_nextOf_list_item p.1 p.2 hx fun h' a b => q h' ⟨a, p.2.extBut b.extBut ne⟩ b
theorem haltsT {i l : Addr} {k : Nat} {xs : Array Value} (hx : xs[k]? = none) : Halts prog w i (TW i l k xs) := fun A E s Q hh p q => RZ.nextOf_tuple_end hh p.1 p.2 hx q
/-- the next pair of two walks -/
theorem pair_next {z TI TO i1 i2 l1 l2 : Addr} {P1 P1' P2 P2' : Heap → Prop} {x y a b : Value} {Q : Option Value → Shared → Prop} (D : ZipApart z TI TO i1 i2 l1 l2)
    (k1 : Looks i1 l1 P1) (k1' : Looks i1 l1 P1') (k2 : Looks i2 l2 P2) (k2' : Looks i2 l2 P2') (g1 : Gives prog w i1 x P1 P1') (g2 : Gives prog w i2 y P2 P2')
    (hz : IsZip s.heap z TI TO .none) (hTI : IsPair s.heap TI (.ref i1) (.ref i2)) (hTO : IsPair s.heap TO a b) (p1 : P1 s.heap) (p2 : P2 s.heap)
    (q : ∀ h', IsZip h' z TI TO (rawInt s.heap.objs.size) → IsPair h' TO x y → P1' h' → P2' h' → IsPair h' s.heap.objs.size x y →
      (∀ c o, c ≠ z → c ≠ TO → c ≠ i1 → c ≠ i2 → s.heap.get? c = some o → h'.get? c = some o) → Q (some (.ref s.heap.objs.size)) { s with heap := h' }) :
    wpAny (model prog w) A (pyNext (.ref z)) Q E s := by
  have hT : s.TypeIs (.ref z) "zip" := ⟨_, hz, rfl⟩
  unfold pyNext
  refine wpAny_bind (wpAny_attempt (wpAny_callSpecial?_slot (name := Str.ofString "__next__") hT F.slot_zip_next (wpAny_call_entry F.slot_zip_next hT F.entry_zip_next ?_ (F.args_zip_next_1 _))))
  show wpAny _ _ (field (.ref z) 2 >>= _) _ _ _
  refine wpAny_bind (wpAny_field hz rfl (x := .bool false) rfl ?_)
  show wpAny _ _ (field (.ref z) 3 >>= _) _ _ _
  refine wpAny_bind (wpAny_field hz rfl (x := .ref TI) rfl (wpAny_bind (wpAny_seqItems hTI rfl ?_)))
  show wpAny _ _ (Builtin.SmallTypes.ownedTupleIsFree (.ref z) >>= _) _ _ _
  unfold Builtin.SmallTypes.ownedTupleIsFree
  refine wpAny_bind (wpAny_bind (wpAny_field hz rfl (x := .none) rfl (wpAny_pure ?_)))
  simp only [if_true]
  refine wpAny_bind (wpAny_rule (wpAny_bind (wpAny_field hz rfl (x := .ref TO) rfl ?_)))
  refine wpAny_bind (wpAny_setField_rec hz (by simp) fun hA zA sA => ?_)
  simp only [List.zipIdx_cons, List.zipIdx_nil, List.forIn_cons, List.forIn_nil]
  have uA : ∀ c o, c ≠ z → s.heap.get? c = some o → hA.get? c = some o := fun c o n e => sA.extBut _ _ n e
  refine wpAny_bind (wpAny_bind (wpAny_bind (wpAny_onRaise ?_)))
  refine wpAny_bind (g1 _ _ _ _ (k1 _ _ p1 fun c o hc e => uA c o (by rcases hc with r | r <;> rw [r]; exact D.i1z; exact D.l1z) e) fun hB pB sB => wpAny_pure ?_)
  have uB : ∀ c o, c ≠ z → c ≠ i1 → s.heap.get? c = some o → hB.get? c = some o := fun c o n m e => sB.extBut _ _ m (uA c o n e)
  have tB : IsPair hB TO a b := uB _ _ D.TOz D.TOi1 hTO
  refine wpAny_bind (wpAny_seqItems tB rfl (wpAny_bind (wpAny_updateSeq_pair tB fun hC tC sC => wpAny_bind (wpAny_letGo (wpAny_pure ?_)))))
  have uC : ∀ c o, c ≠ z → c ≠ i1 → c ≠ TO → s.heap.get? c = some o → hC.get? c = some o := fun c o n m k e => sC.extBut _ _ k (uB c o n m e)
  replace tC : IsPair hC TO x b := tC
  refine wpAny_bind (wpAny_bind (wpAny_onRaise ?_))
  refine wpAny_bind (g2 _ _ _ _ (k2 _ _ p2 fun c o hc e => uC c o (by rcases hc with r | r <;> rw [r]; exact D.i2z; exact D.l2z) (by rcases hc with r | r <;> rw [r]; exact D.i12.symm; exact D.l2i1) (by rcases hc with r | r <;> rw [r]; exact D.TOi2.symm; exact D.l2TO) e) fun hD pD sD => wpAny_pure ?_)
  have tD : IsPair hD TO x b := sD.extBut _ _ D.TOi2 tC
  refine wpAny_bind (wpAny_seqItems tD rfl (wpAny_bind (wpAny_updateSeq_pair tD fun hF tF sF => wpAny_bind (wpAny_letGo (wpAny_pure (wpAny_pure ?_))))))
  replace tF : IsPair hF TO x y := tF
  have uF : ∀ c o, c ≠ z → c ≠ i1 → c ≠ TO → c ≠ i2 → s.heap.get? c = some o → hF.get? c = some o := fun c o n m k j e => sF.extBut _ _ k (sD.extBut _ _ j (uC c o n m k e))
  have same : hF.objs.size = s.heap.objs.size := by rw [sF.1, sD.1, sC.1, sB.1, sA.1]
  have zF := sF.extBut _ _ D.TOz.symm (sD.extBut _ _ D.i2z.symm (sC.extBut _ _ D.TOz.symm (sB.extBut _ _ D.i1z.symm zA)))
  have f1 : P1' hF := k1' hB hF pB fun c o hc e => sF.extBut _ _ (by rcases hc with r | r <;> rw [r]; exact D.TOi1.symm; exact D.l1TO) (sD.extBut _ _ (by rcases hc with r | r <;> rw [r]; exact D.i12; exact D.l1i2) (sC.extBut _ _ (by rcases hc with r | r <;> rw [r]; exact D.TOi1.symm; exact D.l1TO) e))
  have f2 : P2' hF := k2' hD hF pD fun c o hc e => sF.extBut _ _ (by rcases hc with r | r <;> rw [r]; exact D.TOi2.symm; exact D.l2TO) e
  refine wpAny_bind (wpAny_seqItems tF rfl (wpAny_bind (wpAny_newTuple ?_)))
  show wpAny _ _ (Builtin.SmallTypes.ownedTupleHandOut (.ref z) (.ref hF.objs.size) >>= _) _ _ _
  unfold Builtin.SmallTypes.ownedTupleHandOut
  refine wpAny_bind (wpAny_bind (wpAny_setField_rec (Heap.get?_push_of_some _ zF) (by simp) fun hG zG sG => wpAny_setField_rec zG (by simp) fun hI zI sI => wpAny_pure ?_))
  have zlt : z < hF.objs.size := Heap.lt_size zF
  have up : ∀ c o, c ≠ z → hF.get? c = some o → hI.get? c = some o := fun c o n e => sI.extBut _ _ n (sG.extBut _ _ n (Heap.get?_push_of_some _ e))
  have new : IsPair hI hF.objs.size x y := sI.extBut _ _ (Nat.ne_of_gt zlt) (sG.extBut _ _ (Nat.ne_of_gt zlt) (Heap.get?_push_size _ rfl))
  have zE : IsZip hI z TI TO (rawInt hF.objs.size) := zI
  rw [same] at new zE
  refine ⟨_, rfl, wpAny_pure ?_⟩
  show Q (some (.ref hF.objs.size)) _
  rw [same]
  exact q hI zE (up _ _ D.TOz tF) (k1' _ _ f1 fun c o hc e => up c o (by rcases hc with r | r <;> rw [r]; exact D.i1z; exact D.l1z) e) (k2' _ _ f2 fun c o hc e => up c o (by rcases hc with r | r <;> rw [r]; exact D.i2z; exact D.l2z) e) new
    fun c o n m j k e => up c o n (uF c o n j m k e)
/-- the first walk is at its end -/
theorem pair_end {z TI TO i1 i2 l1 l2 : Addr} {P1 : Heap → Prop} {a b : Value} {Q : Option Value → Shared → Prop} (hh : A.handled = none) (D : ZipApart z TI TO i1 i2 l1 l2)
    (k1 : Looks i1 l1 P1) (g1 : Halts prog w i1 P1) (hz : IsZip s.heap z TI TO .none) (hTI : IsPair s.heap TI (.ref i1) (.ref i2)) (hTO : IsPair s.heap TO a b) (p1 : P1 s.heap)
    (q : ∀ h', (∀ c o, c ≠ z → c ≠ TO → c ≠ i1 → c ≠ i2 → s.heap.get? c = some o → h'.get? c = some o) → Q none { s with heap := h' }) : wpAny (model prog w) A (pyNext (.ref z)) Q E s := by
  have hT : s.TypeIs (.ref z) "zip" := ⟨_, hz, rfl⟩
  unfold pyNext
  refine wpAny_bind (wpAny_attempt (wpAny_callSpecial?_slot (name := Str.ofString "__next__") hT F.slot_zip_next (wpAny_call_entry F.slot_zip_next hT F.entry_zip_next ?_ (F.args_zip_next_1 _))))
  show wpAny _ _ (field (.ref z) 2 >>= _) _ _ _
  refine wpAny_bind (wpAny_field hz rfl (x := .bool false) rfl ?_)
  show wpAny _ _ (field (.ref z) 3 >>= _) _ _ _
  refine wpAny_bind (wpAny_field hz rfl (x := .ref TI) rfl (wpAny_bind (wpAny_seqItems hTI rfl ?_)))
  show wpAny _ _ (Builtin.SmallTypes.ownedTupleIsFree (.ref z) >>= _) _ _ _
  unfold Builtin.SmallTypes.ownedTupleIsFree
  refine wpAny_bind (wpAny_bind (wpAny_field hz rfl (x := .none) rfl (wpAny_pure ?_)))
  simp only [if_true]
  refine wpAny_bind (wpAny_rule (wpAny_bind (wpAny_field hz rfl (x := .ref TO) rfl ?_)))
  refine wpAny_bind (wpAny_setField_rec hz (by simp) fun hA zA sA => ?_)
  simp only [List.zipIdx_cons, List.zipIdx_nil, List.forIn_cons, List.forIn_nil]
  have uA : ∀ c o, c ≠ z → s.heap.get? c = some o → hA.get? c = some o := fun c o n e => sA.extBut _ _ n e
  refine wpAny_bind (wpAny_bind (wpAny_bind (wpAny_onRaise ?_)))
  refine wpAny_bind (g1 _ _ _ _ hh (k1 _ _ p1 fun c o hc e => uA c o (by rcases hc with r | r <;> rw [r]; exact D.i1z; exact D.l1z) e) fun hB e sB he => ?_)
  obtain ⟨oe, hoe, hce⟩ := he
  have zB := sB _ _ D.i1z.symm zA
  have ne : e ≠ z := fun r => by
    subst r
    rw [zB] at hoe
    cases hoe
    simp at hce
  refine wpAny_setField_rec zB (by simp) fun hC zC sC => ?_
  refine wpAny_bind (wpAny_isInstance (T := "StopIteration") (b := true) ⟨oe, sC.extBut _ _ ne hoe, hce⟩ isSubtype_stop ?_)
  exact wpAny_pure (q _ fun c o n m j k r => sC.extBut _ _ n (sB _ _ j (uA c o n r)))
end
abbrev hp1 (h : Heap) (l1 : Addr) : Heap := h.push { cls := .type "tuple_iterator", data := .fields #[.ref l1, .int 0 0] }
abbrev hp2 (h : Heap) (l1 l2 : Addr) : Heap := (hp1 h l1).push { cls := .type "list_iterator", data := .fields #[.ref l2, .int 0 0] }
abbrev hp3 (h : Heap) (l1 l2 : Addr) : Heap := (hp2 h l1 l2).push { cls := .type "tuple", data := .seq #[.ref h.objs.size, .ref (hp1 h l1).objs.size] }
abbrev hp4 (h : Heap) (l1 l2 : Addr) : Heap := (hp3 h l1 l2).push { cls := .type "tuple", data := .seq #[.none, .none] }
abbrev hp5 (h : Heap) (l1 l2 : Addr) : Heap := (hp4 h l1 l2).push { cls := .type "zip", data := .fields #[.none, .bool false, .bool false, .ref (hp2 h l1 l2).objs.size, .ref (hp3 h l1 l2).objs.size] }
theorem made (l1 l2 : Addr) (xs ys : Array Value) : Meets (Builtin.«zip.__new__» ⟨[.type "zip", .ref l1, .ref l2], []⟩) (fun _ R s => s.heap.IsTuple l1 xs ∧ s.heap.IsList l2 ys ∧ R (.ok (.ret (.ref (hp4 s.heap l1 l2).objs.size))) { s with heap := hp5 s.heap l1 l2 }) :=
  .of_wp fun prog w A R s q => by
    obtain ⟨hp, g, d, tk, os⟩ := s
    obtain ⟨t1, t2, q⟩ := q
    have hsub := sub_zip
    have w1 : Heap.IsTuple (Shared.heap ⟨hp, g, d, tk, os⟩) l1 xs := t1
    have w2 : Heap.IsList (Shared.heap ⟨hp.push { cls := .type "tuple_iterator", data := .fields #[.ref l1, .int 0 0] }, g, d, tk, os⟩) l2 ys := Heap.IsList.push t2 _
    wp_walk using wpAny_pyIter_tuple w1, wpAny_pyIter_list w2
    exact ⟨_, rfl, q⟩
theorem call_mix {prog : Program} {w : World} {A : Around} {E : Value → Shared → Prop} {s : Shared} {l1 l2 : Addr} {xs ys : Array Value} {Q : Value → Shared → Prop} (t1 : s.heap.IsTuple l1 xs) (t2 : s.heap.IsList l2 ys)
    (q : ∀ h', IsZip h' (s.heap.objs.size + 4) (s.heap.objs.size + 2) (s.heap.objs.size + 3) .none → IsPair h' (s.heap.objs.size + 2) (.ref s.heap.objs.size) (.ref (s.heap.objs.size + 1)) →
      IsPair h' (s.heap.objs.size + 3) .none .none → h'.IsTupleIter s.heap.objs.size l1 0 → h'.IsListIter (s.heap.objs.size + 1) l2 0 → (∀ c o, s.heap.get? c = some o → h'.get? c = some o) → Q (.ref (s.heap.objs.size + 4)) { s with heap := h' }) :
    wpAny (model prog w) A (call (.type "zip") [.ref l1, .ref l2]) Q E s := by
  refine callType_new F.called_zip (by decide) (F.typeCall_zip_2 _ _) (F.newCall_zip_2 _ _) (fun obj => F.args_object_init_3 obj _ _) F.entry_zip_new (made l1 l2 xs ys) ⟨t1, t2, ?_⟩
  have e1 : (hp1 s.heap l1).objs.size = s.heap.objs.size + 1 := Heap.size_push ..
  have e2 : (hp2 s.heap l1 l2).objs.size = s.heap.objs.size + 2 := by rw [Heap.size_push, e1]
  have e3 : (hp3 s.heap l1 l2).objs.size = s.heap.objs.size + 3 := by rw [Heap.size_push, e2]
  have e4 : (hp4 s.heap l1 l2).objs.size = s.heap.objs.size + 4 := by rw [Heap.size_push, e3]
  have a5 : (hp5 s.heap l1 l2).get? (hp4 s.heap l1 l2).objs.size = some _ := Heap.get?_push_size _ rfl
  have a4 : (hp5 s.heap l1 l2).get? (hp3 s.heap l1 l2).objs.size = some _ := Heap.get?_push_of_some _ (Heap.get?_push_size _ rfl)
  have a3 : (hp5 s.heap l1 l2).get? (hp2 s.heap l1 l2).objs.size = some _ := Heap.get?_push_of_some _ (Heap.get?_push_of_some _ (Heap.get?_push_size _ rfl))
  have a2 : (hp5 s.heap l1 l2).get? (hp1 s.heap l1).objs.size = some _ := Heap.get?_push_of_some _ (Heap.get?_push_of_some _ (Heap.get?_push_of_some _ (Heap.get?_push_size _ rfl)))
  have a1 : (hp5 s.heap l1 l2).get? s.heap.objs.size = some _ := Heap.get?_push_of_some _ (Heap.get?_push_of_some _ (Heap.get?_push_of_some _ (Heap.get?_push_of_some _ (Heap.get?_push_size _ rfl))))
  show _ ∧ _
  rw [e2, e3, e4] at a5
  rw [e1, e2] at a3
  rw [e3] at a4
  rw [e1] at a2
  rw [e4]
  exact ⟨⟨_, a5, rfl⟩, q _ a5 a3 a4 ⟨_, a1, rfl, rfl⟩ ⟨_, a2, rfl, rfl⟩ fun c o z => Heap.get?_push_of_some _ (Heap.get?_push_of_some _ (Heap.get?_push_of_some _ (Heap.get?_push_of_some _ (Heap.get?_push_of_some _ z))))⟩
/-- the tuple at a and the list at b as they stand at each turn -/
def ItM (K : PySem.W.Frag) (a b : Addr) : It :=
  ⟨fun i H => ∃ (xs ys : List V) (x y : V), SqT K H a xs ∧ SqL K H b ys ∧ xs[i]? = some x ∧ ys[i]? = some y,
    fun i H v H' => ∃ T x y, v = .ref T ∧ H T = none ∧ H' = upd H T (.tup [x, y]) ∧ (∀ xs, SqT K H a xs → xs[i]? = some x) ∧ ∀ ys, SqL K H b ys → ys[i]? = some y,
    fun i H => ∃ xs : List V, SqT K H a xs ∧ xs.length ≤ i⟩
theorem five {a b c d e : Addr} {x : Addr} (h : x ∈ [a, b, c, d, e]) : x = a ∨ x = b ∨ x = c ∨ x = d ∨ x = e := by simpa using h
theorem turn_mix {P : Program} {w : World} {K : PySem.W.Frag} {elts : List Expr} {kk : Nat} {tpos : Pos} {a b z TI TO i1 i2 : Addr} (D : ZipApart z TI TO i1 i2 a b) :
    Turn P w K (.Tuple elts kk tpos) (ItM K a b) [z, TI, TO, i1, i2] z (fun i h => IsZip h z TI TO .none ∧ IsPair h TI (.ref i1) (.ref i2) ∧ (∃ x y, IsPair h TO x y) ∧ h.IsTupleIter i1 a i ∧ h.IsListIter i2 b i) where
  mem := List.mem_cons_self
  obj := fun i h st c hc => by
    obtain ⟨hz, hTI, ⟨x, y, hTO⟩, ⟨o1, e1, _, d1⟩, ⟨o2, e2, _, d2⟩⟩ := st
    rcases five hc with r | r | r | r | r <;> rw [r]
    · exact ⟨_, hz, fun v q => nomatch q⟩
    · exact ⟨_, hTI, fun v q => nomatch q⟩
    · exact ⟨_, hTO, fun v q => nomatch q⟩
    · exact ⟨o1, e1, fun v q => by rw [d1] at q; cases q⟩
    · exact ⟨o2, e2, fun v q => by rw [d2] at q; cases q⟩
  keep := fun i h h' st k => by
    obtain ⟨hz, hTI, ⟨x, y, hTO⟩, h1, h2⟩ := st
    exact ⟨k z (by simp) _ hz, k TI (by simp) _ hTI, ⟨x, y, k TO (by simp) _ hTO⟩, h1.at fun o q => k i1 (by simp) o q, h2.at fun o q => k i2 (by simp) o q⟩
  item := by
    intro X hP hw hK hc i pins s σ H E I hf st hg
    subst hP hw hK
    obtain ⟨hz, hTI, ⟨x0, y0, hTO⟩, h1, h2⟩ := st
    obtain ⟨xs, ys, x, y, hqx, hqy, hx, hy⟩ := hg
    obtain ⟨its, rv, p, _⟩ := I.tuple hqx
    obtain ⟨its2, rv2, p2, _⟩ := I.list hqy
    obtain ⟨u, hu, ru⟩ := rv.get hx
    obtain ⟨u2, hu2, ru2⟩ := rv2.get hy
    have hzl : z < s.heap.objs.size := Heap.lt_size hz
    refine pair_next D (looksT i1 a i its.toArray) (looksT i1 a (i + 1) its.toArray) (looksL i2 b i its2.toArray) (looksL i2 b (i + 1) its2.toArray) (givesT (x := u) D.l1i1 (by simpa using hu)) (givesL (x := u2) D.l2i2 (by simpa using hu2)) hz hTI hTO ⟨h1, p⟩ ⟨h2, p2.isList⟩ fun h' z' TO' h1' h2' hT hk => ?_
    refine ⟨_, rfl, wpAny_letOwnedTupleGo_zip (s := { s with heap := h' }) z' fun h'' z'' sb => ?_⟩
    have hT2 : h''.get? s.heap.objs.size = some { cls := .type "tuple", data := .seq #[u, u2] } := (sb.2 _ (Nat.ne_of_gt hzl)).trans hT
    have new : ObjOk X.prog X.w (upd H s.heap.objs.size (.tup [x, y])) h'' s.heap.objs.size (.tup [x, y]) := ⟨by show 2 ≤ sizeLine; decide, [u, u2], .cons ru (.cons ru2 .nil), ⟨_, hT2, rfl, _, rfl⟩⟩
    have I1 : Inv X pins σ (upd H s.heap.objs.size (.tup [x, y])) { s with heap := h'' } := I.turnedNew (t' := s.toks) (ch := [z, TI, TO, i1, i2])
      (fun c o hb q => (sb.2 c (fun r => hb (by simp [r]))).trans (hk c o (fun r => hb (by simp [r])) (fun r => hb (by simp [r])) (fun r => hb (by simp [r])) (fun r => hb (by simp [r])) q)) hf (Nat.le_refl _) new
    refine ⟨.ref s.heap.objs.size, _, I1, rfl, ⟨_, x, y, rfl, I.hok.fresh (Nat.le_refl _), rfl, fun l hl => by rw [I.tuple_inj hl hqx]; exact hx, fun l hl => by rw [I.list_inj hl hqy]; exact hy⟩, ⟨z'', (sb.2 _ D.TIz).trans (hk _ _ D.TIz D.TITO D.TIi1 D.TIi2 hTI), ⟨u, u2, (sb.2 _ D.TOz).trans TO'⟩, h1'.1.at fun o q => (sb.2 _ D.i1z).trans q, h2'.1.at fun o q => (sb.2 _ D.i2z).trans q⟩, fun c hcm => ?_⟩
    have hlt : c < s.heap.objs.size := by
      rcases five hcm with r | r | r | r | r <;> rw [r]
      · exact hzl
      · exact Heap.lt_size hTI
      · exact Heap.lt_size hTO
      · obtain ⟨_, e1, _⟩ := h1
        exact Heap.lt_size e1
      · obtain ⟨_, e2, _⟩ := h2
        exact Heap.lt_size e2
    rw [upd_ne (Nat.ne_of_lt hlt)]
    exact (hf c hcm).1
  done := by
    intro X hP hw hK hc i pins s σ H E I hf st hg
    subst hP hw hK
    obtain ⟨hz, hTI, ⟨x0, y0, hTO⟩, h1, h2⟩ := st
    obtain ⟨xs, hqx, hend⟩ := hg
    obtain ⟨its, rv, p, _⟩ := I.tuple hqx
    have e := rv.length
    exact pair_end (I.ok.hd hc) D (looksT i1 a i its.toArray) (haltsT (by simp; omega)) hz hTI hTO ⟨h1, p⟩ fun h' hk => ⟨rfl, I.turnedL (t' := s.toks) (ch := [z, TI, TO, i1, i2])
      (fun c o hb q => hk c o (fun r => hb (by simp [r])) (fun r => hb (by simp [r])) (fun r => hb (by simp [r])) (fun r => hb (by simp [r])) q) hf⟩
  self := fun A i s Q E st h => wpAny_pyIter_zip st.1 h
def iZipM (K : PySem.W.Frag) (ta : TA) : TI := fun σ H R => ta σ H fun vs H1 => ∃ a b xs ys, vs = [.ref a, .ref b] ∧ SqT K H1 a xs ∧ SqL K H1 b ys ∧ R (ItM K a b) H1
theorem pi_zipM {X : Cx} {e e2 : Expr} {ta : TA} {p pos tpos : Pos} {elts : List Expr} {kk : Nat} (hg : Gl X "zip") (hm : X.mg "zip" = none) (ha : PA X [e, e2] ta)
    (hs : starEach [e, e2] X.env = (false, eval e X.env) :: starEach [e2] X.env := by rfl) (hpl : (backTo pos (starEach [e2] X.env)).any (·.1) = false := by rfl) :
    PI X (.Tuple elts kk tpos) (.Call (.Name "zip" p) [e, e2] [] pos) (iZipM X.K ta) := by
  refine ⟨fun pins s σ H R I h => Call_ (ld_blt I hg hm PyProof.Rows.boot_zip (PyProof.Rows.callWith_type1 (thn (ha.run pos pins s σ H _ I h) fun us s1 ⟨vs, H1, I1, r1, q1⟩ => ?_) hs hpl))⟩
  obtain ⟨a, b, xs, ys, ex, hqx, hqy, q⟩ := q1
  subst ex
  cases r1 with
  | cons r rr =>
    cases rr with
    | cons r' rr =>
      cases rr
      cases r
      cases r'
      obtain ⟨its, rv, p1, _⟩ := I1.tuple hqx
      obtain ⟨its2, rv2, p2, _⟩ := I1.list hqy
      obtain ⟨o1, ho1, _⟩ := id p1
      refine call_mix (show s1.heap.IsTuple a its.toArray from p1) p2.isList fun h' hz hTI hTO h1 h2 hk => wpAny_pyIter_zip hz ?_
      have I2 : Inv X pins σ H1 { s1 with heap := h' } := I1.kept (t' := s1.toks) hk
      refine ⟨s1.heap.objs.size + 4, [s1.heap.objs.size + 4, s1.heap.objs.size + 2, s1.heap.objs.size + 3, s1.heap.objs.size, s1.heap.objs.size + 1], _, _, H1, rfl, I2, turn_mix (PySem.W.ktu_apart s1.heap.objs.size a b (Heap.lt_size ho1) p2.lt), ⟨hz, hTI, ⟨_, _, hTO⟩, h1, h2⟩, fun c hcm => ?_, q⟩
      have hle : s1.heap.objs.size ≤ c := by
        rcases five hcm with z | z | z | z | z <;> rw [z]
        · exact Nat.le_add_right _ _
        · exact Nat.le_add_right _ _
        · exact Nat.le_add_right _ _
        · exact Nat.le_refl _
        · exact Nat.le_add_right _ _
      exact I1.fpOk hle (I1.hok.fresh hle)
/-- a loop over the two, of one length -/
theorem for_mix {K : PySem.W.Frag} {a b : Addr} {xs ys : List V} {g : TG} {tb : TS} {D : Ends} {σ : L2.St} {H : Hp} (hl : xs.length = ys.length) (Pv : Nat → L2.St → Hp → Prop) (h0 : Pv 0 σ H) (hq : ∀ i σ H, Pv i σ H → SqT K H a xs ∧ SqL K H b ys)
    (hs : ∀ (i : Nat) (x y : V) (T : Addr) (σ : L2.St) (H : Hp), xs[i]? = some x → ys[i]? = some y → Pv i σ H → H T = none → g (.ref T) σ (upd H T (.tup [x, y])) fun σ2 H2 => tb { D with nx := Pv (i + 1), ct := Pv (i + 1), bk := D.nx } σ2 H2) (hd : ∀ σ H, Pv xs.length σ H → D.nx σ H) :
    ∃ W : Nat → Nat → L2.St → Hp → Prop, (∃ m, W 0 m σ H) ∧ ∀ i m σ H, W i m σ H →
      ((ItM K a b).stop i H ∧ D.nx σ H) ∨ ((ItM K a b).go i H ∧ ∃ N : L2.St → Hp → Prop, (∀ σ' H', N σ' H' → ∃ m', m' < m ∧ W (i + 1) m' σ' H') ∧ ∀ v H', (ItM K a b).yld i H v H' → g v σ H' fun σ2 H2 => tb { D with nx := N, ct := N, bk := D.nx } σ2 H2) := by
  refine ⟨fun i m σ H => m + i = xs.length ∧ Pv i σ H, ⟨xs.length, Nat.add_zero _, h0⟩, fun i m σ H => ?_⟩
  rintro ⟨hm, p⟩
  obtain ⟨qx, qy⟩ := hq i σ H p
  cases m with
  | zero =>
    have e : i = xs.length := by omega
    subst e
    exact .inl ⟨⟨xs, qx, Nat.le_refl _⟩, hd σ H p⟩
  | succ m =>
    have l1 : i < xs.length := by omega
    have l2 : i < ys.length := by omega
    refine .inr ⟨⟨xs, ys, _, _, qx, qy, List.getElem?_eq_getElem l1, List.getElem?_eq_getElem l2⟩, Pv (i + 1), fun σ' H' p' => ⟨m, Nat.lt_succ_self _, by omega, p'⟩, fun v H' y => ?_⟩
    obtain ⟨T, x', y', rfl, hT, rfl, f1, f2⟩ := y
    exact hs i x' y' T σ H (f1 xs qx) (f2 ys qy) p hT
end Zmix

/-! enumerate(list, start=c) -/
namespace Enum1
open PySem PySem.Spec PyProof.Rows L2
section
variable {M : Model} {A : Around} {E : Value → Shared → Prop} {s : Shared} {env : Env}
/-- a built-in class called with names -/
theorem with_names {pos : Pos} {T : String} {e : Expr} {rest : List Expr} {kws : List Keyword} {Q : Value → Shared → Prop}
    (h : wpAny M A (spliced (backTo pos (starEach (e :: rest) env))) (fun vs s₁ => wpAny M A (evalAll ((backToKw pos (keywordEach kws env)).map (·.2)))
      (fun kvs s₂ => wpAny M A (call (.type T) vs (((backToKw pos (keywordEach kws env)).filterMap (·.1)).zip kvs)) Q E s₂) E s₁) E s)
    (he : backTo pos (starEach (e :: rest) env) = (false, eval e env) :: backTo pos (starEach rest env) := by rfl)
    (hp : (backTo pos (starEach (e :: rest) env)).any (·.1) = false := by rfl)
    (hall : (backToKw pos (keywordEach kws env)).all (·.1.isSome) = true := by rfl)
    (hkw : (backToKw pos (keywordEach kws env)).any (·.1.isNone) = false := by rfl) :
    wpAny M A (callWith pos (.type T) [] (backTo pos (starEach (e :: rest) env)) (backToKw pos (keywordEach kws env))) Q E s := by
  have args : wpAny M A (evalArgs (.type T) true (backTo pos (starEach (e :: rest) env)) (backToKw pos (keywordEach kws env))) (fun a s₁ => wpAny M A (call (.type T) ([] ++ a.pos) a.kw) Q E s₁) E s := by
    rw [he] at h ⊢
    exact evalArgs_kwB hall h
  unfold callWith
  refine wpAny_bind (wpAny_holding (wpAny_mono args (fun a s₁ h₁ => wpAny_bind (wpAny_standAt ?_)) fun _ _ x => x))
  simp only [hp, hkw, Bool.or_false]
  refine wpAny_bind (wpAny_pure ?_)
  exact wpAny_bind (wpAny_mono h₁ (fun r s₂ hr => wpAny_bind (wpAny_holding (wpAny_point (wpAny_pure hr)))) fun _ _ x => x)
end
/-- the list at a as it stands at each turn, each item behind its number -/
def Itc (K : PySem.W.Frag) (a : Addr) (c : Int) : It :=
  ⟨fun i H => ∃ (xs : List V) (x : V), SqL K H a xs ∧ xs[i]? = some x, fun i H v H' => ∃ T x, v = .ref T ∧ H T = none ∧ H' = upd H T (.tup [.int (c + (i : Int)), x]) ∧ ∀ xs, SqL K H a xs → xs[i]? = some x, fun i H => ∃ xs : List V, SqL K H a xs ∧ xs.length = i⟩
theorem turn_c {P : Program} {w : World} {K : PySem.W.Frag} {elts : List Expr} {kk : Nat} {tpos : Pos} (a e it : Addr) (c : Int) :
    Turn P w K (.Tuple elts kk tpos) (Itc K a c) [e, it] e (fun i h => (∃ old, IsEnum h e it (c + (i : Int)) old) ∧ h.IsListIter it a i ∧ e ≠ it ∧ a ≠ it ∧ a ≠ e) where
  mem := List.mem_cons_self
  obj := fun i h st b hb => by
    obtain ⟨⟨old, he⟩, ⟨o, ho, hc, hd⟩, _⟩ := st
    rcases List.mem_cons.mp hb with z | z
    · rw [z]
      exact ⟨_, he, fun v q => nomatch q⟩
    · rw [List.mem_singleton.mp z]
      exact ⟨o, ho, fun v q => by rw [hd] at q; cases q⟩
  keep := fun i h h' st k => let ⟨⟨old, he⟩, hi, ne⟩ := st; ⟨⟨old, k e (by simp) _ he⟩, hi.at fun o q => k it (by simp) o q, ne⟩
  item := by
    intro X hP hw hK hc i pins s σ H E I hf st hg
    subst hP hw hK
    obtain ⟨⟨old, he⟩, hit, hne, hai, hae⟩ := st
    obtain ⟨xs, x, hq, hx⟩ := hg
    obtain ⟨its, rv, p, hz⟩ := I.list hq
    obtain ⟨u, hu, ru⟩ := rv.get hx
    have hel : e < s.heap.objs.size := Heap.lt_size he
    have hil : it < s.heap.objs.size := by obtain ⟨_, q, _⟩ := hit; exact Heap.lt_size q
    have hlt : i < its.toArray.size := by
      have := (List.getElem?_eq_some_iff.mp hu).1
      simpa using this
    refine wpAny_pyNext_enum_itemC (Draws.list (A := X.A.in1) (I.ok.hd hc) it a hai its.toArray) he ⟨hit, p.isList⟩ hlt hne (by simp only [List.mem_cons, List.not_mem_nil, or_false, not_or]; exact ⟨hne, hae.symm⟩) fun x' h' tk hx' ho hst hT hsz hk => ?_
    have ex : x' = u := by
      have h1 : its.toArray[i]? = some u := by simpa using hu
      exact Option.some.inj (hx'.symm.trans h1)
    subst ex
    refine ⟨_, rfl, wpAny_letOwnedTupleGo_enum (s := { s with heap := h', toks := tk + 1 }) ho fun h'' he' sb => ?_⟩
    have hT2 : h''.get? s.heap.objs.size = some { cls := .type "tuple", data := .seq #[.int (c + (i : Int)) tk, x'] } := (sb.2 _ (Nat.ne_of_gt hel)).trans hT
    have new : ObjOk X.prog X.w (upd H s.heap.objs.size (.tup [.int (c + (i : Int)), x])) h'' s.heap.objs.size (.tup [.int (c + (i : Int)), x]) :=
      ⟨by show 2 ≤ sizeLine; decide, [.int (c + (i : Int)) tk, x'], .cons ⟨_, rfl⟩ (.cons ru .nil), ⟨_, hT2, rfl, _, rfl⟩⟩
    have I1 : Inv X pins σ (upd H s.heap.objs.size (.tup [.int (c + (i : Int)), x])) { s with heap := h'', toks := tk + 1 } :=
      I.turnedNew (ch := [e, it]) (fun b ob hb q => (sb.2 b (fun z => hb (by simp [z]))).trans (hk b ob (fun z => hb (by simp [z])) (fun z => hb (by simp [z])) q)) hf (Nat.le_refl _) new
    refine ⟨.ref s.heap.objs.size, _, I1, rfl, ⟨_, x, rfl, I.hok.fresh (Nat.le_refl _), rfl, fun ys hy => by rw [I.list_inj hy hq]; exact hx⟩, ⟨⟨x', ?_⟩, hst.1.at fun o q => (sb.2 it (Ne.symm hne)).trans q, hne, hai, hae⟩, fun b hb => ?_⟩
    · have e1 : c + ((i + 1 : Nat) : Int) = c + (i : Int) + 1 := by omega
      rw [e1]
      exact he'
    · have hb' : b < s.heap.objs.size := by
        rcases List.mem_cons.mp hb with z | z
        · rw [z]
          exact hel
        · rw [List.mem_singleton.mp z]
          exact hil
      rw [upd_ne (Nat.ne_of_lt hb')]
      exact (hf b hb).1
  done := by
    intro X hP hw hK hc i pins s σ H E I hf st hg
    subst hP hw hK
    obtain ⟨⟨old, he⟩, hit, hne, hai, hae⟩ := st
    obtain ⟨xs, hq, hx⟩ := hg
    obtain ⟨its, rv, p, hz⟩ := I.list hq
    obtain ⟨f0, f1, f2, f3, f4, f5⟩ := hf it (by simp)
    have hl := rv.length
    have hi : i = its.toArray.size := by rw [List.size_toArray]; omega
    subst hi
    exact wpAny_pyNext_enum_endD (Draws.list (A := X.A.in1) (I.ok.hd hc) it a hai its.toArray) he ⟨hit, p.isList⟩ fun h' eb => ⟨rfl, I.turned (t' := s.toks) (fun b o hb q => eb b o hb q) f0 f1 f3 f4 f5⟩
  self := fun A i s Q E st h => let ⟨⟨_, he⟩, _⟩ := st; wpAny_pyIter_enum he h
def iEnumC (K : PySem.W.Frag) (ta tk : TA) : TI := fun σ H R => ta σ H fun vs H1 => tk σ H1 fun zs H2 => ∃ (a : Addr) (xs : List V) (c : Int), vs = [.ref a] ∧ zs = [.int c] ∧ -(2 ^ 63) ≤ c ∧ c < 2 ^ 63 ∧ SqL K H2 a xs ∧ R (Itc K a c) H2
theorem pi_enumC {X : Cx} {e : Expr} {kws : List Keyword} {ta tk : TA} {p pos tpos : Pos} {elts : List Expr} {kk : Nat} (hg : Gl X "enumerate") (hm : X.mg "enumerate" = none) (ha : PA X [e] ta) (hk : PK X kws tk)
    (he : backTo pos (starEach [e] X.env) = (false, eval e X.env) :: backTo pos (starEach [] X.env) := by rfl) (hpl : (backTo pos (starEach [e] X.env)).any (·.1) = false := by rfl)
    (hall : (backToKw pos (keywordEach kws X.env)).all (·.1.isSome) = true := by rfl) (hnone : (backToKw pos (keywordEach kws X.env)).any (·.1.isNone) = false := by rfl) (hks : (backToKw pos (keywordEach kws X.env)).filterMap (·.1) = [Str.ofString "start"] := by rfl) :
    PI X (.Tuple elts kk tpos) (.Call (.Name "enumerate" p) [e] kws pos) (iEnumC X.K ta tk) := by
  refine ⟨fun pins s σ H R I h => ?_⟩
  refine wpAny_Call_Name_kw (ld_blt I hg hm boot_enumerate ?_)
  refine with_names (thn (ha.run pos pins s σ H _ I h) fun us s1 ⟨vs, H1, I1, r1, q1⟩ => thn (hk.run pos pins s1 σ H1 _ I1 q1) fun ws s2 ⟨zs, H2, I2, r2, q2⟩ => ?_) he hpl hall hnone
  rw [hks]
  obtain ⟨a, xs, c, ex, ez, c0, c1, hq, q⟩ := q2
  subst ex ez
  cases r1 with
  | cons r rr =>
    cases rr
    cases r
    cases r2 with
    | cons r' rr =>
      cases rr
      obtain ⟨t, rfl⟩ := r'
      obtain ⟨its, rv, p', hz⟩ := I2.list hq
      have hal : a < s2.heap.objs.size := p'.lt
      refine enum_begins_start (begins_list a its.toArray) p'.isList c0 c1 fun h' hE hO hsz hk => wpAny_pyIter_enum hE ?_
      have I3 : Inv X pins σ H2 { s2 with heap := h' } := I2.kept (t' := s2.toks) hk
      refine ⟨s2.heap.objs.size + 1, [s2.heap.objs.size + 1, s2.heap.objs.size], _, _, H2, rfl, I3, turn_c a (s2.heap.objs.size + 1) s2.heap.objs.size c,
        ⟨⟨.none, by have e0 : c + ((0 : Nat) : Int) = c := by omega
                    rw [e0]
                    exact hE⟩, ⟨_, hO, rfl, rfl⟩, Nat.succ_ne_self _, Nat.ne_of_lt hal, Nat.ne_of_lt (Nat.lt_succ_of_lt hal)⟩, fun b hb => ?_, q⟩
      have hle : s2.heap.objs.size ≤ b := by
        rcases List.mem_cons.mp hb with z | z
        · rw [z]
          exact Nat.le_succ _
        · rw [List.mem_singleton.mp z]
          exact Nat.le_refl _
      exact I2.fpOk hle (I2.hok.fresh hle)
theorem for_enumC {K : PySem.W.Frag} {a : Addr} {c : Int} {xs : List V} {g : TG} {tb : TS} {D : Ends} {σ : L2.St} {H : Hp} (Pv : Nat → L2.St → Hp → Prop) (h0 : Pv 0 σ H) (hq : ∀ i σ H, Pv i σ H → SqL K H a xs)
    (hs : ∀ (i : Nat) (x : V) (T : Addr) (σ : L2.St) (H : Hp), xs[i]? = some x → Pv i σ H → H T = none → g (.ref T) σ (upd H T (.tup [.int (c + (i : Int)), x])) fun σ2 H2 => tb { D with nx := Pv (i + 1), ct := Pv (i + 1), bk := D.nx } σ2 H2) (hd : ∀ σ H, Pv xs.length σ H → D.nx σ H) :
    ∃ W : Nat → Nat → L2.St → Hp → Prop, (∃ m, W 0 m σ H) ∧ ∀ i m σ H, W i m σ H →
      ((Itc K a c).stop i H ∧ D.nx σ H) ∨ ((Itc K a c).go i H ∧ ∃ N : L2.St → Hp → Prop, (∀ σ' H', N σ' H' → ∃ m', m' < m ∧ W (i + 1) m' σ' H') ∧ ∀ v H', (Itc K a c).yld i H v H' → g v σ H' fun σ2 H2 => tb { D with nx := N, ct := N, bk := D.nx } σ2 H2) := by
  refine ⟨fun i m σ H => m + i = xs.length ∧ Pv i σ H, ⟨xs.length, Nat.add_zero _, h0⟩, fun i m σ H => ?_⟩
  rintro ⟨hm, p⟩
  have qx := hq i σ H p
  cases m with
  | zero =>
    have e : i = xs.length := by omega
    subst e
    exact .inl ⟨⟨xs, qx, rfl⟩, hd σ H p⟩
  | succ m =>
    have l1 : i < xs.length := by omega
    refine .inr ⟨⟨xs, _, qx, List.getElem?_eq_getElem l1⟩, Pv (i + 1), fun σ' H' p' => ⟨m, Nat.lt_succ_self _, by omega, p'⟩, fun v H' y => ?_⟩
    obtain ⟨T, x', rfl, hT, rfl, f1⟩ := y
    exact hs i x' T σ H (f1 xs qx) p hT
end Enum1

/-! xs[lo:hi:st] of a list -/
namespace Step2
open PySem PySem.Spec PyProof.Rows L2
/-- the places that a slice with a step picks -/
def spots (lo hi st : Option Int) (n : Nat) : List Nat := sliceRange (sliceBounds lo hi st n).1 (sliceBounds lo hi st n).2.1 (sliceBounds lo hi st n).2.2
def pickV (xs : List V) (lo hi st : Option Int) : List V := (spots lo hi st xs.length).filterMap (xs[·]?)
theorem vals_pick {xs : List V} {us : List Value} (r : Vals xs us) : ∀ is : List Nat, Vals (is.filterMap (xs[·]?)) (is.filterMap (us[·]?))
  | [] => .nil
  | i :: is => by
    have ih := vals_pick r is
    have hl := r.length
    by_cases h : i < xs.length
    · obtain ⟨u, hu, ru⟩ := r.get (List.getElem?_eq_getElem h)
      rw [List.filterMap_cons, List.filterMap_cons]
      simp only [List.getElem?_eq_getElem h, hu]
      exact .cons ru ih
    · rw [List.filterMap_cons, List.filterMap_cons]
      have h2 : ¬ i < us.length := by omega
      simp only [List.getElem?_eq_none (Nat.le_of_not_lt h), List.getElem?_eq_none (Nat.le_of_not_lt h2)]
      exact ih
section
variable {X : Cx} {e : Expr} {lo hi st : Option Expr} {te : TE} {tl th ts : TO} {p2 pos : Pos}
def tStep (K : PySem.W.Frag) (te : TE) (tl th ts : TO) : TE := fun σ H Q => te σ H fun x H1 => tl σ H1 fun l H2 => th σ H2 fun u H3 => ts σ H3 fun o H4 =>
  ∃ a xs, x = .ref a ∧ SqL K H4 a xs ∧ o ≠ some 0 ∧ (pickV xs l u o).length ≤ sizeLine ∧ ∀ p, H4 p = none → Q (.ref p) (upd H4 p (.lst (pickV xs l u o)))
theorem pe_step (he : PE X e te) (hl : PO X lo tl) (hu : PO X hi th) (hst : PO X st ts) (hops : ∀ a b, subscripted (.Slice lo hi st p2) false a b = operate [a, b] (getItem a b) := by exact fun _ _ => rfl) : PE X (.Subscript e (.Slice lo hi st p2) pos) (tStep X.K te tl th ts) := by
  refine ⟨fun pins s σ H Q I h => ?_⟩
  refine Subscript_ (thn (he.run pins s σ H _ I h) fun v s1 ⟨x, H1, I1, r1, q1⟩ => ?_)
  refine wpAny_Slice (thn (hl.run pins s1 σ H1 _ I1 q1) fun vl s2 ⟨l, H2, I2, pl, q2⟩ => thn (hu.run pins s2 σ H2 _ I2 q2) fun vu s3 ⟨u, H3, I3, pu, q3⟩ => thn (hst.run pins s3 σ H3 _ I3 q3) fun vs s4 ⟨o, H4, I4, ps, q4⟩ => ?_)
  obtain ⟨a, xs, ex, hx, ho, hz2, q⟩ := q4
  subst ex
  cases r1
  have I5 : Inv X pins σ H4 { s4 with heap := s4.heap.push { cls := .type "slice", data := .fields #[vl, vu, vs] } } := I4.kept (t' := s4.toks) fun b ob q => Heap.get?_push_of_some _ q
  obtain ⟨its, r, ht, hz⟩ := I5.list hx
  have hlen := r.length
  show wpAny (model X.prog X.w) X.A (subscriptTail e (.Slice lo hi st p2) (.ref a) (.ref s4.heap.objs.size)) (EP X pins σ Q) X.xe { s4 with heap := s4.heap.push { cls := .type "slice", data := .fields #[vl, vu, vs] } }
  refine tail_any (ops := [.ref a, .ref s4.heap.objs.size]) ht.isList.typeIs (PySem.slot_list_getitem.lookup) ?_ (hops _ _)
  refine wpAny_getItem_list_slice ht.isList (Heap.IsSliceOf.new _ vl vu vs) pl pu ps ho ?_ (by rw [List.size_toArray]; omega)
  have ev : slicePick its.toArray l u o = ((spots l u o xs.length).filterMap (its[·]?)).toArray := by
    unfold slicePick spots
    rw [List.size_toArray, hlen]
    simp
  rw [ev]
  refine ⟨.ref _, _, I5.laid (t' := s4.toks) (o := .lst (pickV xs l u o)) (fun b ob q => Heap.get?_push_of_some _ q) (Nat.le_refl _) ?_, rfl, q _ (I5.hok.fresh (Nat.le_refl _))⟩
  exact ⟨hz2, _, 0, vals_pick r _, Heap.get?_push_size _ rfl⟩
end
end Step2

namespace Tw
open PySem PySem.Spec PyProof.Rows L2
/-! what the laws' helpers do to the heap: the draws at d shrink, all else stands -/
def DrA (H : Hp) (d : Addr) : Prop := ∃ ns : List Int, H d = some (.lst (ns.map V.int))
structure Dr (d : Addr) (H H' : Hp) : Prop where
  keep : ∀ b o, b ≠ d → H b = some o → H' b = some o
  at_ : DrA H' d
theorem Dr.refl {d : Addr} {H : Hp} (h : DrA H d) : Dr d H H := ⟨fun _ _ _ e => e, h⟩
theorem Dr.trans {d : Addr} {H H1 H2 : Hp} (a : Dr d H H1) (b : Dr d H1 H2) : Dr d H H2 := ⟨fun c o n e => b.keep c o n (a.keep c o n e), b.at_⟩
theorem Dr.then {d : Addr} {H H1 H2 : Hp} (a : Dr d H H1) (b : Same H1 H2) : Dr d H H2 := ⟨fun c o n e => b c o (a.keep c o n e), let ⟨ns, q⟩ := a.at_; ⟨ns, b d _ q⟩⟩
theorem Dr.of {d : Addr} {H H1 : Hp} (h : DrA H d) (b : Same H H1) : Dr d H H1 := (Dr.refl h).then b
theorem Dr.free {d : Addr} {H H' : Hp} (a : Dr d H H') (h : DrA H d) {l : Addr} (n : H' l = none) : H l = none := by
  cases q : H l with
  | none => rfl
  | some o =>
    by_cases e : l = d
    · obtain ⟨_, z⟩ := a.at_
      rw [e, z] at n
      cases n
    · rw [a.keep l o e q] at n
      cases n
theorem Dr.ne {d : Addr} {H H' : Hp} (a : Dr d H H') {l : Addr} (n : H' l = none) : l ≠ d := fun e => by
  obtain ⟨_, z⟩ := a.at_
  rw [e, z] at n
  cases n
theorem Dr.seq {K : PySem.W.Frag} {d a : Addr} {H H' : Hp} {xs : List V} (r : Dr d H H') (ne : a ≠ d) (h : SqL K H a xs) : SqL K H' a xs := by
  rcases h with (h | ⟨o, h⟩) | h
  · exact .inl (.inl (r.keep _ _ ne h))
  · exact .inl (.inr ⟨o, r.keep _ _ ne h⟩)
  · exact .inr h
theorem same_new {H : Hp} {p : Addr} {o : HO} (h : H p = none) : Same H (upd H p o) := fun b x e => by
  rw [upd_ne (ne_of_none e h)]
  exact e
theorem drA_upd {H : Hp} {d : Addr} (ns : List Int) : DrA (upd H d (.lst (ns.map V.int))) d := ⟨ns, upd_same⟩
theorem dr_upd {H : Hp} {d : Addr} (ns : List Int) : Dr d H (upd H d (.lst (ns.map V.int))) := ⟨fun b o n e => by rw [upd_ne n]; exact e, drA_upd ns⟩
theorem at_last {α : Type} {xs : List α} (h : xs ≠ []) : xs[xs.length - 1]? = some (xs.getLast h) := by
  rw [← List.getLast?_eq_getElem?, List.getLast?_eq_getLast h]
theorem map_at {ns : List Int} {i : Nat} (h : i < ns.length) : (ns.map V.int)[i]? = some (.int ns[i]) := by
  rw [List.getElem?_map, List.getElem?_eq_getElem h]
  rfl
theorem sline : (2000 : Nat) < sizeLine := by decide
theorem small {n : Nat} (h : n ≤ 2000) : n < sizeLine := Nat.lt_of_le_of_lt h sline
theorem small' {n : Nat} (h : n ≤ 2000) : n ≤ sizeLine := Nat.le_of_lt (small h)
theorem atI_z {α : Type} {xs : List α} {z : Int} {j : Nat} {v : α} (e : z = (j : Int)) (h : xs[j]? = some v) : atI xs z = some v := by
  rw [e]
  exact atI_nat h
theorem atI_pos {α : Type} {xs : List α} {z : Int} (h0 : 0 ≤ z) (h1 : z < xs.length) : atI xs z = some (xs[z.toNat]'(by omega)) :=
  atI_z (j := z.toNat) (by omega) (List.getElem?_eq_getElem (by omega))
theorem atM_pos {ns : List Int} {z : Int} (h0 : 0 ≤ z) (h1 : z < ns.length) : atI (ns.map V.int) z = some (.int (ns[z.toNat]'(by omega))) :=
  atI_z (j := z.toNat) (by omega) (map_at (by omega))
/-- an address that was not there at the beginning may be written -/
theorem Dr.keepNew {d p : Addr} {H H' : Hp} {o : HO} (r : Dr d H H') (ne : p ≠ d) (n : H p = none) : Dr d H (upd H' p o) :=
  ⟨fun b x nb e => by rw [upd_ne (ne_of_none e n)]; exact r.keep b x nb e, let ⟨ns, z⟩ := r.at_; ⟨ns, by rw [upd_ne ne.symm]; exact z⟩⟩
/-- the script is read behind every draw -/
theorem Dr.script {K : PySem.W.Frag} {d a : Addr} {H H1 H' : Hp} {xs : List V} (h : SqL K H a xs) (n : H d = none) (s : Same H H1) (r : Dr d H1 H') : SqL K H' a xs := by
  rcases h with (h | ⟨o, h⟩) | h
  · exact .inl (.inl (r.keep _ _ (ne_of_none h n) (s _ _ h)))
  · exact .inl (.inr ⟨o, r.keep _ _ (ne_of_none h n) (s _ _ h)⟩)
  · exact .inr h
theorem same_keep {H H' : Hp} {p : Addr} {o : HO} (s : Same H H') (n : H p = none) : Same H (upd H' p o) := fun b x e => by
  rw [upd_ne (ne_of_none e n)]
  exact s b x e

/-! a plan in the heap -/
structure Mt where
  name : Str
  low : Int
  high : Int
  err : Int
structure Pl where
  len : Int
  ms : List Mt
def MtAt (H : Hp) (t : Addr) (m : Mt) : Prop := H t = some (.tup [.str m.name, .int m.low, .int m.high, .int m.err])
structure PlanAt (H : Hp) (p tm : Addr) (ts : List Addr) (P : Pl) : Prop where
  top : H p = some (.tup [.int P.len, .ref tm])
  mid : H tm = some (.tup (ts.map V.ref))
  low : Paired (MtAt H) ts P.ms
/-- the names in the order of the alphabet, each once -/
def Risen (l : List Str) : Prop := sortedS l = true ∧ l.Nodup
structure MtOk (c : Int) (m : Mt) : Prop where
  order : m.low ≤ m.high
  err0 : 0 ≤ m.err
  err1 : m.err ≤ 60
  lowB : m.low.natAbs ≤ c.natAbs + 3
  highB : m.high.natAbs ≤ 2 * c.natAbs + 3 + 10 ^ 20
structure PlanOk (c : Int) (P : Pl) : Prop where
  len : 1 ≤ P.len
  lenB : P.len ≤ c.natAbs + 60
  some_ : P.ms ≠ []
  few : P.ms.length ≤ 6
  risen : Risen (P.ms.map Mt.name)
  each : ∀ m ∈ P.ms, MtOk c m
theorem Dr.tup {d t : Addr} {H H' : Hp} {xs : List V} (r : Dr d H H') (h : DrA H d) (e : H t = some (.tup xs)) : H' t = some (.tup xs) := by
  obtain ⟨ns, z⟩ := h
  exact r.keep _ _ (ne_of e z (fun q => nomatch q)) e
theorem Dr.mts {d : Addr} {H H' : Hp} (r : Dr d H H') (h : DrA H d) : ∀ {ts : List Addr} {ms : List Mt}, Paired (MtAt H) ts ms → Paired (MtAt H') ts ms
  | _, _, .nil => .nil
  | _, _, .cons a b => .cons (r.tup h a) (Dr.mts r h b)
theorem Dr.plan {d p tm : Addr} {H H' : Hp} {ts : List Addr} {P : Pl} (r : Dr d H H') (h : DrA H d) (x : PlanAt H p tm ts P) : PlanAt H' p tm ts P := ⟨r.tup h x.top, r.tup h x.mid, r.mts h x.low⟩
theorem same_mts {H H' : Hp} (r : Same H H') : ∀ {ts : List Addr} {ms : List Mt}, Paired (MtAt H) ts ms → Paired (MtAt H') ts ms
  | _, _, .nil => .nil
  | _, _, .cons a b => .cons (r _ _ a) (same_mts r b)
theorem PlanAt.same {p tm : Addr} {H H' : Hp} {ts : List Addr} {P : Pl} (r : Same H H') (x : PlanAt H p tm ts P) : PlanAt H' p tm ts P := ⟨r _ _ x.top, r _ _ x.mid, same_mts r x.low⟩
theorem pick {xs : List Int} {vs : List V} {k : Int} (e : vs = xs.map V.int) (h0 : 0 ≤ k) (h1 : k < xs.length) : ∃ v, v ∈ xs ∧ atI vs k = some (.int v) := by
  rw [e]
  exact ⟨_, List.getElem_mem _, atM_pos h0 h1⟩
theorem abs_eq (c : Int) : (if c < 0 then -c else c) = (c.natAbs : Int) := by
  by_cases h : c < 0
  · rw [if_pos h]
    omega
  · rw [if_neg h]
    omega
theorem paired_snoc {α β : Type} {R : α → β → Prop} {xs : List α} {ys : List β} {a : α} {b : β} (h : Paired R xs ys) (r : R a b) : Paired R (xs ++ [a]) (ys ++ [b]) := h.snoc r
theorem map_snoc {ts : List Addr} {t : Addr} : ts.map V.ref ++ [V.ref t] = (ts ++ [t]).map V.ref := by
  rw [List.map_append]
  rfl
/-- a name: letters a to z, one or more, not many -/
def IsW (w : Str) : Prop := w.cps.toList ≠ [] ∧ (∀ c ∈ w.cps.toList, 97 ≤ c ∧ c ≤ 122) ∧ w.length ≤ 200
theorem mts_at {H : Hp} : ∀ {ts : List Addr} {ms : List Mt} {i : Nat} {t : Addr}, Paired (MtAt H) ts ms → ts[i]? = some t → ∃ m, ms[i]? = some m ∧ MtAt H t m
  | _, _, _, _, .nil, h => by simp at h
  | _, _, 0, _, .cons a _, h => by
    cases (Option.some.inj h)
    exact ⟨_, rfl, a⟩
  | _, _, i + 1, _, .cons _ r, h => mts_at (i := i) r h
def mtOf (H : Hp) (t : Addr) : Mt := match H t with
  | some (.tup [.str n, .int a, .int b, .int c]) => ⟨n, a, b, c⟩
  | _ => ⟨⟨#[]⟩, 0, 0, 0⟩
theorem mtOf_at {H : Hp} {t : Addr} {m : Mt} (h : MtAt H t m) : mtOf H t = m := by
  unfold mtOf
  rw [show H t = some (.tup [.str m.name, .int m.low, .int m.high, .int m.err]) from h]
theorem mts_map {H : Hp} : ∀ {ts : List Addr} {ms : List Mt}, Paired (MtAt H) ts ms → ms = ts.map (mtOf H) ∧ ∀ t ∈ ts, MtAt H t (mtOf H t)
  | _, _, .nil => ⟨rfl, fun _ z => nomatch z⟩
  | t :: ts, _ :: ms, .cons a r => by
    obtain ⟨e, k⟩ := mts_map r
    refine ⟨by rw [List.map_cons, mtOf_at a, ← e], fun x hx => ?_⟩
    rcases List.mem_cons.mp hx with rfl | z
    · rw [mtOf_at a]
      exact a
    · exact k x z
theorem mts_of {H : Hp} : ∀ (ts : List Addr), (∀ t ∈ ts, MtAt H t (mtOf H t)) → Paired (MtAt H) ts (ts.map (mtOf H))
  | [], _ => .nil
  | t :: ts, h => .cons (h t List.mem_cons_self) (mts_of ts fun x hx => h x (List.mem_cons_of_mem _ hx))
theorem refs_perm {ys : List V} {ts : List Addr} (p : ys.Perm (ts.map V.ref)) : ∃ us : List Addr, ys = us.map V.ref ∧ us.Perm ts := by
  have g : ∀ ys : List V, (∀ y ∈ ys, ∃ t, y = V.ref t) → ∃ us : List Addr, ys = us.map V.ref := by
    intro ys
    induction ys with
    | nil => exact fun _ => ⟨[], rfl⟩
    | cons y ys ih =>
      intro h
      obtain ⟨t, rfl⟩ := h y List.mem_cons_self
      obtain ⟨us, e⟩ := ih fun u hu => h u (List.mem_cons_of_mem _ hu)
      exact ⟨t :: us, by rw [e]; rfl⟩
  obtain ⟨us, rfl⟩ := g ys fun y hy => by
    obtain ⟨t, _, e⟩ := List.mem_map.mp (p.mem_iff.mp hy)
    exact ⟨t, e.symm⟩
  refine ⟨us, rfl, ?_⟩
  have q := p.map (fun v => match v with | .ref a => a | _ => 0)
  rw [List.map_map, List.map_map] at q
  have e : ∀ l : List Addr, l.map ((fun v => match v with | .ref a => a | _ => 0) ∘ V.ref) = l := fun l => by
    have : ((fun v => match v with | V.ref a => a | _ => 0) ∘ V.ref) = (id : Addr → Addr) := rfl
    rw [this, List.map_id]
  rw [e, e] at q
  exact q
theorem in_names {x : Str} : ∀ ns : List Str, inV (.str x) (ns.map V.str) = decide (x ∈ ns)
  | [] => by simp [inV]
  | n :: ns => by
    have ih := in_names (x := x) ns
    unfold inV at ih ⊢
    rw [List.map_cons, List.any_cons, ih]
    by_cases e : n = x
    · subst e
      simp [eqV]
    · have e1 : eqV (.str n) (.str x) = false := beq_eq_false_iff_ne.mpr e
      have e2 : ¬ x = n := fun z => e z.symm
      rw [e1, Bool.false_or, decide_eq_decide]
      simp [List.mem_cons, e2]
theorem flat_names (ns : List Str) : (ns.map V.str).all flatV = true := by
  rw [List.all_map, List.all_eq_true]
  exact fun _ _ => rfl

/-! a list or a tuple, walked -/
theorem pi_either {X : Cx} {tg l : Expr} {tl : TE} (hl : PE X l tl) : PI X tg l (fun σ H R => iList X.K tl σ H R ∨ iTup X.K tl σ H R) :=
  ⟨fun pins s σ H R I h => h.elim ((pi_list hl).run pins s σ H R I) ((pi_tup hl).run pins s σ H R I)⟩
/-! texts -/
theorem str_ext {a b : Str} (h : a.cps.toList = b.cps.toList) : a = b := by
  cases a with
  | mk x =>
    cases b with
    | mk y =>
      congr 1
      exact Array.ext' h
theorem cps_app (a b : Str) : (a ++ b).cps.toList = a.cps.toList ++ b.cps.toList := by
  show (a.cps ++ b.cps).toList = _
  simp
theorem len_app (a b : Str) : (a ++ b).length = a.length + b.length := by
  show (a.cps ++ b.cps).size = a.cps.size + b.cps.size
  simp
theorem app_assoc (a b c : Str) : a ++ b ++ c = a ++ (b ++ c) := str_ext (by simp only [cps_app, List.append_assoc])
theorem app_empty (a : Str) : a ++ Str.empty = a := str_ext (by rw [cps_app]; exact List.append_nil _)
theorem empty_app (a : Str) : Str.empty ++ a = a := str_ext (by rw [cps_app]; rfl)
/-! letters of a bag -/
inductive Lt where
  | read (n : Str) (slot ver at_ : Int) (v : Option Int)
  | close (n : Str) (aft at_ wit : Int)
  | clock (n : Str) (lo hi : Int)
def optV : Option Int → V
  | none => .non
  | some i => .int i
def Lt.vals : Lt → List V
  | .read n s v a x => [.str "read", .str n, .int s, .int v, .int a, optV x]
  | .close n f a w => [.str "close", .str n, .int f, .int a, .int w]
  | .clock n l h => [.str "clock", .str n, .int l, .int h]
def Lt.name : Lt → Str
  | .read n _ _ _ _ => n
  | .close n _ _ _ => n
  | .clock n _ _ => n
abbrev intT (i : Int) : Str := ((toString i : String) : Str)
def optT : Option Int → Str
  | none => "void"
  | some i => intT i
def Lt.words : Lt → List Str
  | .read n s v a x => ["read", n, "slot", intT s, "version", intT v, "at", intT a, "is", optT x]
  | .close n f a w => ["close", n, "after", intT f, "at", intT a, "with", intT w]
  | .clock n l h => ["clock", n, "from", intT l, "to", intT h]
def Lt.line (l : Lt) : Str := Txt.join " " l.words
/-- a number of at most 60 digits -/
def Nr (i : Int) : Prop := i.natAbs < 10 ^ 60
def Lt.Ok : Lt → Prop
  | .read n s v a x => IsW n ∧ 1 ≤ s ∧ 0 ≤ v ∧ Nr s ∧ Nr v ∧ Nr a ∧ ∀ i, x = some i → Nr i
  | .close n f a w => IsW n ∧ 0 ≤ f ∧ 0 ≤ w ∧ Nr f ∧ Nr a ∧ Nr w
  | .clock n l h => IsW n ∧ Nr l ∧ Nr h
def LtAt (H : Hp) (t : Addr) (l : Lt) : Prop := H t = some (.tup l.vals)
theorem Nr.log {i : Int} (h : Nr i) : i.natAbs.log2 < 1920 := by
  by_cases e : i.natAbs = 0
  · rw [e]
    decide
  · refine (Nat.log2_lt e).mpr (Nat.lt_trans h ?_)
    decide
theorem Nr.len {i : Int} (h : Nr i) : (intT i).length ≤ 61 := by
  have e := int_text_length_le10 (k := 60) (by decide) h
  show (Str.ofString (toString i)).length ≤ 61
  rw [PySem.ofString_length]
  exact e
theorem optT_len {x : Option Int} (h : ∀ i, x = some i → Nr i) : (optT x).length ≤ 61 := by
  cases x with
  | none => decide +kernel
  | some i => exact (h i rfl).len
/-- the line of a letter and its newline -/
def Lt.row (l : Lt) : Str := l.line ++ ("\n" : Str)
def rows (ls : List Lt) : Str := Txt.join "" (ls.map Lt.row)
theorem join_one (s a : Str) : Txt.join s [a] = a := rfl
theorem line_read (n : Str) (s v a : Int) (x : Option Int) : (Lt.read n s v a x).line = ("read " : Str) ++ n ++ (" slot " : Str) ++ intT s ++ (" version " : Str) ++ intT v ++ (" at " : Str) ++ intT a ++ (" is " : Str) ++ optT x := by
  have c1 : ("read " : Str) = ("read" : Str) ++ (" " : Str) := by decide +kernel
  have c2 : (" slot " : Str) = (" " : Str) ++ ("slot" : Str) ++ (" " : Str) := by decide +kernel
  have c3 : (" version " : Str) = (" " : Str) ++ ("version" : Str) ++ (" " : Str) := by decide +kernel
  have c4 : (" at " : Str) = (" " : Str) ++ ("at" : Str) ++ (" " : Str) := by decide +kernel
  have c5 : (" is " : Str) = (" " : Str) ++ ("is" : Str) ++ (" " : Str) := by decide +kernel
  rw [c1, c2, c3, c4, c5]
  show ("read" : Str) ++ (" " : Str) ++ n ++ (" " : Str) ++ ("slot" : Str) ++ (" " : Str) ++ intT s ++ (" " : Str) ++ ("version" : Str) ++ (" " : Str) ++ intT v ++ (" " : Str) ++ ("at" : Str) ++ (" " : Str) ++ intT a ++ (" " : Str) ++ ("is" : Str) ++ (" " : Str) ++ optT x = _
  simp only [app_assoc]
theorem line_close (n : Str) (f a w : Int) : (Lt.close n f a w).line = ("close " : Str) ++ n ++ (" after " : Str) ++ intT f ++ (" at " : Str) ++ intT a ++ (" with " : Str) ++ intT w := by
  have c1 : ("close " : Str) = ("close" : Str) ++ (" " : Str) := by decide +kernel
  have c2 : (" after " : Str) = (" " : Str) ++ ("after" : Str) ++ (" " : Str) := by decide +kernel
  have c4 : (" at " : Str) = (" " : Str) ++ ("at" : Str) ++ (" " : Str) := by decide +kernel
  have c5 : (" with " : Str) = (" " : Str) ++ ("with" : Str) ++ (" " : Str) := by decide +kernel
  rw [c1, c2, c4, c5]
  show ("close" : Str) ++ (" " : Str) ++ n ++ (" " : Str) ++ ("after" : Str) ++ (" " : Str) ++ intT f ++ (" " : Str) ++ ("at" : Str) ++ (" " : Str) ++ intT a ++ (" " : Str) ++ ("with" : Str) ++ (" " : Str) ++ intT w = _
  simp only [app_assoc]
theorem line_clock (n : Str) (l h : Int) : (Lt.clock n l h).line = ("clock " : Str) ++ n ++ (" from " : Str) ++ intT l ++ (" to " : Str) ++ intT h := by
  have c1 : ("clock " : Str) = ("clock" : Str) ++ (" " : Str) := by decide +kernel
  have c2 : (" from " : Str) = (" " : Str) ++ ("from" : Str) ++ (" " : Str) := by decide +kernel
  have c4 : (" to " : Str) = (" " : Str) ++ ("to" : Str) ++ (" " : Str) := by decide +kernel
  rw [c1, c2, c4]
  show ("clock" : Str) ++ (" " : Str) ++ n ++ (" " : Str) ++ ("from" : Str) ++ (" " : Str) ++ intT l ++ (" " : Str) ++ ("to" : Str) ++ (" " : Str) ++ intT h = _
  simp only [app_assoc]
theorem Lt.Ok.word {l : Lt} (h : l.Ok) : IsW l.name := by
  cases l <;> exact h.1
theorem Lt.Ok.row_len {l : Lt} (h : l.Ok) : l.row.length ≤ 1000 := by
  show (l.line ++ ("\n" : Str)).length ≤ 1000
  have w := h.word.2.2
  have k1 : (("\n" : Str)).length ≤ 10 := by decide +kernel
  cases l with
  | read n s v a x =>
    obtain ⟨_, _, _, a1, a2, a3, a4⟩ := h
    have b1 := a1.len
    have b2 := a2.len
    have b3 := a3.len
    have b4 := optT_len a4
    have d1 : (("read " : Str)).length ≤ 10 := by decide +kernel
    have d2 : ((" slot " : Str)).length ≤ 10 := by decide +kernel
    have d3 : ((" version " : Str)).length ≤ 10 := by decide +kernel
    have d4 : ((" at " : Str)).length ≤ 10 := by decide +kernel
    have d5 : ((" is " : Str)).length ≤ 10 := by decide +kernel
    have w' : n.length ≤ 200 := w
    rw [line_read]
    simp only [len_app]
    omega
  | close n f a v =>
    obtain ⟨_, _, _, a1, a2, a3⟩ := h
    have b1 := a1.len
    have b2 := a2.len
    have b3 := a3.len
    have d1 : (("close " : Str)).length ≤ 10 := by decide +kernel
    have d2 : ((" after " : Str)).length ≤ 10 := by decide +kernel
    have d3 : ((" with " : Str)).length ≤ 10 := by decide +kernel
    have d4 : ((" at " : Str)).length ≤ 10 := by decide +kernel
    have w' : n.length ≤ 200 := w
    rw [line_close]
    simp only [len_app]
    omega
  | clock n lo hi =>
    obtain ⟨_, a1, a2⟩ := h
    have b1 := a1.len
    have b2 := a2.len
    have d1 : (("clock " : Str)).length ≤ 10 := by decide +kernel
    have d2 : ((" from " : Str)).length ≤ 10 := by decide +kernel
    have d3 : ((" to " : Str)).length ≤ 10 := by decide +kernel
    have w' : n.length ≤ 200 := w
    rw [line_clock]
    simp only [len_app]
    omega
theorem isW_no10 {n : Str} (h : IsW n) : 10 ∉ n.cps.toList := fun z => by
  have := h.2.1 10 z
  omega
theorem int_no10 (i : Int) : 10 ∉ (intT i).cps.toList := PyProof.Rows.int_text_free' 10 ⟨by decide, .inl (by decide)⟩ i
theorem opt_no10 (x : Option Int) : 10 ∉ (optT x).cps.toList := by
  cases x with
  | none => decide +kernel
  | some i => exact int_no10 i
theorem Lt.Ok.no10 {l : Lt} (h : l.Ok) : 10 ∉ l.line.cps.toList := by
  have w := isW_no10 h.word
  cases l with
  | read n s v a x =>
    have w' : 10 ∉ n.cps.toList := w
    rw [line_read]
    simp only [cps_app, List.mem_append, not_or]
    exact ⟨⟨⟨⟨⟨⟨⟨⟨⟨by decide +kernel, w'⟩, by decide +kernel⟩, int_no10 _⟩, by decide +kernel⟩, int_no10 _⟩, by decide +kernel⟩, int_no10 _⟩, by decide +kernel⟩, opt_no10 _⟩
  | close n f a v =>
    have w' : 10 ∉ n.cps.toList := w
    rw [line_close]
    simp only [cps_app, List.mem_append, not_or]
    exact ⟨⟨⟨⟨⟨⟨⟨by decide +kernel, w'⟩, by decide +kernel⟩, int_no10 _⟩, by decide +kernel⟩, int_no10 _⟩, by decide +kernel⟩, int_no10 _⟩
  | clock n lo hi =>
    have w' : 10 ∉ n.cps.toList := w
    rw [line_clock]
    simp only [cps_app, List.mem_append, not_or]
    exact ⟨⟨⟨⟨⟨by decide +kernel, w'⟩, by decide +kernel⟩, int_no10 _⟩, by decide +kernel⟩, int_no10 _⟩
theorem rows_eq (ls : List Lt) : rows ls = Str.join "" (ls.map Lt.row) := PySem.StrLaws.glued_eq_join _ _
theorem rows_cons (l : Lt) (ls : List Lt) : rows (l :: ls) = l.row ++ rows ls := by
  rw [rows_eq, rows_eq]
  cases ls with
  | nil =>
    show l.row = l.row ++ Str.empty
    rw [app_empty]
  | cons m ms =>
    show l.row ++ ("" : Str) ++ Str.join "" (m.row :: ms.map Lt.row) = l.row ++ Str.join "" (m.row :: ms.map Lt.row)
    have e : ("" : Str) = Str.empty := by decide +kernel
    rw [e, app_empty]
theorem sum_rows : ∀ {ls : List Lt}, (∀ l ∈ ls, l.Ok) → ((ls.map Lt.row).map (·.length)).sum ≤ ls.length * 1000
  | [], _ => Nat.le_refl 0
  | l :: ls, h => by
    have a := (h l List.mem_cons_self).row_len
    have b := sum_rows (ls := ls) fun m hm => h m (List.mem_cons_of_mem _ hm)
    simp only [List.map_cons, List.sum_cons, List.length_cons]
    omega
theorem rows_fit {ls : List Lt} {n : Nat} (h : ∀ l ∈ ls, l.Ok) (hn : ls.length ≤ n) (h2 : n ≤ 16000) : ((ls.map Lt.row).map (·.length)).sum + (ls.map Lt.row).length * (("" : Str)).length ≤ 16777216 := by
  have a := sum_rows h
  have e : (("" : Str)).length = 0 := by decide +kernel
  rw [e, Nat.mul_zero, Nat.add_zero]
  omega
theorem same_lts {H H' : Hp} (r : Same H H') : ∀ {ts : List Addr} {ls : List Lt}, Paired (LtAt H) ts ls → Paired (LtAt H') ts ls
  | _, _, .nil => .nil
  | _, _, .cons a b => .cons (r _ _ a) (same_lts r b)
theorem Dr.lts {d : Addr} {H H' : Hp} (r : Dr d H H') (h : DrA H d) : ∀ {ts : List Addr} {ls : List Lt}, Paired (LtAt H) ts ls → Paired (LtAt H') ts ls
  | _, _, .nil => .nil
  | _, _, .cons a b => .cons (r.tup h a) (Dr.lts r h b)
theorem lts_at {H : Hp} : ∀ {ts : List Addr} {ls : List Lt} {i : Nat} {t : Addr}, Paired (LtAt H) ts ls → ts[i]? = some t → ∃ l, ls[i]? = some l ∧ LtAt H t l
  | _, _, _, _, .nil, h => by simp at h
  | _, _, 0, _, .cons a _, h => by
    cases (Option.some.inj h)
    exact ⟨_, rfl, a⟩
  | _, _, i + 1, _, .cons _ r, h => lts_at (i := i) r h
theorem nl_eq : ("\n" : Str) = ⟨#[10]⟩ := by decide +kernel
theorem find_nl {z : Str} {a b : List Nat} (h : z.cps.toList = a ++ 10 :: b) (h0 : 10 ∉ a) : Txt.find z "\n" = (a.length : Int) := by
  rw [nl_eq]
  have at_ : z.cps.toList[a.length]? = some 10 := by rw [h]; simp
  rcases PyProof.Rows.find_whole z ⟨#[10]⟩ with ⟨_, n⟩ | ⟨i, e, hi, n⟩
  · exact absurd ((StrLaws.subAt_one z 10 a.length).mpr at_) (n a.length)
  · have q := (StrLaws.subAt_one z 10 i).mp hi
    rw [e]
    rcases Nat.lt_trichotomy i a.length with z' | z' | z'
    · exfalso
      rw [h, List.getElem?_append_left z', List.getElem?_eq_getElem z'] at q
      exact h0 (by rw [← Option.some.inj q]; exact List.getElem_mem z')
    · rw [z']
    · exact absurd ((StrLaws.subAt_one z 10 a.length).mpr at_) (n a.length z')
theorem find_nil : Txt.find Str.empty "\n" = -1 := by
  rw [nl_eq]
  rcases PyProof.Rows.find_whole Str.empty ⟨#[10]⟩ with ⟨e, _⟩ | ⟨i, e, hi, n⟩
  · exact e
  · have q := (StrLaws.subAt_one Str.empty 10 i).mp hi
    exact absurd q (by simp [Str.empty])
theorem cut_to (z : Str) (k : Nat) : cutS z none (some (k : Int)) = ⟨(z.cps.toList.take k).toArray⟩ := by
  have e : z.cps.size = z.cps.toList.length := by simp
  show Str.mk ((z.cps.toList.drop (HT.sIx z.length 0 none)).take (HT.sIx z.length z.length (some (k : Int)) - HT.sIx z.length 0 none)).toArray = _
  rw [HT.sIx_none, HT.sIx_nat, List.drop_zero, Nat.sub_zero]
  have e2 : z.cps.toList.take (min k z.length) = z.cps.toList.take k := by
    show z.cps.toList.take (min k z.cps.size) = _
    rw [e, ← List.take_eq_take_min]
  rw [e2]
/-- a text up to its first newline -/
theorem cut_find {ls : List Lt} (ok : ∀ l ∈ ls, l.Ok) : cutS (rows ls) none (some (Txt.find (rows ls) "\n" + 1)) = rows (ls.take 1) := by
  cases ls with
  | nil =>
    show cutS (rows []) none (some (Txt.find Str.empty "\n" + 1)) = rows []
    rw [find_nil]
    show cutS (rows []) none (some ((0 : Nat) : Int)) = rows []
    rw [cut_to]
    rfl
  | cons l r =>
    have e : (rows (l :: r)).cps.toList = l.line.cps.toList ++ 10 :: (rows r).cps.toList := by
      rw [rows_cons, cps_app]
      show (l.line ++ ("\n" : Str)).cps.toList ++ _ = _
      rw [cps_app, nl_eq, List.append_assoc]
      rfl
    rw [find_nl e (ok l List.mem_cons_self).no10]
    have c : ((l.line.cps.toList.length : Int) + 1) = ((l.line.cps.toList.length + 1 : Nat) : Int) := by omega
    rw [c, cut_to, e]
    show _ = rows [l]
    rw [rows_cons]
    show _ = l.row ++ Str.empty
    rw [app_empty]
    refine str_ext ?_
    show (((l.line.cps.toList ++ 10 :: (rows r).cps.toList).take (l.line.cps.toList.length + 1)).toArray).toList = (l.line ++ ("\n" : Str)).cps.toList
    rw [cps_app, nl_eq, List.take_append]
    simp
    exact List.take_of_length_le (by simp)
/-- lists cut and put one behind the other -/
theorem paired_take {α β : Type} {R : α → β → Prop} : ∀ {us : List α} {ls : List β} (k : Nat), Paired R us ls → Paired R (us.take k) (ls.take k)
  | _, _, 0, _ => by simp only [List.take_zero]; exact .nil
  | _, _, k + 1, .nil => .nil
  | _, _, k + 1, .cons a b => .cons a (paired_take k b)
theorem paired_app {α β : Type} {R : α → β → Prop} : ∀ {us : List α} {ls : List β} {us' : List α} {ls' : List β}, Paired R us ls → Paired R us' ls' → Paired R (us ++ us') (ls ++ ls')
  | _, _, _, _, .nil, h => h
  | _, _, _, _, .cons a b, h => .cons a (paired_app b h)
theorem paired_rep {α β : Type} {R : α → β → Prop} {us : List α} {ls : List β} (h : Paired R us ls) : ∀ k : Nat, Paired R (List.replicate k us).flatten (List.replicate k ls).flatten
  | 0 => .nil
  | k + 1 => paired_app h (paired_rep h k)
theorem map_rep {α β : Type} (f : α → β) (xs : List α) : ∀ k : Nat, (List.replicate k (xs.map f)).flatten = ((List.replicate k xs).flatten).map f
  | 0 => rfl
  | k + 1 => by
    show xs.map f ++ (List.replicate k (xs.map f)).flatten = (xs ++ (List.replicate k xs).flatten).map f
    rw [map_rep f xs k, List.map_append]
theorem mem_rep {α : Type} {xs : List α} {x : α} : ∀ {k : Nat}, x ∈ (List.replicate k xs).flatten → x ∈ xs
  | 0, h => by simp at h
  | k + 1, h => by
    have h' : x ∈ xs ++ (List.replicate k xs).flatten := h
    rcases List.mem_append.mp h' with z | z
    · exact z
    · exact mem_rep z
theorem len_rep {α : Type} (xs : List α) : ∀ k : Nat, ((List.replicate k xs).flatten).length = k * xs.length
  | 0 => by simp
  | k + 1 => by
    show (xs ++ (List.replicate k xs).flatten).length = _
    rw [List.length_append, len_rep xs k, Nat.succ_mul, Nat.add_comm]
theorem cutV_to (xs : List V) (k : Nat) : cutV xs none (some (k : Int)) = xs.take k := by
  show (xs.drop (HT.sIx xs.length 0 none)).take (HT.sIx xs.length xs.length (some (k : Int)) - HT.sIx xs.length 0 none) = _
  rw [HT.sIx_none, HT.sIx_nat, List.drop_zero, Nat.sub_zero, ← List.take_eq_take_min]
/-! letters as data -/
def optD : Option Int → PyData
  | none => .none
  | some i => .int i
def ltD : Lt → PyData
  | .read n s v a x => .tuple [.str "read", .str n, .int s, .int v, .int a, optD x]
  | .close n f a w => .tuple [.str "close", .str n, .int f, .int a, .int w]
  | .clock n l h => .tuple [.str "clock", .str n, .int l, .int h]
theorem opt_dp {K : PySem.W.Frag} {H : Hp} (x : Option Int) : Dp K H (optV x) (optD x) := by
  cases x with
  | none => exact .non
  | some i => exact .int i
theorem lt_dp {K : PySem.W.Frag} {H : Hp} {t : Addr} {l : Lt} (h : LtAt H t l) : Dp K H (.ref t) (ltD l) := by
  cases l with
  | read n s v a x => exact .tup (.inl (.inl h)) (.cons (.str _) (.cons (.str _) (.cons (.int _) (.cons (.int _) (.cons (.int _) (.cons (opt_dp x) .nil))))))
  | close n f a w => exact .tup (.inl (.inl h)) (.cons (.str _) (.cons (.str _) (.cons (.int _) (.cons (.int _) (.cons (.int _) .nil)))))
  | clock n l h' => exact .tup (.inl (.inl h)) (.cons (.str _) (.cons (.str _) (.cons (.int _) (.cons (.int _) .nil))))
theorem lts_dp {K : PySem.W.Frag} {H : Hp} : ∀ {ts : List Addr} {ls : List Lt}, Paired (LtAt H) ts ls → DpAll K H (ts.map V.ref) (ls.map ltD)
  | _, _, .nil => .nil
  | _, _, .cons a b => .cons (lt_dp a) (lts_dp b)
theorem isW_ok {n : Str} (h : IsW n) : PyData.strOk n = true := by
  unfold PyData.strOk
  rw [Array.all_eq_true]
  intro i hi
  have := h.2.1 n.cps[i] (by simp)
  exact decide_eq_true (by omega)
theorem lt_lay {l : Lt} (h : l.Ok) : (ltD l).canLay0 = true := by
  have w := isW_ok h.word
  cases l with
  | read n s v a x =>
    have w' : PyData.strOk n = true := w
    have k : PyData.strOk "read" = true := by decide +kernel
    cases x <;> simp [ltD, optD, PyData.canLay0, PyData.canLayAll0, w', k]
  | close n f a v =>
    have w' : PyData.strOk n = true := w
    have k : PyData.strOk "close" = true := by decide +kernel
    simp [ltD, PyData.canLay0, PyData.canLayAll0, w', k]
  | clock n lo hi =>
    have w' : PyData.strOk n = true := w
    have k : PyData.strOk "clock" = true := by decide +kernel
    simp [ltD, PyData.canLay0, PyData.canLayAll0, w', k]
theorem lt_deep (l : Lt) : (ltD l).depth = 1 := by
  cases l with
  | read n s v a x => cases x <;> rfl
  | close => rfl
  | clock => rfl
theorem lts_lay : ∀ {ls : List Lt}, (∀ l ∈ ls, l.Ok) → PyData.canLayAll0 (ls.map ltD) = true
  | [], _ => rfl
  | l :: ls, h => by
    show ((ltD l).canLay0 && PyData.canLayAll0 (ls.map ltD)) = true
    rw [lt_lay (h l List.mem_cons_self), lts_lay fun m hm => h m (List.mem_cons_of_mem _ hm)]
    rfl
theorem lts_deep : ∀ ls : List Lt, PyData.depthAll (ls.map ltD) ≤ 1
  | [] => Nat.zero_le _
  | l :: ls => by
    show max (ltD l).depth (PyData.depthAll (ls.map ltD)) ≤ 1
    rw [lt_deep]
    exact Nat.max_le.mpr ⟨Nat.le_refl _, lts_deep ls⟩
theorem bag_shaped {ls : List Lt} (h : ∀ l ∈ ls, l.Ok) : SeqAt.shaped (.list (ls.map ltD)) = true := by
  unfold SeqAt.shaped
  rw [Bool.and_eq_true]
  refine ⟨lts_lay h, decide_eq_true ?_⟩
  have := lts_deep ls
  show PyData.depthAll (ls.map ltD) + 1 ≤ 64
  omega
theorem bag_same {ls : List Lt} (h : ∀ l ∈ ls, l.Ok) : PyData.eqv (.list (ls.map ltD)) (.list (ls.map ltD)) = true := SeqAt.eqv_refl _ (lts_lay h)
/-- the words of the written form, as the module's dict has them -/
def WordsAt (K : PySem.W.Frag) (w : World) (a : Addr) : Prop := ∃ tr tc tk : Addr, KDct K w a "read" (.ref tr) ∧ KDct K w a "close" (.ref tc) ∧ KDct K w a "clock" (.ref tk) ∧
  (∀ H, SqT K H tr [.str "slot", .str "version", .str "at", .str "is"]) ∧ (∀ H, SqT K H tc [.str "after", .str "at", .str "with"]) ∧ ∀ H, SqT K H tk [.str "from", .str "to"]
def Lt.kind : Lt → Str
  | .read .. => "read"
  | .close .. => "close"
  | .clock .. => "clock"
def Lt.mid : Lt → List Str
  | .read .. => ["slot", "version", "at", "is"]
  | .close .. => ["after", "at", "with"]
  | .clock .. => ["from", "to"]
def Lt.nums : Lt → List (Option Int)
  | .read _ s v a x => [some s, some v, some a, x]
  | .close _ f a w => [some f, some a, some w]
  | .clock _ l h => [some l, some h]
theorem Lt.vals_eq (l : Lt) : l.vals = .str l.kind :: .str l.name :: l.nums.map optV := by
  cases l <;> rfl
/-- the parts of a line, up to the i-th number -/
def Lt.upto (l : Lt) (i : Nat) : List Str := l.kind :: l.name :: ((l.mid.zip (l.nums.map optT)).take i).flatMap fun p => [p.1, p.2]
theorem Lt.upto_all (l : Lt) : l.upto l.mid.length = l.words := by
  cases l <;> rfl
theorem Lt.mid_nums (l : Lt) : l.mid.length = l.nums.length := by
  cases l <;> rfl
theorem Lt.mid_le (l : Lt) : l.mid.length ≤ 4 := by
  cases l
  · exact (by decide : 4 ≤ 4)
  · exact (by decide : 3 ≤ 4)
  · exact (by decide : 2 ≤ 4)
theorem Lt.upto_succ {l : Lt} {i : Nat} {a : Str} {x : Option Int} (h1 : l.mid[i]? = some a) (h2 : l.nums[i]? = some x) : l.upto (i + 1) = l.upto i ++ [a] ++ [optT x] := by
  have e : (l.mid.zip (l.nums.map optT))[i]? = some (a, optT x) := by
    rw [List.getElem?_zip_eq_some]
    exact ⟨h1, by rw [List.getElem?_map, h2]; rfl⟩
  unfold Lt.upto
  rw [List.take_add_one, e, List.flatMap_append, ← List.cons_append, ← List.cons_append, List.append_assoc]
  rfl
theorem Lt.upto_len (l : Lt) (i : Nat) (h : i ≤ 4) : (l.upto i).length ≤ 10 := by
  have e : ∀ (m : List (Str × Str)), (m.flatMap fun p => [p.1, p.2]).length = 2 * m.length := fun m => by
    induction m with
    | nil => rfl
    | cons p r ih =>
      rw [List.flatMap_cons, List.length_append, ih]
      show 2 + 2 * r.length = 2 * (r.length + 1)
      omega
  show (((l.mid.zip (l.nums.map optT)).take i).flatMap fun p => [p.1, p.2]).length + 2 ≤ 10
  rw [e, List.length_take]
  omega
theorem Lt.Ok.nr {l : Lt} (h : l.Ok) : ∀ i, some i ∈ l.nums → Nr i := by
  cases l with
  | read n s v a x =>
    obtain ⟨_, _, _, a1, a2, a3, a4⟩ := h
    intro i hi
    simp only [Lt.nums, List.mem_cons, List.not_mem_nil, or_false, Option.some.injEq] at hi
    rcases hi with rfl | rfl | rfl | z
    · exact a1
    · exact a2
    · exact a3
    · exact a4 i z.symm
  | close n f a v =>
    obtain ⟨_, _, _, a1, a2, a3⟩ := h
    intro i hi
    simp only [Lt.nums, List.mem_cons, List.not_mem_nil, or_false, Option.some.injEq] at hi
    rcases hi with rfl | rfl | rfl
    · exact a1
    · exact a2
    · exact a3
  | clock n lo hi' =>
    obtain ⟨_, a1, a2⟩ := h
    intro i hi
    simp only [Lt.nums, List.mem_cons, List.not_mem_nil, or_false, Option.some.injEq] at hi
    rcases hi with rfl | rfl
    · exact a1
    · exact a2
theorem Lt.Ok.words_fit {l : Lt} (h : l.Ok) : (l.words.map (·.length)).sum + l.words.length * ((" " : Str)).length ≤ 16777216 := by
  have w := h.word.2.2
  have e0 : ((" " : Str)).length ≤ 10 := by decide +kernel
  have m0 : ∀ k : Nat, k ≤ 10 → k * ((" " : Str)).length ≤ 100 := fun k hk => Nat.le_trans (Nat.mul_le_mul hk e0) (by decide)
  cases l with
  | read n s v a x =>
    obtain ⟨_, _, _, a1, a2, a3, a4⟩ := h
    have b1 := a1.len
    have b2 := a2.len
    have b3 := a3.len
    have b4 := optT_len a4
    have d1 : (("read" : Str)).length ≤ 10 := by decide +kernel
    have d2 : (("slot" : Str)).length ≤ 10 := by decide +kernel
    have d3 : (("version" : Str)).length ≤ 10 := by decide +kernel
    have d4 : (("at" : Str)).length ≤ 10 := by decide +kernel
    have d5 : (("is" : Str)).length ≤ 10 := by decide +kernel
    have w' : n.length ≤ 200 := w
    have m := m0 10 (by decide)
    simp only [Lt.words, List.map_cons, List.map_nil, List.sum_cons, List.sum_nil, List.length_cons, List.length_nil]
    omega
  | close n f a v =>
    obtain ⟨_, _, _, a1, a2, a3⟩ := h
    have b1 := a1.len
    have b2 := a2.len
    have b3 := a3.len
    have d1 : (("close" : Str)).length ≤ 10 := by decide +kernel
    have d2 : (("after" : Str)).length ≤ 10 := by decide +kernel
    have d3 : (("with" : Str)).length ≤ 10 := by decide +kernel
    have d4 : (("at" : Str)).length ≤ 10 := by decide +kernel
    have w' : n.length ≤ 200 := w
    have m := m0 8 (by decide)
    simp only [Lt.words, List.map_cons, List.map_nil, List.sum_cons, List.sum_nil, List.length_cons, List.length_nil]
    omega
  | clock n lo hi =>
    obtain ⟨_, a1, a2⟩ := h
    have b1 := a1.len
    have b2 := a2.len
    have d1 : (("clock" : Str)).length ≤ 10 := by decide +kernel
    have d2 : (("from" : Str)).length ≤ 10 := by decide +kernel
    have d3 : (("to" : Str)).length ≤ 10 := by decide +kernel
    have w' : n.length ≤ 200 := w
    have m := m0 6 (by decide)
    simp only [Lt.words, List.map_cons, List.map_nil, List.sum_cons, List.sum_nil, List.length_cons, List.length_nil]
    omega
theorem lts_kept {H H' : Hp} (k : ∀ b xs, H b = some (.tup xs) → H' b = some (.tup xs)) {us : List Addr} {ls : List Lt} (h : Paired (LtAt H) us ls) : Paired (LtAt H') us ls := L2.Paired.mapP h fun _ _ y => k _ _ y
theorem sqL_same {K : PySem.W.Frag} {H H' : Hp} {a : Addr} {xs : List V} (s : Same H H') (h : SqL K H a xs) : SqL K H' a xs := by
  rcases h with (h | ⟨o, h⟩) | h
  · exact .inl (.inl (s _ _ h))
  · exact .inl (.inr ⟨o, s _ _ h⟩)
  · exact .inr h
theorem sqT_same {K : PySem.W.Frag} {H H' : Hp} {a : Addr} {xs : List V} (s : Same H H') (h : SqT K H a xs) : SqT K H' a xs := by
  rcases h with (h | ⟨o, h⟩) | h
  · exact .inl (.inl (s _ _ h))
  · exact .inl (.inr ⟨o, s _ _ h⟩)
  · exact .inr h

/-- a statement that is never reached -/
theorem ps_never {X : Cx} {st : Stmt} : PS X st (fun _ _ _ => False) := ⟨fun _ _ _ _ _ _ h => h.elim⟩
/-! written letters, read back -/
theorem isW_free {n : Str} (h : IsW n) (c : Nat) (hc : c < 97) : c ∉ n.cps.toList := fun z => by
  have := h.2.1 c z
  omega
theorem opt_free (x : Option Int) (c : Nat) (h1 : c ≠ 45 ∧ (c < 48 ∨ 57 < c)) (h2 : c < 97) : c ∉ (optT x).cps.toList := by
  cases x with
  | none =>
    have e : ∀ d ∈ (optT none).cps.toList, 97 ≤ d := by decide +kernel
    intro z
    have := e c z
    omega
  | some i => exact PyProof.Rows.int_text_free' c h1 i
theorem words_free {l : Lt} (h : l.Ok) : ∀ w ∈ l.words, 32 ∉ w.cps.toList := by
  have hn := isW_free h.word 32 (by decide)
  have hi : ∀ i : Int, 32 ∉ (intT i).cps.toList := fun i => PyProof.Rows.int_text_free' 32 ⟨by decide, .inl (by decide)⟩ i
  have ho := fun x => opt_free x 32 ⟨by decide, .inl (by decide)⟩ (by decide)
  intro w hw
  cases l with
  | read n s v a x =>
    have hn' : 32 ∉ n.cps.toList := hn
    simp only [Lt.words, List.mem_cons, List.not_mem_nil, or_false] at hw
    rcases hw with rfl | rfl | rfl | rfl | rfl | rfl | rfl | rfl | rfl | rfl
    · decide +kernel
    · exact hn'
    · decide +kernel
    · exact hi _
    · decide +kernel
    · exact hi _
    · decide +kernel
    · exact hi _
    · decide +kernel
    · exact ho _
  | close n f a v =>
    have hn' : 32 ∉ n.cps.toList := hn
    simp only [Lt.words, List.mem_cons, List.not_mem_nil, or_false] at hw
    rcases hw with rfl | rfl | rfl | rfl | rfl | rfl | rfl | rfl
    · decide +kernel
    · exact hn'
    · decide +kernel
    · exact hi _
    · decide +kernel
    · exact hi _
    · decide +kernel
    · exact hi _
  | clock n lo hi' =>
    have hn' : 32 ∉ n.cps.toList := hn
    simp only [Lt.words, List.mem_cons, List.not_mem_nil, or_false] at hw
    rcases hw with rfl | rfl | rfl | rfl | rfl | rfl
    · decide +kernel
    · exact hn'
    · decide +kernel
    · exact hi _
    · decide +kernel
    · exact hi _
theorem sp_eq : (" " : Str).cps.toList = [32] := by decide +kernel
theorem split_line {l : Lt} (h : l.Ok) : Txt.split l.line " " = l.words :=
  TL.split_join sp_eq (by decide +kernel) (by cases l <;> exact List.cons_ne_nil _ _) (words_free h)
theorem rows_join : ∀ ls : List Lt, rows ls = Txt.join "\n" (ls.map Lt.line ++ [Str.empty])
  | [] => rfl
  | l :: ls => by
    have e1 : ∀ ps : List Str, Txt.join "\n" ps = Str.join "\n" ps := fun ps => PySem.StrLaws.glued_eq_join _ _
    rw [rows_cons, rows_join ls, e1, e1]
    show l.line ++ ("\n" : Str) ++ Str.join "\n" (ls.map Lt.line ++ [Str.empty]) = Str.join "\n" (l.line :: (ls.map Lt.line ++ [Str.empty]))
    cases hc : (ls.map Lt.line ++ [Str.empty]) with
    | nil => simp at hc
    | cons x r => rfl
theorem split_rows {ls : List Lt} (h : ∀ l ∈ ls, l.Ok) : Txt.split (rows ls) "\n" = ls.map Lt.line ++ [Str.empty] := by
  rw [rows_join]
  refine TL.split_join (s := 10) (S := []) (by rw [nl_eq]) (by decide +kernel) (by simp) fun p hp => ?_
  rcases List.mem_append.mp hp with z | z
  · obtain ⟨l, hl, rfl⟩ := List.mem_map.mp z
    exact (h l hl).no10
  · rw [List.mem_singleton.mp z]
    exact fun z => nomatch z
theorem of_app (a b : String) : Str.ofString (a ++ b) = Str.ofString a ++ Str.ofString b := by
  refine str_ext ?_
  rw [cps_app, Str.ofString_eq_toList, Str.ofString_eq_toList, Str.ofString_eq_toList]
  simp
/-- the signs of a whole number -/
theorem int_cps (i : Int) : (intT i).cps.toList = (if i < 0 then [45] else []) ++ TL.numL i.natAbs := by
  by_cases h : i < 0
  · rw [if_pos h]
    show (Str.ofString (toString i)).cps.toList = _
    rw [PyProof.Rows.toString_neg h, of_app, cps_app]
    have e : (0 : Int) - i = ((i.natAbs : Nat) : Int) := by omega
    rw [e]
    show _ ++ TL.tl (Str.ofString (toString ((i.natAbs : Nat) : Int))) = _
    rw [TL.tl_num]
    rfl
  · rw [if_neg h]
    have e : i = ((i.natAbs : Nat) : Int) := by omega
    show TL.tl (Str.ofString (toString i)) = _
    rw [e, TL.tl_num]
    rfl
theorem Nr.num {i : Int} (h : Nr i) : (TL.numL i.natAbs).length ≤ 60 := TL.numL_len (by decide) h
theorem int_back {i : Int} (h : Nr i) : intText? (intT i) = some i := by
  have hl : (intT i).length ≤ 4300 := by have := h.len; omega
  by_cases c : i < 0
  · have e := int_cps i
    rw [if_pos c] at e
    rw [PySem.intText_neg (cs := TL.numL i.natAbs) e (TL.numL_digits _) (TL.numL_ne _) hl, TL.numL_val]
    congr 1
    omega
  · have e : i = ((i.natAbs : Nat) : Int) := by omega
    have k := TL.int_num (n := i.natAbs) (by have := h.num; omega)
    show intText? (Str.ofString (toString i)) = some i
    rw [e]
    simpa using k
theorem dash_eq : ("-" : Str) = ⟨#[45]⟩ := by decide +kernel
/-- a number without its sign -/
theorem bare {i : Int} : (Txt.removeprefix (intT i) "-").cps.toList = TL.numL i.natAbs := by
  rw [PySem.StrLaws.removeprefix_eq, dash_eq]
  have e := int_cps i
  by_cases c : i < 0
  · rw [if_pos c] at e
    have a0 : (intT i).cps.toList[0]? = some 45 := by rw [e]; rfl
    obtain ⟨k1, k2⟩ := (StrLaws.subAt_one (intT i) 45 0).mpr a0
    have k : (decide (0 + (⟨#[45]⟩ : Str).length ≤ (intT i).length) && Builtin.Str.subAt (intT i) ⟨#[45]⟩ 0) = true := by
      rw [k2, decide_eq_true k1]
      rfl
    rw [if_pos k]
    show (((intT i).cps.toList.drop 1).take ((intT i).length - 1)).toArray.toList = _
    have hl : (intT i).length = (intT i).cps.toList.length := by show (intT i).cps.size = _; simp
    rw [hl, e]
    simp
  · rw [if_neg c] at e
    have k : (decide (0 + (⟨#[45]⟩ : Str).length ≤ (intT i).length) && Builtin.Str.subAt (intT i) ⟨#[45]⟩ 0) = false := by
      cases hk : (decide (0 + (⟨#[45]⟩ : Str).length ≤ (intT i).length) && Builtin.Str.subAt (intT i) ⟨#[45]⟩ 0) with
      | false => rfl
      | true =>
        exfalso
        rw [Bool.and_eq_true] at hk
        have a0 := (StrLaws.subAt_one (intT i) 45 0).mp ⟨of_decide_eq_true hk.1, hk.2⟩
        rw [e] at a0
        have := TL.numL_digits i.natAbs 45 (List.mem_of_getElem? a0)
        omega
    rw [k]
    exact e
def Lt.rest (l : Lt) : List Str := (l.mid.zip (l.nums.map optT)).flatMap fun p => [p.1, p.2]
theorem words_eq (l : Lt) : l.words = l.kind :: l.name :: l.rest := by
  cases l <;> rfl
theorem words_len (l : Lt) : l.words.length = 2 + 2 * l.mid.length := by
  cases l <;> rfl
theorem spots10 : Step2.spots (some 2) none (some 2) 10 = [2, 4, 6, 8] := by decide +kernel
theorem spots8 : Step2.spots (some 2) none (some 2) 8 = [2, 4, 6] := by decide +kernel
theorem spots6 : Step2.spots (some 2) none (some 2) 6 = [2, 4] := by decide +kernel
theorem spotz10 : Step2.spots (some 3) none (some 2) 10 = [3, 5, 7, 9] := by decide +kernel
theorem spotz8 : Step2.spots (some 3) none (some 2) 8 = [3, 5, 7] := by decide +kernel
theorem spotz6 : Step2.spots (some 3) none (some 2) 6 = [3, 5] := by decide +kernel
theorem pick_mid (l : Lt) : Step2.pickV (l.words.map V.str) (some 2) none (some 2) = l.mid.map V.str := by
  unfold Step2.pickV
  rw [List.length_map, words_len]
  cases l with
  | read => rw [show 2 + 2 * (Lt.read _ _ _ _ _).mid.length = 10 from rfl, spots10]; rfl
  | close => rw [show 2 + 2 * (Lt.close _ _ _ _).mid.length = 8 from rfl, spots8]; rfl
  | clock => rw [show 2 + 2 * (Lt.clock _ _ _).mid.length = 6 from rfl, spots6]; rfl
theorem pick_num (l : Lt) : Step2.pickV (l.words.map V.str) (some 3) none (some 2) = (l.nums.map optT).map V.str := by
  unfold Step2.pickV
  rw [List.length_map, words_len]
  cases l with
  | read => rw [show 2 + 2 * (Lt.read _ _ _ _ _).mid.length = 10 from rfl, spotz10]; rfl
  | close => rw [show 2 + 2 * (Lt.close _ _ _ _).mid.length = 8 from rfl, spotz8]; rfl
  | clock => rw [show 2 + 2 * (Lt.clock _ _ _).mid.length = 6 from rfl, spotz6]; rfl
theorem none_is {l : Lt} {i : Nat} {a : Str} {o : Option Int} (h1 : l.mid[i]? = some a) (h2 : l.nums[i]? = some o) : o = none → a = "is" := by
  rintro rfl
  cases l with
  | read n s v x z =>
    have hm : ∀ j : Nat, (Lt.read n s v x z).nums[j]? = some none → 3 ≤ j := fun j hj => by
      rcases j with _ | _ | _ | j
      · cases hj
      · cases hj
      · cases hj
      · omega
    have h3 := hm i h2
    have h4 : i < 4 := (List.getElem?_eq_some_iff.mp h1).1
    have h5 : i = 3 := by omega
    subst h5
    exact (Option.some.inj h1).symm
  | close n f x v =>
    rcases i with _ | _ | _ | i <;> cases h2
  | clock n lo hi =>
    rcases i with _ | _ | i <;> cases h2
def midD (l : Lt) : PyData := .tuple (l.mid.map PyData.str)
theorem strs_dp {K : PySem.W.Frag} {H : Hp} : ∀ ns : List Str, DpAll K H (ns.map V.str) (ns.map PyData.str)
  | [] => .nil
  | n :: ns => .cons (.str n) (strs_dp ns)
theorem mid_shaped (l : Lt) : SeqAt.shaped (midD l) = true := by
  cases l with
  | read =>
    show SeqAt.shaped (.tuple [.str "slot", .str "version", .str "at", .str "is"]) = true
    decide +kernel
  | close =>
    show SeqAt.shaped (.tuple [.str "after", .str "at", .str "with"]) = true
    decide +kernel
  | clock =>
    show SeqAt.shaped (.tuple [.str "from", .str "to"]) = true
    decide +kernel
theorem mid_same (l : Lt) : PyData.eqv (midD l) (midD l) = true := by
  cases l with
  | read =>
    show PyData.eqv (.tuple [.str "slot", .str "version", .str "at", .str "is"]) (.tuple [.str "slot", .str "version", .str "at", .str "is"]) = true
    decide +kernel
  | close =>
    show PyData.eqv (.tuple [.str "after", .str "at", .str "with"]) (.tuple [.str "after", .str "at", .str "with"]) = true
    decide +kernel
  | clock =>
    show PyData.eqv (.tuple [.str "from", .str "to"]) (.tuple [.str "from", .str "to"]) = true
    decide +kernel

def topS (i : Nat) : Stmt := PySem.Challenge.pw_toldwhensure_k06_bags_read_back.main.body.getD i (.Pass ⟨0, 0, 0, 0⟩)
abbrev s_names_of : Stmt := topS 5
theorem sc_names_of : FnScope ["plan", "meter"] ["plan"] (defScope s_names_of) := ⟨rfl, rfl, rfl, by decide +kernel, rfl, by decide +kernel, by decide +kernel⟩
abbrev s_check_letter : Stmt := topS 11
theorem sc_check_letter : FnScope ["plan", "letter", "kind", "name", "numbers"] ["plan", "letter"] (defScope s_check_letter) := ⟨rfl, rfl, rfl, by decide +kernel, rfl, by decide +kernel, by decide +kernel⟩
abbrev s_check_read : Stmt := topS 12
theorem sc_check_read : FnScope ["numbers", "slot", "version"] ["numbers"] (defScope s_check_read) := ⟨rfl, rfl, rfl, by decide +kernel, rfl, by decide +kernel, by decide +kernel⟩
abbrev s_check_close : Stmt := topS 13
theorem sc_check_close : FnScope ["numbers", "slots", "versions"] ["numbers"] (defScope s_check_close) := ⟨rfl, rfl, rfl, by decide +kernel, rfl, by decide +kernel, by decide +kernel⟩
abbrev s_write_bag : Stmt := topS 14
theorem sc_write_bag : FnScope ["letters", "letter"] ["letters"] (defScope s_write_bag) := ⟨rfl, rfl, rfl, by decide +kernel, rfl, by decide +kernel, by decide +kernel⟩
abbrev s_line_of : Stmt := topS 15
theorem sc_line_of : FnScope ["letter", "kind", "name", "numbers", "parts", "word", "number"] ["letter"] (defScope s_line_of) := ⟨rfl, rfl, rfl, by decide +kernel, rfl, by decide +kernel, by decide +kernel⟩
abbrev s_read_bag : Stmt := topS 16
theorem sc_read_bag : FnScope ["plan", "text", "lines", "rest", "letters", "number", "line"] ["plan", "text"] (defScope s_read_bag) := ⟨rfl, rfl, rfl, by decide +kernel, rfl, by decide +kernel, by decide +kernel⟩
abbrev s_letter_of : Stmt := topS 17
theorem sc_letter_of : FnScope ["plan", "line", "parts", "kind", "numbers", "letter", "word", "part"] ["plan", "line"] (defScope s_letter_of) := ⟨rfl, rfl, rfl, by decide +kernel, rfl, by decide +kernel, by decide +kernel⟩
abbrev s_number_of : Stmt := topS 18
theorem sc_number_of : FnScope ["word", "part", "digits", "number", "digit"] ["word", "part"] (defScope s_number_of) := ⟨rfl, rfl, rfl, by decide +kernel, rfl, by decide +kernel, by decide +kernel⟩
abbrev s_l_draws : Stmt := topS 20
theorem sc_l_draws : FnScope ["script", "many", "cells", "rest", "draws", "k", "at", "once", "cell"] ["script", "many"] (defScope s_l_draws) := ⟨rfl, rfl, rfl, by decide +kernel, rfl, by decide +kernel, by decide +kernel⟩
abbrev s_l_take : Stmt := topS 21
theorem sc_l_take : FnScope ["draws", "many"] ["draws", "many"] (defScope s_l_take) := ⟨rfl, rfl, rfl, by decide +kernel, rfl, by decide +kernel, by decide +kernel⟩
abbrev s_l_cell : Stmt := topS 22
theorem sc_l_cell : FnScope ["script", "draws"] ["script", "draws"] (defScope s_l_cell) := ⟨rfl, rfl, rfl, by decide +kernel, rfl, by decide +kernel, by decide +kernel⟩
abbrev s_l_word : Stmt := topS 23
theorem sc_l_word : FnScope ["number", "word", "k"] ["number"] (defScope s_l_word) := ⟨rfl, rfl, rfl, by decide +kernel, rfl, by decide +kernel, by decide +kernel⟩
abbrev s_l_some_word : Stmt := topS 24
theorem sc_l_some_word : FnScope ["draws", "number", "great"] ["draws"] (defScope s_l_some_word) := ⟨rfl, rfl, rfl, by decide +kernel, rfl, by decide +kernel, by decide +kernel⟩
abbrev s_l_plan : Stmt := topS 25
theorem sc_l_plan : FnScope ["draws", "cell", "many", "meters", "name", "low", "wide", "length", "k"] ["draws", "cell"] (defScope s_l_plan) := ⟨rfl, rfl, rfl, by decide +kernel, rfl, by decide +kernel, by decide +kernel⟩
abbrev s_l_number : Stmt := topS 26
theorem sc_l_number : FnScope ["draws", "cell"] ["draws", "cell"] (defScope s_l_number) := ⟨rfl, rfl, rfl, by decide +kernel, rfl, by decide +kernel, by decide +kernel⟩
abbrev s_l_letter : Stmt := topS 27
theorem sc_l_letter : FnScope ["draws", "name", "cell", "kind", "first", "second", "stamp"] ["draws", "name", "cell"] (defScope s_l_letter) := ⟨rfl, rfl, rfl, by decide +kernel, rfl, by decide +kernel, by decide +kernel⟩
abbrev s_l_line : Stmt := topS 28
theorem sc_l_line : FnScope ["letter", "value"] ["letter"] (defScope s_l_line) := ⟨rfl, rfl, rfl, by decide +kernel, rfl, by decide +kernel, by decide +kernel⟩
abbrev s_l_drawn_bag : Stmt := topS 29
theorem sc_l_drawn_bag : FnScope ["draws", "plan", "most", "great", "letters", "k", "name"] ["draws", "plan", "most", "great"] (defScope s_l_drawn_bag) := ⟨rfl, rfl, rfl, by decide +kernel, rfl, by decide +kernel, by decide +kernel⟩
abbrev s_l_is_letter : Stmt := topS 30
theorem sc_l_is_letter : FnScope ["actual", "due", "k"] ["actual", "due"] (defScope s_l_is_letter) := ⟨rfl, rfl, rfl, by decide +kernel, rfl, by decide +kernel, by decide +kernel⟩
abbrev s_l_named : Stmt := topS 31
theorem sc_l_named : FnScope ["draws", "plan", "known", "name", "meter"] ["draws", "plan"] (defScope s_l_named) := ⟨rfl, rfl, rfl, by decide +kernel, rfl, by decide +kernel, by decide +kernel⟩
abbrev s_law : Stmt := topS 32
theorem sc_law : FnScope ["script", "draws", "cell", "great", "plan", "letters", "text", "actual", "k", "letter"] ["script"] (defScope s_law) := ⟨rfl, rfl, rfl, by decide +kernel, rfl, by decide +kernel, by decide +kernel⟩
/-- what the top has left: where each def stands; the built-ins' names are not taken -/
structure Ctx (K : PySem.W.Frag) (mg : Str → Option Value) where
  f_names_of : Addr
  fd_names_of : FuncData
  F_names_of : Fun K "names_of" "names_of" s_names_of f_names_of fd_names_of
  b_names_of : Binds K fd_names_of ["plan"] []
  g_names_of : mg "names_of" = some (.ref f_names_of)
  f_check_letter : Addr
  fd_check_letter : FuncData
  F_check_letter : Fun K "check_letter" "check_letter" s_check_letter f_check_letter fd_check_letter
  b_check_letter : Binds K fd_check_letter ["plan", "letter"] []
  g_check_letter : mg "check_letter" = some (.ref f_check_letter)
  f_check_read : Addr
  fd_check_read : FuncData
  F_check_read : Fun K "_check_read" "_check_read" s_check_read f_check_read fd_check_read
  b_check_read : Binds K fd_check_read ["numbers"] []
  g_check_read : mg "_check_read" = some (.ref f_check_read)
  f_check_close : Addr
  fd_check_close : FuncData
  F_check_close : Fun K "_check_close" "_check_close" s_check_close f_check_close fd_check_close
  b_check_close : Binds K fd_check_close ["numbers"] []
  g_check_close : mg "_check_close" = some (.ref f_check_close)
  f_write_bag : Addr
  fd_write_bag : FuncData
  F_write_bag : Fun K "write_bag" "write_bag" s_write_bag f_write_bag fd_write_bag
  b_write_bag : Binds K fd_write_bag ["letters"] []
  g_write_bag : mg "write_bag" = some (.ref f_write_bag)
  f_line_of : Addr
  fd_line_of : FuncData
  F_line_of : Fun K "_line_of" "_line_of" s_line_of f_line_of fd_line_of
  b_line_of : Binds K fd_line_of ["letter"] []
  g_line_of : mg "_line_of" = some (.ref f_line_of)
  f_read_bag : Addr
  fd_read_bag : FuncData
  F_read_bag : Fun K "read_bag" "read_bag" s_read_bag f_read_bag fd_read_bag
  b_read_bag : Binds K fd_read_bag ["plan", "text"] []
  g_read_bag : mg "read_bag" = some (.ref f_read_bag)
  f_letter_of : Addr
  fd_letter_of : FuncData
  F_letter_of : Fun K "_letter_of" "_letter_of" s_letter_of f_letter_of fd_letter_of
  b_letter_of : Binds K fd_letter_of ["plan", "line"] []
  g_letter_of : mg "_letter_of" = some (.ref f_letter_of)
  f_number_of : Addr
  fd_number_of : FuncData
  F_number_of : Fun K "_number_of" "_number_of" s_number_of f_number_of fd_number_of
  b_number_of : Binds K fd_number_of ["word", "part"] []
  g_number_of : mg "_number_of" = some (.ref f_number_of)
  f_l_draws : Addr
  fd_l_draws : FuncData
  F_l_draws : Fun K "_law_draws" "_law_draws" s_l_draws f_l_draws fd_l_draws
  b_l_draws : Binds K fd_l_draws ["script", "many"] []
  g_l_draws : mg "_law_draws" = some (.ref f_l_draws)
  f_l_take : Addr
  fd_l_take : FuncData
  F_l_take : Fun K "_law_take" "_law_take" s_l_take f_l_take fd_l_take
  b_l_take : Binds K fd_l_take ["draws", "many"] []
  g_l_take : mg "_law_take" = some (.ref f_l_take)
  f_l_cell : Addr
  fd_l_cell : FuncData
  F_l_cell : Fun K "_law_cell" "_law_cell" s_l_cell f_l_cell fd_l_cell
  b_l_cell : Binds K fd_l_cell ["script", "draws"] []
  g_l_cell : mg "_law_cell" = some (.ref f_l_cell)
  f_l_word : Addr
  fd_l_word : FuncData
  F_l_word : Fun K "_law_word" "_law_word" s_l_word f_l_word fd_l_word
  b_l_word : Binds K fd_l_word ["number"] []
  g_l_word : mg "_law_word" = some (.ref f_l_word)
  f_l_some_word : Addr
  fd_l_some_word : FuncData
  F_l_some_word : Fun K "_law_some_word" "_law_some_word" s_l_some_word f_l_some_word fd_l_some_word
  b_l_some_word : Binds K fd_l_some_word ["draws"] []
  g_l_some_word : mg "_law_some_word" = some (.ref f_l_some_word)
  f_l_plan : Addr
  fd_l_plan : FuncData
  F_l_plan : Fun K "_law_plan" "_law_plan" s_l_plan f_l_plan fd_l_plan
  b_l_plan : Binds K fd_l_plan ["draws", "cell"] []
  g_l_plan : mg "_law_plan" = some (.ref f_l_plan)
  f_l_number : Addr
  fd_l_number : FuncData
  F_l_number : Fun K "_law_number" "_law_number" s_l_number f_l_number fd_l_number
  b_l_number : Binds K fd_l_number ["draws", "cell"] []
  g_l_number : mg "_law_number" = some (.ref f_l_number)
  f_l_letter : Addr
  fd_l_letter : FuncData
  F_l_letter : Fun K "_law_letter" "_law_letter" s_l_letter f_l_letter fd_l_letter
  b_l_letter : Binds K fd_l_letter ["draws", "name", "cell"] []
  g_l_letter : mg "_law_letter" = some (.ref f_l_letter)
  f_l_line : Addr
  fd_l_line : FuncData
  F_l_line : Fun K "_law_line" "_law_line" s_l_line f_l_line fd_l_line
  b_l_line : Binds K fd_l_line ["letter"] []
  g_l_line : mg "_law_line" = some (.ref f_l_line)
  f_l_drawn_bag : Addr
  fd_l_drawn_bag : FuncData
  F_l_drawn_bag : Fun K "_law_drawn_bag" "_law_drawn_bag" s_l_drawn_bag f_l_drawn_bag fd_l_drawn_bag
  b_l_drawn_bag : Binds K fd_l_drawn_bag ["draws", "plan", "most", "great"] []
  g_l_drawn_bag : mg "_law_drawn_bag" = some (.ref f_l_drawn_bag)
  f_l_is_letter : Addr
  fd_l_is_letter : FuncData
  F_l_is_letter : Fun K "_law_is_letter" "_law_is_letter" s_l_is_letter f_l_is_letter fd_l_is_letter
  b_l_is_letter : Binds K fd_l_is_letter ["actual", "due"] []
  g_l_is_letter : mg "_law_is_letter" = some (.ref f_l_is_letter)
  f_l_named : Addr
  fd_l_named : FuncData
  F_l_named : Fun K "_law_named" "_law_named" s_l_named f_l_named fd_l_named
  b_l_named : Binds K fd_l_named ["draws", "plan"] []
  g_l_named : mg "_law_named" = some (.ref f_l_named)
  f_law : Addr
  fd_law : FuncData
  F_law : Fun K "law" "law" s_law f_law fd_law
  b_law : Binds K fd_law ["script"] []
  g_law : mg "law" = some (.ref f_law)
  m_ValueError : mg "ValueError" = none
  m_abs : mg "abs" = none
  m_all : mg "all" = none
  m_bool : mg "bool" = none
  m_enumerate : mg "enumerate" = none
  m_int : mg "int" = none
  m_isinstance : mg "isinstance" = none
  m_len : mg "len" = none
  m_list : mg "list" = none
  m_range : mg "range" = none
  m_set : mg "set" = none
  m_sorted : mg "sorted" = none
  m_str : mg "str" = none
  m_tuple : mg "tuple" = none
  m_zip : mg "zip" = none
  aW : Addr
  vt : Tok
  g_WORDS : mg "WORDS" = some (.ref aW)
  g_VOID : mg "VOID" = some (.str "void" vt)
  dt : Tok
  mt : Tok
  g_DIGITS : mg "DIGITS" = some (.str "0123456789" dt)
  g_MOST : mg "MOST_DIGITS" = some (.int 60 mt)
def sp_names_of (K : PySem.W.Frag) : Sp := fun vs H Q _ => ∃ (p tm : Addr) (ts : List Addr) (P : Pl), vs = [.ref p] ∧ PlanAt H p tm ts P ∧ P.ms.length ≤ 1000 ∧ ∀ H' q, Same H H' → H' q = some (.tup ((P.ms.map Mt.name).map V.str)) → Q (.ref q) H'
section
variable {P : Program} {w : World} {K : PySem.W.Frag} {mg : Str → Option Value} {base : Heap}
theorem ok_names_of (T : Ctx K mg) : FnOk P w K mg base CX0 1 T.f_names_of T.fd_names_of ["plan"] (sp_names_of K) := by
  refine T.F_names_of.ok sc_names_of (fun vs H Q E h => ?_) (fun cdv A outer s H vs Q E hr h => ?_)
  · obtain ⟨p, tm, ts, P, rfl, _⟩ := h
    rfl
  · obtain ⟨p, tm, ts, P, rfl, pa, few, q⟩ := h
    refine ⟨_, (pss_one (ps_ret (pe_callTy call_tuple_of (by rfl) T.m_tuple (by decide +kernel) (pa_cons (pe_lc (own := [("meter", 1)]) (g := gName 1) (by rfl) sc_names_of.nd (pi_tup (pe_ix ix_tup (pv 0) pe_int (fun _ _ => rfl))) (blkOk_by (own := [("meter", 1)]) (N := ["plan", "meter"]) (sc := defScope s_names_of) (by decide +kernel)) (fun _ _ _ _ _ => pg_name (i := 1) sc_names_of.nd rfl (Or.inl rfl)) (fun _ _ _ _ _ => pts_nil) (fun _ _ _ _ _ => (pe_ix (show IxR _ (rIxT K) from ix_tup) (pv 1) pe_int (fun _ _ => rfl)))) pa_nil)))), ?_⟩
    have tl : ts.length = P.ms.length := pa.low.length
    refine ⟨.ref p, rfl, p, _, 1, _, rfl, rfl, .inl (.inl pa.top), atI_nat (j := 1) rfl, tm, rfl, ⟨_, .inl (.inl pa.mid)⟩, fun C nC => lc_tup (K := K) (a := tm) (xs := ts.map V.ref) (fun i H' => Same H H' ∧ H' C = some (.lst ((((P.ms.map Mt.name).take i)).map V.str))) ⟨same_new nC, by rw [upd_same]; simp⟩ (fun i H' _ z => .inl (.inl (z.1 _ _ pa.mid))) (fun i x H' hx z => ?_) (fun H' z => ?_)⟩
    · obtain ⟨s1, hC⟩ := z
      have il : i < ts.length := by
        have := (List.getElem?_eq_some_iff.mp hx).1
        rw [List.length_map] at this
        exact this
      have ex : x = .ref ts[i] := by
        rw [List.getElem?_map, List.getElem?_eq_getElem il] at hx
        exact (Option.some.inj hx).symm
      subst ex
      obtain ⟨m, hm, hat⟩ := mts_at pa.low (List.getElem?_eq_getElem il)
      refine ⟨rfl, .ref ts[i], rfl, ts[i], _, 0, _, rfl, rfl, .inl (.inl (s1 _ _ hat)), atI_nat (j := 0) rfl, _, hC, ?_, fun b o e => ?_, ?_⟩
      · rw [List.length_map, List.length_take, List.length_map]
        exact small (by omega)
      · rw [upd_ne (ne_of_none e nC)]
        exact s1 _ _ e
      · rw [upd_same, List.take_add_one, List.getElem?_map, hm, List.map_append]
        rfl
    · obtain ⟨s1, hC⟩ := z
      rw [List.length_map, tl, ← List.length_map (f := Mt.name) (as := P.ms), List.take_length] at hC
      exact ⟨C, _, rfl, .inl ⟨.inl (.inl hC), fun q' nq => q _ q' (s1.trans (same_new nq)) upd_same⟩⟩
end
def sp_check_read (K : PySem.W.Frag) : Sp := fun vs H Q _ => ∃ (N : Addr) (s v : Int) (r : List V), vs = [.ref N] ∧ SqL K H N (.int s :: .int v :: r) ∧ 1 ≤ s ∧ 0 ≤ v ∧ ∀ H', Same H H' → Q .non H'
section
variable {P : Program} {w : World} {K : PySem.W.Frag} {mg : Str → Option Value} {base : Heap}
theorem ok_check_read (T : Ctx K mg) : FnOk P w K mg base CX0 1 T.f_check_read T.fd_check_read ["numbers"] (sp_check_read K) := by
  refine T.F_check_read.ok sc_check_read (fun vs H Q E h => ?_) (fun cdv A outer s H vs Q E hr h => ?_)
  · obtain ⟨N, s, v, r, rfl, _⟩ := h
    rfl
  · obtain ⟨N, s, v, r, rfl, hN, hs, hv, q⟩ := h
    refine ⟨_, (pss_cons (ps_asg (pe_slice sl_list (pv 0) po_none (po_some pe_int)) (pg_lst (by rfl) (pgs_cons (pg_name (i := 1) sc_check_read.nd rfl (Or.inl rfl)) (pgs_cons (pg_name (i := 2) sc_check_read.nd rfl (Or.inl rfl)) pgs_nil))))
      (pss_cons (ps_if (pt_cmpR op_lt (pv 1) pe_int (nomark _))
        (pss_one ps_never)
        pss_nil)
      (pss_one (ps_if (pt_cmpR op_lt (pv 2) pe_int (nomark _))
        (pss_one ps_never)
        pss_nil)))), ?_⟩
    refine ⟨.ref N, rfl, 2, rfl, N, _, rfl, hN, fun S nS => ⟨S, [.int s, .int v], rfl, .inl (.inl ?_), rfl, _, _, rfl, _, _, rfl, rfl, ?_⟩⟩
    · rw [upd_same]
      congr 1
    refine ⟨.int s, rfl, _, _, rfl, rfl, _, rfl, ite2 (fun e => absurd (of_decide_eq_true e) (by omega)) (fun _ => ?_)⟩
    refine ⟨.int v, rfl, _, _, rfl, rfl, _, rfl, ite2 (fun e => absurd (of_decide_eq_true e) (by omega)) (fun _ => ?_)⟩
    exact q _ (same_new nS)
end
def sp_check_close (K : PySem.W.Frag) : Sp := fun vs H Q _ => ∃ (N : Addr) (f a v : Int), vs = [.ref N] ∧ SqL K H N [.int f, .int a, .int v] ∧ 0 ≤ f ∧ 0 ≤ v ∧ ∀ H', Same H H' → Q .non H'
section
variable {P : Program} {w : World} {K : PySem.W.Frag} {mg : Str → Option Value} {base : Heap}
theorem ok_check_close (T : Ctx K mg) : FnOk P w K mg base CX0 1 T.f_check_close T.fd_check_close ["numbers"] (sp_check_close K) := by
  refine T.F_check_close.ok sc_check_close (fun vs H Q E h => ?_) (fun cdv A outer s H vs Q E hr h => ?_)
  · obtain ⟨N, f, a, v, rfl, _⟩ := h
    rfl
  · obtain ⟨N, f, a, v, rfl, hN, hf, hv, q⟩ := h
    refine ⟨_, (pss_cons (ps_par (i := 1) (j := 2) rfl sc_check_close.nd rfl rfl (by decide) rfl rfl (pa_cons (pe_ix ix_list (pv 0) pe_int (fun _ _ => rfl)) (pa_cons (pe_ix ix_list (pv 0) pe_int (fun _ _ => rfl)) pa_nil)) (by rfl))
      (pss_cons (ps_if (pt_cmpR op_lt (pv 1) pe_int (nomark _))
        (pss_one ps_never)
        pss_nil)
      (pss_one (ps_if (pt_cmpR op_lt (pv 2) pe_int (nomark _))
        (pss_one ps_never)
        pss_nil)))), ?_⟩
    refine ⟨.ref N, rfl, N, _, 0, _, rfl, rfl, hN, atI_nat (j := 0) rfl, .ref N, rfl, N, _, 2, _, rfl, rfl, hN, atI_nat (j := 2) rfl, _, _, rfl, ?_⟩
    refine ⟨.int f, rfl, _, _, rfl, rfl, _, rfl, ite2 (fun e => absurd (of_decide_eq_true e) (by omega)) (fun _ => ?_)⟩
    refine ⟨.int v, rfl, _, _, rfl, rfl, _, rfl, ite2 (fun e => absurd (of_decide_eq_true e) (by omega)) (fun _ => ?_)⟩
    exact q _ (Same.refl _)
end
def sp_check_letter (K : PySem.W.Frag) : Sp := fun vs H Q _ => ∃ (p tm t : Addr) (ts : List Addr) (P : Pl) (l : Lt), vs = [.ref p, .ref t] ∧ PlanAt H p tm ts P ∧ P.ms.length ≤ 1000 ∧ LtAt H t l ∧ l.Ok ∧ l.name ∈ P.ms.map Mt.name ∧ ∀ H', Same H H' → Q .non H'
theorem inV_str {n : Str} {ns : List Str} (h : n ∈ ns) : inV (.str n) (ns.map V.str) = true := by
  unfold inV
  rw [List.any_eq_true]
  refine ⟨.str n, List.mem_map_of_mem h, ?_⟩
  show decide _ = true
  exact decide_eq_true rfl
theorem flat_strs : ∀ ns : List Str, (ns.map V.str).all flatV = true := by
  intro ns
  rw [List.all_eq_true]
  intro x hx
  obtain ⟨n, _, rfl⟩ := List.mem_map.mp hx
  rfl
section
variable {P : Program} {w : World} {K : PySem.W.Frag} {mg : Str → Option Value} {base : Heap}
theorem ok_check_letter (T : Ctx K mg) : FnOk P w K mg base CX0 2 T.f_check_letter T.fd_check_letter ["plan", "letter"] (sp_check_letter K) := by
  refine T.F_check_letter.ok sc_check_letter (fun vs H Q E h => ?_) (fun cdv A outer s H vs Q E hr h => ?_)
  · obtain ⟨p, tm, t, ts, P, l, rfl, _⟩ := h
    rfl
  · obtain ⟨p, tm, t, ts, P, l, rfl, pa, few, hl, ok, hn, q⟩ := h
    refine ⟨_, (pss_cons (ps_asg (pv 1) (Star2.pg_star (i := 2) rfl (pgs_cons (pg_name (i := 2) sc_check_letter.nd rfl (Or.inl rfl)) (pgs_cons (pg_name (i := 3) sc_check_letter.nd rfl (Or.inl rfl)) (Star2.pgs_star (pg_name (i := 4) sc_check_letter.nd rfl (Or.inl rfl)))))))
      (pss_cons (ps_if (pt_cmpR op_notIn_seq (pv 3) (pe_call (ok_names_of T) (hr.mono (by decide)) (by rfl) T.g_names_of T.F_names_of.kp T.b_names_of .nil pass0 (pa_cons (pv 0) pa_nil)) rfl)
        (pss_one ps_never)
        pss_nil)
      (pss_cons (ps_if (pt_cmpR op_eq (pv 2) pe_str (nomark _))
        (pss_one (ps_expr (pe_call (ok_check_read T) (hr.mono (by decide)) (by rfl) T.g_check_read T.F_check_read.kp T.b_check_read .nil pass0 (pa_cons (pv 4) pa_nil))))
        pss_nil)
      (pss_one (ps_if (pt_cmpR op_eq (pv 2) pe_str (nomark _))
        (pss_one (ps_expr (pe_call (ok_check_close T) (hr.mono (by decide)) (by rfl) T.g_check_close T.F_check_close.kp T.b_check_close .nil pass0 (pa_cons (pv 4) pa_nil))))
        pss_nil))))), ?_⟩
    have hl' : H t = some (.tup (.str l.kind :: .str l.name :: l.nums.map optV)) := by rw [← Lt.vals_eq]; exact hl
    refine ⟨.ref t, rfl, t, _, rfl, .inl (.inl hl'), by simp only [List.length_cons]; omega, fun N nN => ?_⟩
    refine ⟨_, _, rfl, _, _, rfl, _, _, rfl, rfl, ?_⟩
    have s1 : Same H (upd H N (.lst (l.nums.map optV))) := same_new nN
    refine ⟨.str l.name, rfl, .ref p, rfl, p, tm, ts, P, rfl, pa.same s1, few, fun H2 b s2 hb => ⟨b, _, rfl, .inr (.inl (.inl hb)), rfl, flat_strs _, _, rfl, ?_⟩⟩
    have s12 := s1.trans s2
    have hN2 : SqL K H2 N (l.nums.map optV) := .inl (.inl (s2 _ _ upd_same))
    rw [inV_str hn]
    refine iteF ?_
    cases l with
    | read n s v a x =>
      obtain ⟨_, k1, k2, _⟩ := ok
      refine ⟨.str "read", rfl, rfl, _, rfl, ite2 (fun _ => ?_) (fun e => absurd (decide_eq_true rfl) e)⟩
      refine ⟨.ref N, rfl, N, s, v, _, rfl, hN2, k1, k2, fun H3 s3 => ?_⟩
      exact ⟨.str "read", rfl, rfl, _, rfl, ite2 (fun e => absurd e (by decide +kernel)) (fun _ => q _ (s12.trans s3))⟩
    | close n f a v =>
      obtain ⟨_, k1, k2, _⟩ := ok
      refine ⟨.str "close", rfl, rfl, _, rfl, ite2 (fun e => absurd e (by decide +kernel)) (fun _ => ?_)⟩
      refine ⟨.str "close", rfl, rfl, _, rfl, ite2 (fun _ => ?_) (fun e => absurd (decide_eq_true rfl) e)⟩
      exact ⟨.ref N, rfl, N, f, a, v, rfl, hN2, k1, k2, fun H3 s3 => q _ (s12.trans s3)⟩
    | clock n lo hi =>
      refine ⟨.str "clock", rfl, rfl, _, rfl, ite2 (fun e => absurd e (by decide +kernel)) (fun _ => ?_)⟩
      refine ⟨.str "clock", rfl, rfl, _, rfl, ite2 (fun e => absurd e (by decide +kernel)) (fun _ => ?_)⟩
      exact q _ s12
end
def sp_line_of (K : PySem.W.Frag) : Sp := fun vs H Q _ => ∃ (t : Addr) (l : Lt), vs = [.ref t] ∧ LtAt H t l ∧ l.Ok ∧ ∀ H', Same H H' → Q (.str l.row) H'
section
variable {P : Program} {w : World} {K : PySem.W.Frag} {mg : Str → Option Value} {base : Heap}
theorem ok_line_of (T : Ctx K mg) (hW : WordsAt K w T.aW) : FnOk P w K mg base CX0 1 T.f_line_of T.fd_line_of ["letter"] (sp_line_of K) := by
  refine T.F_line_of.ok sc_line_of (fun vs H Q E h => ?_) (fun cdv A outer s H vs Q E hr h => ?_)
  · obtain ⟨t, l, rfl, _⟩ := h
    rfl
  · obtain ⟨t, l, rfl, hl, ok, q⟩ := h
    refine ⟨_, (pss_cons (ps_asg (pv 0) (Star2.pg_star (i := 2) rfl (pgs_cons (pg_name (i := 1) sc_line_of.nd rfl (Or.inl rfl)) (pgs_cons (pg_name (i := 2) sc_line_of.nd rfl (Or.inl rfl)) (Star2.pgs_star (pg_name (i := 3) sc_line_of.nd rfl (Or.inl rfl)))))))
      (pss_cons (ps_set (i := 4) sc_line_of.nd rfl (.inl rfl) (pe_lst (pa_cons (pv 1) (pa_cons (pv 2) pa_nil))))
      (pss_cons (ps_for PassesOwn.never rfl (Zmix.pi_zipM (by rfl) T.m_zip (pa_cons (pe_ix ix_kdict (pe_glob (v := .ref T.aW) (by rfl) T.g_WORDS rfl) (pv 1) (fun _ _ => rfl)) (pa_cons (pv 3) pa_nil))) (pg_tup rfl (pgs_cons (pg_name (i := 5) sc_line_of.nd rfl (Or.inl rfl)) (pgs_cons (pg_name (i := 6) sc_line_of.nd rfl (Or.inl rfl)) pgs_nil)))
        (pss_cons (ps_expr (pe_bm PySem.F.plainAttrs_list PySem.F.slot_list_append PySem.F.type_list_append mt_append (pv 4) (pa_cons (pv 5) pa_nil)))
      (pss_one (ps_expr (pe_bm PySem.F.plainAttrs_list PySem.F.slot_list_append PySem.F.type_list_append mt_append (pv 4) (pa_cons (pe_ifExp (pt_cmpR op_isN (pv 6) pe_non (nomark _)) (pe_glob (v := .str "void") (by rfl) T.g_VOID ⟨_, rfl⟩) (pe_callTy call_str_int (by rfl) T.m_str (by decide +kernel) (pa_cons (pv 6) pa_nil))) pa_nil))))))
      (pss_one (ps_ret (pe_op op_add_str (pe_join pe_str (pv 4)) pe_str)))))), ?_⟩
    have hl' : H t = some (.tup (.str l.kind :: .str l.name :: l.nums.map optV)) := by rw [← Lt.vals_eq]; exact hl
    refine ⟨.ref t, rfl, t, _, rfl, .inl (.inl hl'), by simp only [List.length_cons]; omega, fun N nN => ?_⟩
    obtain ⟨tw, kd, hT⟩ : ∃ tw : Addr, KDct K w T.aW l.kind (.ref tw) ∧ ∀ H, SqT K H tw (l.mid.map V.str) := by
      obtain ⟨tr, tc, tk, k1, k2, k3, q1, q2, q3⟩ := hW
      cases l with
      | read => exact ⟨tr, k1, q1⟩
      | close => exact ⟨tc, k2, q2⟩
      | clock => exact ⟨tk, k3, q3⟩
    refine ⟨_, _, rfl, _, _, rfl, _, _, rfl, rfl, .str l.kind, rfl, .str l.name, rfl, small' (n := 2) (by decide), fun M nM => ?_⟩
    have nMN : N ≠ M := fun z => by
      rw [← z, upd_same] at nM
      cases nM
    refine ⟨.str l.kind, rfl, _, _, .ref tw, rfl, rfl, kd, .ref N, rfl, tw, N, l.mid.map V.str, l.nums.map optV, rfl, hT _, .inl (.inl (by rw [upd_ne nMN, upd_same]; rfl)), ?_⟩
    refine Zmix.for_mix (K := K) (a := tw) (b := N) (xs := l.mid.map V.str) (ys := l.nums.map optV) (by rw [List.length_map, List.length_map, Lt.mid_nums]) (fun i σ H' => ∃ y5 y6 : Option V, σ = [some (.ref t), some (.str l.kind), some (.str l.name), some (.ref N), some (.ref M), y5, y6] ∧ Same H H' ∧ H' N = some (.lst (l.nums.map optV)) ∧ H' M = some (.lst ((l.upto i).map V.str)) ∧ i ≤ 4) ⟨none, none, rfl, (same_new nN).trans (same_new nM), by rw [upd_ne nMN, upd_same]; rfl, by rw [upd_same]; rfl, Nat.zero_le _⟩ (fun i σ H' hp => ?_) (fun i x y T' σ H' hx hy hp nT => ?_) (fun σ H' hp => ?_)
    · obtain ⟨_, _, _, _, hN, _⟩ := hp
      exact ⟨hT _, .inl (.inl hN)⟩
    · obtain ⟨y5, y6, rfl, s1, hN, hM, hi⟩ := hp
      have il : i < l.mid.length := by
        have := (List.getElem?_eq_some_iff.mp hx).1
        rw [List.length_map] at this
        exact this
      have i4 : i + 1 ≤ 4 := Nat.le_trans il l.mid_le
      obtain ⟨a, ha, rfl⟩ : ∃ a, l.mid[i]? = some a ∧ x = .str a := by
        rw [List.getElem?_map] at hx
        obtain ⟨a, e1, e2⟩ := Option.map_eq_some_iff.mp hx
        exact ⟨a, e1, e2.symm⟩
      obtain ⟨o, ho, rfl⟩ : ∃ o, l.nums[i]? = some o ∧ y = optV o := by
        rw [List.getElem?_map] at hy
        obtain ⟨a, e1, e2⟩ := Option.map_eq_some_iff.mp hy
        exact ⟨a, e1, e2.symm⟩
      have up := Lt.upto_succ ha ho
      have ln := l.upto_len i hi
      have nMT : M ≠ T' := ne_of_none hM nT
      have nNT : N ≠ T' := ne_of_none hN nT
      have hM1 : upd H' T' (.tup [.str a, optV o]) M = some (.lst ((l.upto i).map V.str)) := by rw [upd_ne nMT]; exact hM
      refine ⟨T', _, rfl, .inl (.inl upd_same), rfl, _, _, rfl, _, _, rfl, rfl, .ref M, rfl, .inl ⟨rfl, _, .inl (.inl hM1)⟩, .str a, rfl, M, _, _, rfl, rfl, hM1, by rw [List.length_map]; exact small (by omega), ?_⟩
      have fin : ∀ z, z = V.str (optT o) → ∀ σ, σ = [some (.ref t), some (.str l.kind), some (.str l.name), some (.ref N), some (.ref M), some (V.str a), some (optV o)] → ∃ y5 y6 : Option V, σ = [some (.ref t), some (.str l.kind), some (.str l.name), some (.ref N), some (.ref M), y5, y6] ∧ Same H (upd (upd (upd H' T' (.tup [.str a, optV o])) M (.lst ((l.upto i).map V.str ++ [.str a]))) M (.lst ((l.upto i).map V.str ++ [.str a] ++ [z]))) ∧
          upd (upd (upd H' T' (.tup [.str a, optV o])) M (.lst ((l.upto i).map V.str ++ [.str a]))) M (.lst ((l.upto i).map V.str ++ [.str a] ++ [z])) N = some (.lst (l.nums.map optV)) ∧
          upd (upd (upd H' T' (.tup [.str a, optV o])) M (.lst ((l.upto i).map V.str ++ [.str a]))) M (.lst ((l.upto i).map V.str ++ [.str a] ++ [z])) M = some (.lst ((l.upto (i + 1)).map V.str)) ∧ i + 1 ≤ 4 := by
        rintro z rfl σ rfl
        refine ⟨_, _, rfl, fun b x e => ?_, by rw [upd_ne nMN, upd_ne nMN, upd_ne nNT]; exact hN, ?_, i4⟩
        · have nb : b ≠ M := ne_of_none (same_new nN _ _ e) nM
          rw [upd_ne nb, upd_ne nb, upd_ne (ne_of_none (s1 _ _ e) nT)]
          exact s1 _ _ e
        · rw [upd_same, up, List.map_append, List.map_append]
          rfl
      refine ⟨.ref M, rfl, .inl ⟨rfl, _, .inl (.inl upd_same)⟩, ?_⟩
      cases o with
      | none =>
        refine ⟨.non, rfl, rfl, true, rfl, iteT ⟨M, _, _, rfl, rfl, upd_same, by rw [List.length_append, List.length_map]; exact small (by show _ + 1 ≤ _; omega), fin _ rfl _ rfl⟩⟩
      | some v =>
        refine ⟨.int v, rfl, rfl, false, rfl, iteF ⟨.int v, rfl, v, rfl, (ok.nr v (List.mem_of_getElem? ho)).log, M, _, _, rfl, rfl, upd_same, by rw [List.length_append, List.length_map]; exact small (by show _ + 1 ≤ _; omega), fin _ rfl _ rfl⟩⟩
    · obtain ⟨y5, y6, rfl, s1, hN, hM, hi⟩ := hp
      rw [List.length_map, Lt.upto_all] at hM
      refine ⟨⟨_, rfl⟩, .ref M, rfl, _, M, l.words, rfl, rfl, .inl (.inl (.inl hM)), ok.words_fit, _, _, rfl, rfl, ?_, q _ s1⟩
      have z := ok.row_len
      have e : l.row.length = l.line.length + ("\n" : Str).length := len_app _ _
      show l.line.length + ("\n" : Str).length ≤ sizeLine
      rw [← e]
      exact small' (by omega)
end
def sp_write_bag (K : PySem.W.Frag) : Sp := fun vs H Q _ => ∃ (g : Addr) (ts : List Addr) (ls : List Lt), vs = [.ref g] ∧ (SqL K H g (ts.map V.ref) ∨ SqT K H g (ts.map V.ref)) ∧ Paired (LtAt H) ts ls ∧ (∀ l ∈ ls, l.Ok) ∧ ts.length ≤ 1900 ∧
  ∀ H', Same H H' → Q (.str (rows ls)) H'
theorem rows_step {H : Hp} {C : Addr} {ts : List Addr} {ls : List Lt} (hp : Paired (LtAt H) ts ls) (ok : ∀ l ∈ ls, l.Ok) (hl : ts.length ≤ 1900) (nC : H C = none) {i : Nat} {x : V} {H' : Hp} (hx : (ts.map V.ref)[i]? = some x)
    (z : Same H H' ∧ H' C = some (.lst (((ls.take i).map Lt.row).map V.str))) : ∃ t l, x = .ref t ∧ LtAt H' t l ∧ l.Ok ∧ ∀ H2, Same H' H2 → ∃ acc, H2 C = some (.lst acc) ∧ acc.length < sizeLine ∧ Same H (upd H2 C (.lst (acc ++ [.str l.row]))) ∧ upd H2 C (.lst (acc ++ [.str l.row])) C = some (.lst (((ls.take (i + 1)).map Lt.row).map V.str)) := by
  obtain ⟨s1, hC⟩ := z
  have ll : ls.length = ts.length := hp.length.symm
  have il : i < ts.length := by
    have := (List.getElem?_eq_some_iff.mp hx).1
    rw [List.length_map] at this
    exact this
  have ex : x = .ref ts[i] := by
    rw [List.getElem?_map, List.getElem?_eq_getElem il] at hx
    exact (Option.some.inj hx).symm
  obtain ⟨l, hl', hat⟩ := lts_at hp (List.getElem?_eq_getElem il)
  refine ⟨ts[i], l, ex, s1 _ _ hat, ok l (List.mem_of_getElem? hl'), fun H2 s2 => ⟨_, s2 _ _ hC, ?_, fun b o e => ?_, ?_⟩⟩
  · rw [List.length_map, List.length_map, List.length_take]
    exact small (by omega)
  · rw [upd_ne (ne_of_none e nC)]
    exact s2 _ _ (s1 _ _ e)
  · rw [upd_same, List.take_add_one, hl', List.map_append, List.map_append]
    rfl
section
variable {P : Program} {w : World} {K : PySem.W.Frag} {mg : Str → Option Value} {base : Heap}
theorem ok_write_bag (T : Ctx K mg) (hW : WordsAt K w T.aW) : FnOk P w K mg base CX0 2 T.f_write_bag T.fd_write_bag ["letters"] (sp_write_bag K) := by
  refine T.F_write_bag.ok sc_write_bag (fun vs H Q E h => ?_) (fun cdv A outer s H vs Q E hr h => ?_)
  · obtain ⟨g, ts, ls, rfl, _⟩ := h
    rfl
  · obtain ⟨g, ts, ls, rfl, hg, hp, ok, hl, q⟩ := h
    refine ⟨_, (pss_one (ps_ret (pe_join pe_str (pe_lc (own := [("letter", 1)]) (g := gName 1) (by rfl) sc_write_bag.nd (pi_either (pv 0)) (blkOk_by (own := [("letter", 1)]) (N := ["letters", "letter"]) (sc := defScope s_write_bag) (by decide +kernel)) (fun _ _ _ _ _ => pg_name (i := 1) sc_write_bag.nd rfl (Or.inl rfl)) (fun _ _ _ _ _ => pts_nil) (fun _ _ _ _ _ => (pe_call (ok_line_of T hW) (hr.mono (by decide)) (by rfl) T.g_line_of T.F_line_of.kp T.b_line_of .nil pass0 (pa_cons (pv 1) pa_nil))))))), ?_⟩
    have ll : ls.length = ts.length := hp.length.symm
    have e0 : ((ls.take 0).map Lt.row).map V.str = [] := by simp
    have done : ∀ (C : Addr) (H' : Hp), (Same H H' ∧ H' C = some (.lst (((ls.take (ts.map V.ref).length).map Lt.row).map V.str))) → Same H H' ∧ H' C = some (.lst ((ls.map Lt.row).map V.str)) := fun C H' z => by
      rw [List.length_map, ← ll, List.take_length] at z
      exact z
    refine ⟨⟨_, rfl⟩, ?_⟩
    rcases hg with hg | hg
    · refine .inl ⟨.ref g, rfl, g, rfl, ⟨_, hg⟩, fun C nC => lc_list (K := K) (a := g) (xs := ts.map V.ref) (fun i H' => Same H H' ∧ H' C = some (.lst (((ls.take i).map Lt.row).map V.str))) ⟨same_new nC, by rw [e0, upd_same]⟩ (fun i H' _ z => sqL_same z.1 hg) (fun i x H' hx z => ?_) (fun H' z => ?_)⟩
      · obtain ⟨t, l, rfl, hat, hok, k⟩ := rows_step hp ok hl nC hx z
        exact ⟨rfl, .ref t, rfl, t, l, rfl, hat, hok, k⟩
      · obtain ⟨s1, hC⟩ := done C H' z
        exact ⟨_, C, ls.map Lt.row, rfl, rfl, .inl (.inl (.inl hC)), rows_fit ok (by omega) (by omega : 1900 ≤ 16000), q _ s1⟩
    · refine .inr ⟨.ref g, rfl, g, rfl, ⟨_, hg⟩, fun C nC => lc_tup (K := K) (a := g) (xs := ts.map V.ref) (fun i H' => Same H H' ∧ H' C = some (.lst (((ls.take i).map Lt.row).map V.str))) ⟨same_new nC, by rw [e0, upd_same]⟩ (fun i H' _ z => sqT_same z.1 hg) (fun i x H' hx z => ?_) (fun H' z => ?_)⟩
      · obtain ⟨t, l, rfl, hat, hok, k⟩ := rows_step hp ok hl nC hx z
        exact ⟨rfl, .ref t, rfl, t, l, rfl, hat, hok, k⟩
      · obtain ⟨s1, hC⟩ := done C H' z
        exact ⟨_, C, ls.map Lt.row, rfl, rfl, .inl (.inl (.inl hC)), rows_fit ok (by omega) (by omega : 1900 ≤ 16000), q _ s1⟩
end
def sp_number_of (K : PySem.W.Frag) : Sp := fun vs H Q _ => ∃ (w : Str) (o : Option Int), vs = [.str w, .str (optT o)] ∧ (o = none → w = "is") ∧ (∀ i, o = some i → Nr i) ∧ ∀ H', Same H H' → Q (optV o) H'
section
variable {P : Program} {w : World} {K : PySem.W.Frag} {mg : Str → Option Value} {base : Heap}
theorem ok_number_of (T : Ctx K mg) : FnOk P w K mg base CX0 1 T.f_number_of T.fd_number_of ["word", "part"] (sp_number_of K) := by
  refine T.F_number_of.ok sc_number_of (fun vs H Q E h => ?_) (fun cdv A outer s H vs Q E hr h => ?_)
  · obtain ⟨w, o, rfl, _⟩ := h
    rfl
  · obtain ⟨w, o, rfl, hw, hn, q⟩ := h
    refine ⟨_, (pss_cons (ps_if (PW.pt (pw_and (pt_cmpR op_eq (pv 0) pe_str (nomark _)) (pw_and1 (pt_cmpR op_eq (pv 1) (pe_glob (v := .str "void") (by rfl) T.g_VOID ⟨_, rfl⟩) (nomark _)))))
        (pss_one (ps_ret pe_non))
        pss_nil)
      (pss_cons (ps_set (i := 2) sc_number_of.nd rfl (.inl rfl) (pe_m1 PySem.F.slot_str_removeprefix PySem.F.type_str_removeprefix mt_removeprefix (pv 1) pe_str))
      (pss_cons (ps_if (PW.pt (pw_or (pt_not (pt_chain op_le op_le pe_int (pe_callB call_len_str (by rfl) T.m_len (by decide +kernel) (pa_cons (pv 2) pa_nil)) (pe_glob (v := .int 60) (by rfl) T.g_MOST ⟨_, rfl⟩))) (pw_or1 (pt_not (pt_val (pe_callB (cr_all rfl) (by rfl) T.m_all (by decide +kernel) (pa_cons (pe_lc (own := [("digit", 4)]) (g := gName 4) (by rfl) sc_number_of.nd (pi_str (pv 2)) (blkOk_by (own := [("digit", 4)]) (N := ["word", "part", "digits", "number", "digit"]) (sc := defScope s_number_of) (by decide +kernel)) (fun _ _ _ _ _ => pg_name (i := 4) sc_number_of.nd rfl (Or.inl rfl)) (fun _ _ _ _ _ => pts_nil) (fun _ _ _ _ _ => (pe_cmpR op_in_sign (pv 4) (pe_glob (v := .str "0123456789") (by rfl) T.g_DIGITS ⟨_, rfl⟩) rfl))) pa_nil)))))))
        (pss_one ps_never)
        pss_nil)
      (pss_cons (ps_set (i := 3) sc_number_of.nd rfl (.inl rfl) (pe_callTy call_int_str (by rfl) T.m_int (by decide +kernel) (pa_cons (pv 1) pa_nil)))
      (pss_cons (ps_if (pt_cmpR op_ne (pe_callTy call_str_int (by rfl) T.m_str (by decide +kernel) (pa_cons (pv 3) pa_nil)) (pv 1) (nomark _))
        (pss_one ps_never)
        pss_nil)
      (pss_one (ps_ret (pv 3)))))))), ?_⟩
    cases o with
    | none =>
      rw [hw rfl]
      refine ⟨.str "is", rfl, rfl, _, rfl, ite2 (fun _ => ?_) (fun e => absurd (decide_eq_true rfl) e)⟩
      exact ⟨.str "void", rfl, rfl, _, rfl, ite2 (fun _ => q _ (Same.refl _)) (fun e => absurd (decide_eq_true rfl) e)⟩
    | some i =>
      have ni := hn i rfl
      refine ⟨.str w, rfl, rfl, _, rfl, ite2 (fun _ => ⟨.str (intT i), rfl, rfl, _, rfl, ite2 (fun e => absurd e ?ne) (fun _ => ?r1)⟩) (fun _ => iteF ?r2)⟩
      case ne =>
        intro e
        have e1 : intT i = ("void" : Str) := V.str.inj (of_decide_eq_true e)
        have e2 := PyProof.Rows.int_text_free' 118 ⟨by decide, .inr (by decide)⟩ i
        have e3 : 118 ∈ (intT i).cps.toList := by
          rw [e1]
          decide +kernel
        exact e2 e3
      all_goals (
        refine ⟨.str (intT i), rfl, ⟨_, rfl⟩, _, _, rfl, rfl, small' (by have := ni.len; omega), ?_⟩
        have eD := bare (i := i)
        generalize Txt.removeprefix (intT i) "-" = D at eD
        have lD : D.length = (TL.numL i.natAbs).length := by
          show D.cps.size = _
          rw [← eD]
          simp
        have l1 : 0 < (TL.numL i.natAbs).length := List.length_pos_iff.mpr (TL.numL_ne _)
        have l2 := ni.num
        refine ⟨.str D, rfl, D, rfl, small' (by omega), _, _, rfl, rfl, _, rfl, ite2 (fun _ => ?_) (fun e => absurd (decide_eq_true (by omega)) e)⟩
        refine ⟨_, _, rfl, rfl, _, rfl, ite2 (fun e => absurd e ?_) (fun _ => ?_)⟩
        · rw [decide_eq_true (by omega)]
          exact Bool.false_ne_true
        refine ⟨.str D, rfl, D, rfl, fun C nC => lc_it (walk_str (z := D)) (fun j H' => Same H H' ∧ H' C = some (.lst ((List.replicate j true).map V.bl))) ⟨same_new nC, upd_same⟩ (fun _ _ _ _ => trivial) (fun j x H1 H2 hj z y => ?_) (fun H' z => ?_)⟩
        · obtain ⟨s1, hC⟩ := z
          obtain ⟨rfl, c, hc, rfl⟩ := y
          have hd : 48 ≤ c ∧ c ≤ 57 := TL.numL_digits i.natAbs c (by
            rw [← eD, Array.mem_toList_iff]
            exact Array.mem_of_getElem? hc)
          have hm : decide (c ∈ ("0123456789" : Str).cps.toList) = true := by
            have e : ("0123456789" : Str).cps.toList = [48, 49, 50, 51, 52, 53, 54, 55, 56, 57] := by decide +kernel
            rw [e]
            refine decide_eq_true ?_
            simp only [List.mem_cons, List.not_mem_nil, or_false]
            omega
          refine ⟨rfl, _, rfl, c, _, rfl, rfl, _, hC, ?_, fun b o e => ?_, ?_⟩
          · rw [List.length_map, List.length_replicate]
            have hj' : j < D.length := hj
            exact small (by omega)
          · rw [upd_ne (ne_of_none e nC)]
            exact s1 _ _ e
          · rw [hm, upd_same, List.replicate_succ', List.map_append]
            rfl
        · obtain ⟨s1, hC⟩ := z
          refine ⟨C, _, rfl, .inl (.inl hC), _, rfl, ?_⟩
          have all : ((List.replicate D.cps.size true).all id) = true := by
            rw [List.all_eq_true]
            intro x hx
            rw [(List.mem_replicate.mp hx).2]
            rfl
          rw [all]
          refine iteF ?_
          refine ⟨.str (intT i), rfl, _, i, rfl, int_back ni, by have := ni.len; omega, ?_⟩
          exact ⟨.int i, rfl, i, rfl, ni.log, .str (intT i), rfl, rfl, _, rfl, ite2 (fun e => absurd e (by rw [decide_eq_true rfl]; exact Bool.false_ne_true)) (fun _ => ⟨.int i, rfl, q _ s1⟩)⟩)
end
def sp_letter_of (K : PySem.W.Frag) : Sp := fun vs H Q _ => ∃ (p tm : Addr) (ts : List Addr) (P : Pl) (l : Lt), vs = [.ref p, .str l.line] ∧ PlanAt H p tm ts P ∧ P.ms.length ≤ 1000 ∧ l.Ok ∧ l.name ∈ P.ms.map Mt.name ∧ ∀ H' t, Same H H' → LtAt H' t l → Q (.ref t) H'
section
variable {P : Program} {w : World} {K : PySem.W.Frag} {mg : Str → Option Value} {base : Heap}
theorem ok_letter_of (T : Ctx K mg) (hW : WordsAt K w T.aW) (hD0 : ∃ es n, KDict K w T.aW es n) : FnOk P w K mg base CX0 3 T.f_letter_of T.fd_letter_of ["plan", "line"] (sp_letter_of K) := by
  refine T.F_letter_of.ok sc_letter_of (fun vs H Q E h => ?_) (fun cdv A outer s H vs Q E hr h => ?_)
  · obtain ⟨p, tm, ts, P, l, rfl, _⟩ := h
    rfl
  · obtain ⟨p, tm, ts, P, l, rfl, pa, few, ok, hn, q⟩ := h
    obtain ⟨es, n, hD⟩ := hD0
    refine ⟨_, (pss_cons (ps_set (i := 2) sc_letter_of.nd rfl (.inl rfl) (pe_split (pv 1) pe_str))
      (pss_cons (ps_set (i := 3) sc_letter_of.nd rfl (.inl rfl) (pe_ix ix_list (pv 2) pe_int (fun _ _ => rfl)))
      (pss_cons (ps_if (PW.pt (pw_or (pt_cmpR (op_notIn_kd hD) (pv 3) (pe_glob (v := .ref T.aW) (by rfl) T.g_WORDS rfl) rfl) (pw_or1 (pt_cmpR op_ne (pe_callB call_len_seq (by rfl) T.m_len (by decide +kernel) (pa_cons (pv 2) pa_nil)) (pe_op op_add pe_int (pe_op op_mul pe_int (pe_callB call_len_seq (by rfl) T.m_len (by decide +kernel) (pa_cons (pe_ix ix_kdict (pe_glob (v := .ref T.aW) (by rfl) T.g_WORDS rfl) (pv 3) (fun _ _ => rfl)) pa_nil)))) (nomark _)))))
        (pss_one ps_never)
        pss_nil)
      (pss_cons (ps_if (pt_cmpR (op_neD hr.units) (pe_callTy call_tuple_of (by rfl) T.m_tuple (by decide +kernel) (pa_cons (Step2.pe_step (pv 2) (po_some pe_int) po_none (po_some pe_int)) pa_nil)) (pe_ix ix_kdict (pe_glob (v := .ref T.aW) (by rfl) T.g_WORDS rfl) (pv 3) (fun _ _ => rfl)) (nomark _))
        (pss_one ps_never)
        pss_nil)
      (pss_cons (ps_setLc (i := 4) (own := [("word", 6), ("part", 7)]) (g := gTup K 2 (gCons (gName 6) (gCons (gName 7) gNil))) (by rfl) sc_letter_of.nd rfl rfl (sw_true rfl rfl rfl (by decide +kernel)) (pi_zip (by rfl) T.m_zip (pa_cons (Step2.pe_step (pv 2) (po_some pe_int) po_none (po_some pe_int)) (pa_cons (Step2.pe_step (pv 2) (po_some pe_int) po_none (po_some pe_int)) pa_nil))) (blkOk_by (own := [("word", 6), ("part", 7)]) (N := ["plan", "line", "parts", "kind", "numbers", "letter", "word", "part"]) (sc := defScope s_letter_of) (by decide +kernel)) (fun _ _ _ _ _ => pg_tup rfl (pgs_cons (pg_name (i := 6) sc_letter_of.nd rfl (Or.inl rfl)) (pgs_cons (pg_name (i := 7) sc_letter_of.nd rfl (Or.inl rfl)) pgs_nil))) (fun _ _ _ _ _ => pts_nil) (fun _ _ _ _ _ => (pe_call (ok_number_of T) (hr.mono (by decide)) (by rfl) T.g_number_of T.F_number_of.kp T.b_number_of .nil pass0 (pa_cons (pv 6) (pa_cons (pv 7) pa_nil)))))
      (pss_cons (ps_set (i := 5) sc_letter_of.nd rfl (.inl rfl) (pe_tup (pa_cons (pv 3) (pa_cons (pe_ix ix_list (pv 2) pe_int (fun _ _ => rfl)) (StX.pa_star (pv 4) pa_nil)))))
      (pss_cons (ps_expr (pe_call (ok_check_letter T) (hr.mono (by decide)) (by rfl) T.g_check_letter T.F_check_letter.kp T.b_check_letter .nil pass0 (pa_cons (pv 0) (pa_cons (pv 5) pa_nil))))
      (pss_one (ps_ret (pv 5)))))))))), ?_⟩
    obtain ⟨tw, kd, hT⟩ : ∃ tw : Addr, KDct K w T.aW l.kind (.ref tw) ∧ ∀ H, SqT K H tw (l.mid.map V.str) := by
      obtain ⟨tr, tc, tk, k1, k2, k3, q1, q2, q3⟩ := hW
      cases l with
      | read => exact ⟨tr, k1, q1⟩
      | close => exact ⟨tc, k2, q2⟩
      | clock => exact ⟨tk, k3, q3⟩
    obtain ⟨_, _, u0, _, _, ns0, _⟩ := id kd
    have ll : l.line.length + 1 ≤ 1000 := by
      have z := ok.row_len
      have e : l.row.length = l.line.length + ("\n" : Str).length := len_app _ _
      have e2 : ("\n" : Str).length = 1 := by decide +kernel
      omega
    have m4 := l.mid_le
    refine ⟨.str l.line, rfl, ⟨_, rfl⟩, _, _, rfl, rfl, by decide +kernel, small' (by omega), fun W nW => ?_⟩
    rw [split_line ok]
    have s1 : Same H (upd H W (.lst (l.words.map V.str))) := same_new nW
    have hWL : upd H W (.lst (l.words.map V.str)) W = some (.lst (l.words.map V.str)) := upd_same
    generalize upd H W (.lst (l.words.map V.str)) = H1 at s1 hWL
    have hS1 : SqL K H1 W (l.words.map V.str) := .inl (.inl hWL)
    have a0 : atI (l.words.map V.str) 0 = some (.str l.kind) := atI_nat (j := 0) (by rw [words_eq]; rfl)
    have a1 : atI (l.words.map V.str) 1 = some (.str l.name) := atI_nat (j := 1) (by rw [words_eq]; rfl)
    refine ⟨.ref W, rfl, W, _, 0, _, rfl, rfl, hS1, a0, ?_⟩
    refine ⟨.str l.kind, rfl, l.kind, _, rfl, rfl, ns0, _, rfl, iteF ?_⟩
    refine ⟨.ref W, rfl, W, _, rfl, .inl hS1, .str l.kind, rfl, _, _, .ref tw, rfl, rfl, kd, tw, _, rfl, .inr (hT _), _, _, rfl, rfl, .inl ⟨by decide, by decide⟩, _, _, rfl, rfl, rfl, _, rfl, ite2 (fun e => absurd e ?_) (fun _ => ?_)⟩
    · rw [List.length_map, List.length_map, words_len]
      rw [decide_eq_true (by congr 1)]
      exact Bool.false_ne_true
    refine ⟨.ref W, rfl, 2, rfl, 2, rfl, W, _, rfl, hS1, by decide, ?_, fun S nS => ?_⟩
    · rw [pick_mid, List.length_map]
      exact small' (by omega)
    rw [pick_mid]
    have s2 := s1.trans (same_new (o := .lst (l.mid.map V.str)) nS)
    refine ⟨S, _, rfl, .inl ⟨.inl (.inl upd_same), fun tq ntq => ?_⟩⟩
    have s3 := s2.trans (same_new (o := .tup (l.mid.map V.str)) ntq)
    have hW3 : SqL K (upd (upd H1 S (.lst (l.mid.map V.str))) tq (.tup (l.mid.map V.str))) W (l.words.map V.str) := sqL_same ((same_new nS).trans (same_new ntq)) hS1
    have htq : upd (upd H1 S (.lst (l.mid.map V.str))) tq (.tup (l.mid.map V.str)) tq = some (.tup (l.mid.map V.str)) := upd_same
    generalize upd (upd H1 S (.lst (l.mid.map V.str))) tq (.tup (l.mid.map V.str)) = H3 at s3 hW3 htq
    refine ⟨.str l.kind, rfl, _, _, .ref tw, rfl, rfl, kd, midD l, midD l, .tup (.inl (.inl htq)) (strs_dp _), .tup (hT _) (strs_dp _), mid_shaped l, mid_shaped l, _, rfl, ?_⟩
    rw [mid_same]
    refine iteF ?_
    refine ⟨.ref W, rfl, 2, rfl, 2, rfl, W, _, rfl, hW3, by decide, ?_, fun A nA => ?_⟩
    · rw [pick_mid, List.length_map]
      exact small' (by omega)
    rw [pick_mid]
    have s4 := s3.trans (same_new (o := .lst (l.mid.map V.str)) nA)
    have hW4 := sqL_same (same_new (o := .lst (l.mid.map V.str)) nA) hW3
    have hA4 : upd H3 A (.lst (l.mid.map V.str)) A = some (.lst (l.mid.map V.str)) := upd_same
    generalize upd H3 A (.lst (l.mid.map V.str)) = H4 at s4 hW4 hA4
    refine ⟨.ref W, rfl, 3, rfl, 2, rfl, W, _, rfl, hW4, by decide, ?_, fun B nB => ?_⟩
    · rw [pick_num, List.length_map, List.length_map, ← Lt.mid_nums]
      exact small' (by omega)
    rw [pick_num]
    have s5 := s4.trans (same_new (o := .lst ((l.nums.map optT).map V.str)) nB)
    have hW5 := sqL_same (same_new (o := .lst ((l.nums.map optT).map V.str)) nB) hW4
    have hA5 : upd H4 B (.lst ((l.nums.map optT).map V.str)) A = some (.lst (l.mid.map V.str)) := same_new nB _ _ hA4
    have hB5 : upd H4 B (.lst ((l.nums.map optT).map V.str)) B = some (.lst ((l.nums.map optT).map V.str)) := upd_same
    generalize upd H4 B (.lst ((l.nums.map optT).map V.str)) = H5 at s5 hW5 hA5 hB5
    have ml : l.mid.length = l.nums.length := l.mid_nums
    refine ⟨A, B, l.mid.map V.str, (l.nums.map optT).map V.str, rfl, .inl (.inl hA5), .inl (.inl hB5), fun C nC => lc_it (walk_zip (K := K) (n := l.nums.length) (xs := l.mid.map V.str) (ys := (l.nums.map optT).map V.str) (by simp only [List.length_map]; omega)) (fun i H' => Same H5 H' ∧ H' C = some (.lst ((l.nums.take i).map optV))) ⟨same_new nC, by rw [upd_same]; rfl⟩ (fun i H' _ z => ⟨.inl (.inl (z.1 _ _ hA5)), .inl (.inl (z.1 _ _ hB5))⟩) (fun i x H6 H7 hi z y => ?_) (fun H6 z => ?_)⟩
    · obtain ⟨s6, hC⟩ := z
      obtain ⟨T', x1, x2, rfl, nT, rfl, e1, e2⟩ := y
      dsimp only at e1 e2
      have im : i < l.mid.length := by omega
      have ea : l.mid[i]? = some l.mid[i] := List.getElem?_eq_getElem im
      have eo : l.nums[i]? = some l.nums[i] := List.getElem?_eq_getElem hi
      have ex1 : x1 = .str l.mid[i] := by
        rw [List.getElem?_map, ea] at e1
        exact (Option.some.inj e1).symm
      have ex2 : x2 = .str (optT l.nums[i]) := by
        rw [List.getElem?_map, List.getElem?_map, eo] at e2
        exact (Option.some.inj e2).symm
      subst ex1 ex2
      have s7 := s6.trans (same_new (o := .tup [.str l.mid[i], .str (optT l.nums[i])]) nT)
      refine ⟨T', _, rfl, .inl (.inl upd_same), rfl, _, _, rfl, _, _, rfl, rfl, rfl, .str l.mid[i], rfl, .str (optT l.nums[i]), rfl, l.mid[i], l.nums[i], rfl, none_is ea eo, fun j hj => ok.nr j (by rw [← hj]; exact List.getElem_mem hi), fun H8 s8 => ⟨_, s8 _ _ (same_new nT _ _ hC), ?_, fun b o e => ?_, ?_⟩⟩
      · rw [List.length_map, List.length_take]
        exact small (by omega)
      · rw [upd_ne (ne_of_none e nC)]
        exact s8 _ _ (s7 _ _ e)
      · rw [upd_same, List.take_add_one, eo, List.map_append]
        rfl
    · obtain ⟨s6, hC⟩ := z
      rw [List.take_length] at hC
      have hW6 := sqL_same s6 hW5
      refine ⟨.str l.kind, rfl, .ref W, rfl, W, _, 1, _, rfl, rfl, hW6, a1, .ref C, rfl, C, _, rfl, .inr (.inl (.inl hC)), ?_⟩
      refine ⟨by simp only [List.length_cons, List.length_append, List.length_nil, List.length_map]; exact small' (by omega), fun t nt => ?_⟩
      have ev : V.str l.kind :: V.str l.name :: (l.nums.map optV ++ []) = l.vals := by rw [List.append_nil]; exact (Lt.vals_eq l).symm
      rw [ev]
      have s9 := (s5.trans s6).trans (same_new (o := .tup l.vals) nt)
      have hat : LtAt (upd H6 t (.tup l.vals)) t l := upd_same
      refine ⟨.ref p, rfl, .ref t, rfl, p, tm, t, ts, P, l, rfl, pa.same s9, few, hat, ok, hn, fun H8 s8 => ?_⟩
      exact ⟨.ref t, rfl, q _ t (s9.trans s8) (s8 _ _ hat)⟩
end
def sp_read_bag (K : PySem.W.Frag) : Sp := fun vs H Q _ => ∃ (p tm : Addr) (ts : List Addr) (P : Pl) (ls : List Lt), vs = [.ref p, .str (rows ls)] ∧ PlanAt H p tm ts P ∧ P.ms.length ≤ 1000 ∧ (∀ l ∈ ls, l.Ok ∧ l.name ∈ P.ms.map Mt.name) ∧ ls.length ≤ 1900 ∧
  ∀ H' b us, Same H H' → H' b = some (.tup (us.map V.ref)) → Paired (LtAt H') us ls → Q (.ref b) H'
theorem rows_len : ∀ {ls : List Lt}, (∀ l ∈ ls, l.Ok) → (rows ls).length ≤ ls.length * 1000
  | [], _ => Nat.zero_le _
  | l :: ls, h => by
    have a := (h l List.mem_cons_self).row_len
    have b := rows_len (ls := ls) fun m hm => h m (List.mem_cons_of_mem _ hm)
    rw [rows_cons, len_app, List.length_cons]
    omega
section
variable {P : Program} {w : World} {K : PySem.W.Frag} {mg : Str → Option Value} {base : Heap}
theorem ok_read_bag (T : Ctx K mg) (hW : WordsAt K w T.aW) (hD0 : ∃ es n, KDict K w T.aW es n) : FnOk P w K mg base CX0 4 T.f_read_bag T.fd_read_bag ["plan", "text"] (sp_read_bag K) := by
  refine T.F_read_bag.ok sc_read_bag (fun vs H Q E h => ?_) (fun cdv A outer s H vs Q E hr h => ?_)
  · obtain ⟨p, tm, ts, P, ls, rfl, _⟩ := h
    rfl
  · obtain ⟨p, tm, ts, P, ls, rfl, pa, few, ok, hl, q⟩ := h
    refine ⟨_, (pss_cons (ps_set (i := 2) sc_read_bag.nd rfl (.inl rfl) (pe_split (pv 1) pe_str))
      (pss_cons (ps_set (i := 3) sc_read_bag.nd rfl (.inl rfl) (pe_bm0 PySem.F.plainAttrs_list PySem.F.slot_list_pop PySem.F.type_list_pop mt_pop (pv 2)))
      (pss_cons (ps_set (i := 4) sc_read_bag.nd rfl (.inl rfl) (pe_lst pa_nil))
      (pss_cons (ps_for PassesOwn.never rfl (Enum1.pi_enumC (by rfl) T.m_enumerate (pa_cons (pv 2) pa_nil) (pk_cons pe_int pk_nil)) (pg_tup rfl (pgs_cons (pg_name (i := 5) sc_read_bag.nd rfl (Or.inl rfl)) (pgs_cons (pg_name (i := 6) sc_read_bag.nd rfl (Or.inl rfl)) pgs_nil)))
        (pss_one (ps_try_thru0 (pss_one (ps_expr (pe_bm PySem.F.plainAttrs_list PySem.F.slot_list_append PySem.F.type_list_append mt_append (pv 4) (pa_cons (pe_call (ok_letter_of T hW hD0) (hr.mono (by decide)) (by rfl) T.g_letter_of T.F_letter_of.kp T.b_letter_of .nil pass0 (pa_cons (pv 0) (pa_cons (pv 6) pa_nil))) pa_nil)))))))
      (pss_cons (ps_if (pt_cmpR op_ne (pv 3) pe_str (nomark _))
        (pss_one ps_never)
        pss_nil)
      (pss_one (ps_ret (pe_callTy call_tuple_of (by rfl) T.m_tuple (by decide +kernel) (pa_cons (pv 4) pa_nil))))))))), ?_⟩
    have ok1 : ∀ l ∈ ls, l.Ok := fun l h => (ok l h).1
    have rl := rows_len ok1
    refine ⟨.str (rows ls), rfl, ⟨_, rfl⟩, _, _, rfl, rfl, by decide +kernel, ?_, fun L nL => ?_⟩
    · have e : (1900002 : Nat) ≤ sizeLine := by decide
      omega
    rw [split_rows ok1]
    have s1 : Same H (upd H L (.lst ((ls.map Lt.line ++ [Str.empty]).map V.str))) := same_new nL
    have hL1 : upd H L (.lst ((ls.map Lt.line ++ [Str.empty]).map V.str)) L = some (.lst ((ls.map Lt.line ++ [Str.empty]).map V.str)) := upd_same
    generalize upd H L (.lst ((ls.map Lt.line ++ [Str.empty]).map V.str)) = H1 at s1 hL1
    have hlast : ((ls.map Lt.line ++ [Str.empty]).map V.str)[((ls.map Lt.line ++ [Str.empty]).map V.str).length - 1]? = some (.str Str.empty) := by simp
    refine ⟨.ref L, rfl, .inl ⟨rfl, _, .inl (.inl hL1)⟩, L, _, _, rfl, rfl, hL1, hlast, ?_⟩
    have ed : ((ls.map Lt.line ++ [Str.empty]).map V.str).dropLast = (ls.map Lt.line).map V.str := by simp
    rw [ed]
    have s2 : Same H (upd H1 L (.lst ((ls.map Lt.line).map V.str))) := same_keep s1 nL
    have hL2 : upd H1 L (.lst ((ls.map Lt.line).map V.str)) L = some (.lst ((ls.map Lt.line).map V.str)) := upd_same
    generalize upd H1 L (.lst ((ls.map Lt.line).map V.str)) = H2 at s2 hL2
    refine ⟨small' (n := 0) (by decide), fun G nG => ?_⟩
    have s3 := s2.trans (same_new (o := .lst []) nG)
    have nLG : L ≠ G := ne_of_none hL2 nG
    have nHG : H G = none := s2.free nG
    have hL3 : upd H2 G (.lst []) L = some (.lst ((ls.map Lt.line).map V.str)) := same_new nG _ _ hL2
    refine ⟨.ref L, rfl, L, (ls.map Lt.line).map V.str, 1, rfl, rfl, by decide, by decide, .inl (.inl hL3), Enum1.for_enumC (K := K) (a := L) (c := 1) (xs := (ls.map Lt.line).map V.str) (fun i σ H' => ∃ (y5 y6 : Option V) (us : List Addr), σ = [some (.ref p), some (.str (rows ls)), some (.ref L), some (.str Str.empty), some (.ref G), y5, y6] ∧ Same H H' ∧ H' L = some (.lst ((ls.map Lt.line).map V.str)) ∧ H' G = some (.lst (us.map V.ref)) ∧ Paired (LtAt H') us (ls.take i)) ⟨none, none, [], rfl, s3, hL3, upd_same, .nil⟩ (fun i σ H' hp => ?_) (fun i x T' σ H' hx hp nT => ?_) (fun σ H' hp => ?_)⟩
    · obtain ⟨_, _, _, _, _, hL', _⟩ := hp
      exact .inl (.inl hL')
    · obtain ⟨y5, y6, us, rfl, s4, hL4, hG4, hp4⟩ := hp
      have il : i < ls.length := by
        have := (List.getElem?_eq_some_iff.mp hx).1
        simpa using this
      have el : ls[i]? = some ls[i] := List.getElem?_eq_getElem il
      have ex : x = .str ls[i].line := by
        rw [List.getElem?_map, List.getElem?_map, el] at hx
        exact (Option.some.inj hx).symm
      subst ex
      have s5 := s4.trans (same_new (o := .tup [.int (1 + (i : Int)), .str ls[i].line]) nT)
      have hG5 : upd H' T' (.tup [.int (1 + (i : Int)), .str ls[i].line]) G = some (.lst (us.map V.ref)) := same_new nT _ _ hG4
      have okl := ok ls[i] (List.getElem_mem il)
      have ul : us.length = i := by
        have := hp4.length
        rw [List.length_take] at this
        omega
      refine ⟨T', _, rfl, .inl (.inl upd_same), rfl, _, _, rfl, _, _, rfl, rfl, .ref G, rfl, .inl ⟨rfl, _, .inl (.inl hG5)⟩, .ref p, rfl, .str ls[i].line, rfl, p, tm, ts, P, ls[i], rfl, pa.same s5, few, okl.1, okl.2, fun H6 t s6 hat => ?_⟩
      have hG6 : H6 G = some (.lst (us.map V.ref)) := s6 _ _ hG5
      have hL6 : H6 L = some (.lst ((ls.map Lt.line).map V.str)) := s6 _ _ (same_new nT _ _ hL4)
      have hp6 := same_lts s6 (same_lts (same_new (o := .tup [.int (1 + (i : Int)), .str ls[i].line]) nT) hp4)
      refine ⟨G, _, _, rfl, rfl, hG6, by rw [List.length_map]; exact small (by omega), _, _, us ++ [t], rfl, same_keep (s5.trans s6) nHG, by rw [upd_ne nLG]; exact hL6, by rw [upd_same, map_snoc], ?_⟩
      rw [List.take_add_one, el]
      exact (L2.Paired.mapP hp6 fun a b y => by
        have nb : a ≠ G := ne_of y hG6 (fun z => nomatch z)
        show upd H6 G _ a = _
        rw [upd_ne nb]
        exact y).snoc (by
          have nb : t ≠ G := ne_of hat hG6 (fun z => nomatch z)
          show upd H6 G _ t = _
          rw [upd_ne nb]
          exact hat)
    · obtain ⟨y5, y6, us, rfl, s4, hL4, hG4, hp4⟩ := hp
      rw [List.length_map, List.length_map, List.take_length] at hp4
      refine ⟨.str Str.empty, rfl, rfl, _, rfl, ite2 (fun e => absurd e (by decide +kernel)) (fun _ => ?_)⟩
      exact ⟨.ref G, rfl, G, _, rfl, .inl ⟨.inl (.inl hG4), fun b nb => q _ b us (s4.trans (same_new nb)) upd_same (same_lts (same_new nb) hp4)⟩⟩
end
def sp_l_draws (K : PySem.W.Frag) : Sp := fun vs H Q _ => ∃ (a : Addr) (ns : List Int) (m : Nat), vs = [.ref a, .int (m : Int)] ∧ SqL K H a (ns.map V.int) ∧ ns.length ≤ 1000 ∧ m ≤ 1000 ∧
  ∀ H' d, Same H H' → H d = none → DrA H' d → Q (.ref d) H'
section
variable {P : Program} {w : World} {K : PySem.W.Frag} {mg : Str → Option Value} {base : Heap}
theorem ok_l_draws (T : Ctx K mg) : FnOk P w K mg base CX0 1 T.f_l_draws T.fd_l_draws ["script", "many"] (sp_l_draws K) := by
  refine T.F_l_draws.ok sc_l_draws (fun vs H Q E h => ?_) (fun cdv A outer s H vs Q E hr h => ?_)
  · obtain ⟨a, ns, m, rfl, _⟩ := h
    rfl
  · obtain ⟨a, ns, m, rfl, hS, hlen, hm, q⟩ := h
    refine ⟨_, (pss_cons (ps_setLc (i := 2) (own := [("cell", 8)]) (g := gName 8) (by rfl) sc_l_draws.nd rfl rfl (sw_true rfl rfl rfl (by decide +kernel)) (pi_list (pv 0)) (blkOk_by (own := [("cell", 8)]) (N := ["script", "many", "cells", "rest", "draws", "k", "at", "once", "cell"]) (sc := defScope s_l_draws) (by decide +kernel)) (fun _ _ _ _ _ => pg_name (i := 8) sc_l_draws.nd rfl (Or.inl rfl)) (fun _ _ _ _ _ => pts_nil) (fun _ _ _ _ _ => (pe_callTy call_int1 (by rfl) T.m_int (by decide +kernel) (pa_cons (pv 8) pa_nil))))
      (pss_cons (ps_if (pt_cmpR op_eq (pe_callB call_len_seq (by rfl) T.m_len (by decide +kernel) (pa_cons (pv 2) pa_nil)) pe_int (nomark _))
        (pss_one (ps_expr (pe_bm PySem.F.plainAttrs_list PySem.F.slot_list_append PySem.F.type_list_append mt_append (pv 2) (pa_cons pe_int pa_nil))))
        pss_nil)
      (pss_cons (ps_set (i := 3) sc_l_draws.nd rfl (.inl rfl) (pe_callTy call_list_of (by rfl) T.m_list (by decide +kernel) (pa_cons (pv 2) pa_nil)))
      (pss_cons (ps_set (i := 4) sc_l_draws.nd rfl (.inl rfl) (pe_lst pa_nil))
      (pss_cons (ps_for PassesOwn.never rfl (pi_range1 (by rfl) T.m_range (pa_cons (pv 1) pa_nil)) (pg_name (i := 5) sc_l_draws.nd rfl (.inl rfl))
        (pss_cons (ps_set (i := 6) sc_l_draws.nd rfl (.inl rfl) (pe_op op_mod (pv 5) (pe_callB call_len_seq (by rfl) T.m_len (by decide +kernel) (pa_cons (pv 2) pa_nil))))
      (pss_one (ps_if (pt_cmpR op_ge (pe_ix ix_list (pv 2) (pv 6) (fun _ _ => rfl)) (pe_op op_pow pe_int pe_int) (nomark _))
        (pss_cons (ps_expr (pe_bm PySem.F.plainAttrs_list PySem.F.slot_list_append PySem.F.type_list_append mt_append (pv 4) (pa_cons (pe_op op_mod (pe_callTy call_int1 (by rfl) T.m_int (by decide +kernel) (pa_cons (pe_ix ix_list (pv 3) (pv 6) (fun _ _ => rfl)) pa_nil)) pe_int) pa_nil)))
      (pss_one (ps_asg (pe_op op_fdiv (pe_ix ix_list (pv 3) (pv 6) (fun _ _ => rfl)) pe_int) (pg_sub (pv 3) (pv 6) set_list))))
        (pss_cons (ps_set (i := 7) sc_l_draws.nd rfl (.inl rfl) (pe_op op_mod (pe_callTy call_int1 (by rfl) T.m_int (by decide +kernel) (pa_cons (pe_op op_add (pe_op op_add (pe_op op_mul (pe_ix ix_list (pv 2) (pv 6) (fun _ _ => rfl)) pe_int) (pe_op op_mul (pv 5) pe_int)) pe_int) pa_nil)) pe_int))
      (pss_one (ps_expr (pe_bm PySem.F.plainAttrs_list PySem.F.slot_list_append PySem.F.type_list_append mt_append (pv 4) (pa_cons (pe_op op_mod (pe_callTy call_int1 (by rfl) T.m_int (by decide +kernel) (pa_cons (pe_op op_add (pe_op op_add (pe_op op_mul (pv 7) (pv 7)) (pe_op op_mul pe_int (pv 7))) (pv 5)) pa_nil)) pe_int) pa_nil)))))))))
      (pss_cons (ps_expr (pe_bm0 PySem.F.plainAttrs_list PySem.F.slot_list_reverse PySem.F.type_list_reverse mt_reverse (pv 4)))
      (pss_one (ps_ret (pv 4))))))))), ?_⟩
    -- cells = [int(cell) for cell in script]
    refine ⟨.ref a, rfl, a, rfl, ⟨_, hS⟩, fun C hC => lc_list (K := K) (a := a) (xs := ns.map V.int) (fun i H1 => Same H H1 ∧ H1 C = some (.lst ((ns.take i).map V.int))) ⟨same_new hC, upd_same⟩ (fun i H1 _ p => p.1.seq hS) (fun i x H1 hx p => ?_) (fun H1 p => ?_)⟩
    · obtain ⟨hlt, hx'⟩ := List.getElem?_eq_some_iff.mp hx
      rw [List.length_map] at hlt
      have ex : x = .int ns[i] := by
        rw [← hx', List.getElem_map]
      subst ex
      refine ⟨rfl, _, rfl, .inl ⟨_, rfl, _, p.2, ?_, ?_, ?_⟩⟩
      · rw [List.length_map, List.length_take]
        exact small (by omega)
      · exact fun b o e => by
          rw [upd_ne (ne_of_none e hC)]
          exact p.1 b o e
      · rw [upd_same, List.take_add_one, List.getElem?_eq_getElem hlt, List.map_append]
        rfl
    · rw [List.length_map, List.take_length] at p
      obtain ⟨s1, hc⟩ := p
      refine ⟨.ref C, rfl, C, _, rfl, .inl (.inl (.inl hc)), rfl, _, rfl, ite2 (fun e => ?c1) (fun e => ?c2)⟩
      case' c1 =>
        have e0 : ns = [] := by
          have z : ((ns.map V.int).length : Int) = 0 := V.int.inj (of_decide_eq_true e)
          rw [List.length_map] at z
          exact List.length_eq_zero_iff.mp (by omega)
        subst e0
        refine ⟨.ref C, rfl, .inl ⟨rfl, _, .inl (.inl hc)⟩, C, _, _, rfl, rfl, hc, small (by decide), ?_⟩
        obtain ⟨H2, cs, hH, hcs, hcl, s2, hc2⟩ : ∃ (H2 : Hp) (cs : List Int), H2 = upd H1 C (.lst (List.map V.int [] ++ [.int 0])) ∧ cs ≠ [] ∧ cs.length ≤ 1000 ∧ Same H H2 ∧ H2 C = some (.lst (cs.map V.int)) :=
          ⟨_, [0], rfl, by simp, by decide, fun b o e => by rw [upd_ne (ne_of_none e hC)]; exact s1 b o e, upd_same⟩
        rw [← hH]
      case' c2 =>
        obtain ⟨H2, cs, hH, hcs, hcl, s2, hc2⟩ : ∃ (H2 : Hp) (cs : List Int), H2 = H1 ∧ cs ≠ [] ∧ cs.length ≤ 1000 ∧ Same H H2 ∧ H2 C = some (.lst (cs.map V.int)) :=
          ⟨H1, ns, rfl, fun z => by subst z; exact e (decide_eq_true rfl), hlen, s1, hc⟩
        rw [← hH]
      all_goals (
        have hcl0 : 0 < cs.length := by cases cs with | nil => exact absurd rfl hcs | cons x r => exact Nat.succ_pos _
        refine ⟨.ref C, rfl, C, _, rfl, .inl (.inl (.inl hc2)), fun r nr => ⟨Nat.zero_le _, fun D nD => ⟨.int m, rfl, m, rfl, by omega, by omega, ?_⟩⟩⟩
        have nrC : C ≠ r := ne_of_none hc2 nr
        have nDr : D ≠ r := fun e => by rw [e, upd_same] at nD; cases nD
        have nDC : C ≠ D := fun e => by rw [← e, upd_ne nrC, hc2] at nD; cases nD
        have nHD : H D = none := s2.free (by rw [upd_ne nDr] at nD; exact nD)
        have nHr : H r = none := s2.free nr
        refine for_range (lo := 0) (n := m) (fun i σ H3 => ∃ (y5 y6 y7 y8 : Option V) (rs ds : List Int), σ = [some (.ref a), some (.int m), some (.ref C), some (.ref r), some (.ref D), y5, y6, y7, y8] ∧
          Same H H3 ∧ H3 C = some (.lst (cs.map V.int)) ∧ H3 r = some (.lst (rs.map V.int)) ∧ rs.length = cs.length ∧ H3 D = some (.lst (ds.map V.int)) ∧ ds.length = i) ?_ (fun i σ H3 hi hp => ?_) (fun σ H3 hp => ?_)
        · refine ⟨none, none, none, none, cs, [], rfl, (s2.trans (same_new nr)).trans (same_new nD), ?_, ?_, rfl, upd_same, rfl⟩
          · rw [upd_ne nDC, upd_ne nrC]; exact hc2
          · rw [upd_ne nDr.symm, upd_same]
        · obtain ⟨y5, y6, y7, y8, rs, ds, rfl, s3, hC3, hr3, hrl, hD3, hdl⟩ := hp
          have e0 : (0 : Int) + (i : Int) = (i : Int) := by omega
          have hk0 : 0 ≤ ((0 : Int) + (i : Int)) % (cs.length : Int) := Int.emod_nonneg _ (by omega)
          have hk1 : ((0 : Int) + (i : Int)) % (cs.length : Int) < (cs.length : Int) := Int.emod_lt_of_pos _ (by omega)
          have hlenC : ((cs.map V.int).length : Int) = (cs.length : Int) := by rw [List.length_map]
          have hSC : SqL K H3 C (cs.map V.int) := .inl (.inl hC3)
          have hSr : SqL K H3 r (rs.map V.int) := .inl (.inl hr3)
          have more : ∀ (z : Int) (H4 : Hp), (∀ b o, H3 b = some o → b ≠ D → b ≠ r → H4 b = some o) → ∀ rs' : List Int, rs'.length = cs.length → H4 r = some (.lst (rs'.map V.int)) → H4 D = some (.lst (ds.map V.int ++ [.int z])) → ∀ y6 y7 : Option V,
              ∃ (z5 z6 z7 z8 : Option V) (rs ds : List Int), [some (.ref a), some (.int m), some (.ref C), some (.ref r), some (.ref D), some (.int ((0 : Int) + (i : Int))), y6, y7, y8] = [some (.ref a), some (.int m), some (.ref C), some (.ref r), some (.ref D), z5, z6, z7, z8] ∧
              Same H H4 ∧ H4 C = some (.lst (cs.map V.int)) ∧ H4 r = some (.lst (rs.map V.int)) ∧ rs.length = cs.length ∧ H4 D = some (.lst (ds.map V.int)) ∧ ds.length = i + 1 := fun z H4 k rs' hl' hr' hd' y6 y7 => by
            refine ⟨_, _, _, _, rs', ds ++ [z], rfl, fun b o e => k b o (s3 b o e) (ne_of_none e nHD) (ne_of_none e nHr), k C _ hC3 nDC nrC, hr', hl', ?_, ?_⟩
            · rw [hd', List.map_append]; rfl
            · rw [List.length_append, hdl]; rfl
          refine ⟨.int (0 + (i : Int)), rfl, .ref C, rfl, C, _, rfl, .inl hSC, _, _, rfl, rfl, by rw [hlenC]; omega, ?_⟩
          rw [hlenC]
          dsimp only
          generalize hkk : ((0 : Int) + (i : Int)) % (cs.length : Int) = kk at hk0 hk1 ⊢
          have hat : atI (cs.map V.int) kk = some (.int (cs[kk.toNat]'(by omega))) := atM_pos hk0 hk1
          have har : atI (rs.map V.int) kk = some (.int (rs[kk.toNat]'(by omega))) := atM_pos hk0 (by omega)
          generalize cs[kk.toNat]'(by omega) = cv at hat
          generalize rs[kk.toNat]'(by omega) = rv at har
          refine ⟨.ref C, rfl, .int kk, rfl, C, _, kk, _, rfl, rfl, hSC, hat, 10, 18, rfl, rfl, ⟨by decide, by decide, by decide⟩, _, _, rfl, rfl, _, rfl, ite2 (fun e => ?_) (fun e => ?_)⟩
          · have hge : (10 : Int) ^ (18 : Int).toNat ≤ cv := of_decide_eq_true e
            refine ⟨.ref D, rfl, .inl ⟨rfl, _, .inl (.inl hD3)⟩, .ref r, rfl, .int kk, rfl, r, _, kk, _, rfl, rfl, hSr, har, .inl ⟨_, rfl, _, _, rfl, rfl, (show (0 : Int) < 1000 by decide), D, _, _, rfl, rfl, hD3, ?_, ?_⟩⟩
            · rw [List.length_map]; exact small (by omega)
            · have nrD : r ≠ D := nDr.symm
              have hr4 : upd H3 D (.lst (ds.map V.int ++ [.int (rv % 1000)])) r = some (.lst (rs.map V.int)) := by rw [upd_ne nrD]; exact hr3
              have hj : ixN (rs.map V.int).length kk = some kk.toNat := by
                unfold ixN
                rw [if_pos hk0, if_pos (by rw [List.length_map]; omega)]
              refine ⟨.ref r, rfl, .int kk, rfl, r, _, kk, _, rfl, rfl, .inl (.inl hr4), har, _, _, rfl, rfl, ⟨by decide, by decide⟩, .ref r, rfl, .int kk, rfl, r, _, kk, _, rfl, rfl, hr4, hj, ?_⟩
              refine more (rv % 1000) _ (fun b o e n1 n2 => ?_) (rs.set kk.toNat (rv / 1000)) (by rw [List.length_set]; exact hrl) ?_ ?_ _ _
              · rw [upd_ne n2, upd_ne n1]; exact e
              · rw [upd_same, List.map_set]
              · rw [upd_ne nDr, upd_same]
          · refine ⟨.ref C, rfl, .int kk, rfl, C, _, kk, _, rfl, rfl, hSC, hat, _, _, rfl, rfl, .inr ⟨by decide, by decide⟩, .int (0 + (i : Int)), rfl, _, _, rfl, rfl, .inr ⟨by decide, by decide⟩, _, _, rfl, rfl, _, _, rfl, rfl, .inl ⟨_, rfl, _, _, rfl, rfl, (show (0 : Int) < 2147483647 by decide), ?_⟩⟩
            have o0 : 0 ≤ (cv * 48271 + (0 + (i : Int)) * 69621 + 11) % 2147483647 := Int.emod_nonneg _ (by decide)
            have o1 : (cv * 48271 + (0 + (i : Int)) * 69621 + 11) % 2147483647 < 2147483647 := Int.emod_lt_of_pos _ (by decide)
            dsimp only
            generalize (cv * 48271 + (0 + (i : Int)) * 69621 + 11) % 2147483647 = on at o0 o1 ⊢
            refine ⟨.ref D, rfl, .inl ⟨rfl, _, .inl (.inl hD3)⟩, .int on, rfl, .int on, rfl, _, _, rfl, rfl, .inl ⟨by omega, by omega⟩, .int on, rfl, _, _, rfl, rfl, .inl ⟨by decide, by decide⟩, _, _, rfl, rfl, .int (0 + (i : Int)), rfl, _, _, rfl, rfl, .inl ⟨_, rfl, _, _, rfl, rfl, (show (0 : Int) < 1000003 by decide), D, _, _, rfl, rfl, hD3, ?_, ?_⟩⟩
            · rw [List.length_map]; exact small (by omega)
            · exact more _ _ (fun b o e n1 n2 => by rw [upd_ne n1]; exact e) rs hrl (by rw [upd_ne nDr.symm]; exact hr3) upd_same _ _
        · obtain ⟨y5, y6, y7, y8, rs, ds, rfl, s3, hC3, hr3, hrl, hD3, hdl⟩ := hp
          refine ⟨.ref D, rfl, .inl ⟨rfl, _, .inl (.inl hD3)⟩, D, _, rfl, rfl, hD3, .ref D, rfl, ?_⟩
          refine q _ D (fun b o e => ?_) nHD ⟨ds.reverse, ?_⟩
          · rw [upd_ne (ne_of_none e nHD)]; exact s3 b o e
          · rw [upd_same, List.map_reverse])
end
def sp_l_take (K : PySem.W.Frag) : Sp := fun vs H Q _ => ∃ (d : Addr) (m : Int), vs = [.ref d, .int m] ∧ DrA H d ∧ 0 < m ∧ ∀ H' r, Dr d H H' → 0 ≤ r → r < m → Q (.int r) H'
section
variable {P : Program} {w : World} {K : PySem.W.Frag} {mg : Str → Option Value} {base : Heap}
theorem ok_l_take (T : Ctx K mg) : FnOk P w K mg base CX0 1 T.f_l_take T.fd_l_take ["draws", "many"] (sp_l_take K) := by
  refine T.F_l_take.ok sc_l_take (fun vs H Q E h => ?_) (fun cdv A outer s H vs Q E hr h => ?_)
  · obtain ⟨d, m, rfl, _⟩ := h
    rfl
  · obtain ⟨d, m, rfl, ⟨ns, hd⟩, hm, q⟩ := h
    refine ⟨_, (pss_cons (ps_if (pt_cmpR op_eq (pe_callB call_len_seq (by rfl) T.m_len (by decide +kernel) (pa_cons (pv 0) pa_nil)) pe_int (nomark _))
        (pss_one (ps_ret pe_int))
        pss_nil)
      (pss_one (ps_ret (pe_op op_mod (pe_callTy call_int1 (by rfl) T.m_int (by decide +kernel) (pa_cons (pe_bm0 PySem.F.plainAttrs_list PySem.F.slot_list_pop PySem.F.type_list_pop mt_pop (pv 0)) pa_nil)) (pv 1))))), ?_⟩
    have hS : SqL K H d (ns.map V.int) := .inl (.inl hd)
    refine ⟨.ref d, rfl, d, _, rfl, .inl hS, rfl, _, rfl, ite2 (fun e => ?_) (fun e => ?_)⟩
    · exact q H 0 ⟨fun _ _ _ h => h, ns, hd⟩ (Int.le_refl 0) hm
    · have hne : ns ≠ [] := fun z => by
        subst z
        exact e (decide_eq_true rfl)
      have hl : (ns.map V.int)[(ns.map V.int).length - 1]? = some (.int (ns.getLast hne)) := by
        rw [List.getElem?_map, List.length_map, at_last hne]
        rfl
      refine ⟨.ref d, rfl, .inl ⟨rfl, _, hS⟩, d, _, _, rfl, rfl, hd, hl, .inl ⟨_, rfl, .int m, rfl, _, _, rfl, rfl, hm, ?_⟩⟩
      rw [← List.map_dropLast]
      exact q _ _ (dr_upd _) (Int.emod_nonneg _ (by omega)) (Int.emod_lt_of_pos _ hm)
end
def sp_l_cell (K : PySem.W.Frag) : Sp := fun vs H Q _ => ∃ (a d : Addr) (ns : List Int), vs = [.ref a, .ref d] ∧ (∀ H', Dr d H H' → SqL K H' a (ns.map V.int)) ∧ DrA H d ∧
  ∀ H' c, Dr d H H' → (c = 0 ∨ c ∈ ns) → Q (.int c) H'
section
variable {P : Program} {w : World} {K : PySem.W.Frag} {mg : Str → Option Value} {base : Heap}
theorem ok_l_cell (T : Ctx K mg) : FnOk P w K mg base CX0 2 T.f_l_cell T.fd_l_cell ["script", "draws"] (sp_l_cell K) := by
  refine T.F_l_cell.ok sc_l_cell (fun vs H Q E h => ?_) (fun cdv A outer s H vs Q E hr h => ?_)
  · obtain ⟨a, d, ns, rfl, _⟩ := h
    rfl
  · obtain ⟨a, d, ns, rfl, hK, hd, q⟩ := h
    have hS := hK H (Dr.refl hd)
    refine ⟨_, (pss_cons (ps_if (pt_cmpR op_eq (pe_callB call_len_seq (by rfl) T.m_len (by decide +kernel) (pa_cons (pv 0) pa_nil)) pe_int (nomark _))
        (pss_one (ps_ret pe_int))
        pss_nil)
      (pss_one (ps_ret (pe_callTy call_int1 (by rfl) T.m_int (by decide +kernel) (pa_cons (pe_ix ix_list (pv 0) (pe_call (ok_l_take T) (hr.mono (by decide)) (by rfl) T.g_l_take T.F_l_take.kp T.b_l_take .nil pass0 (pa_cons (pv 1) (pa_cons (pe_callB call_len_seq (by rfl) T.m_len (by decide +kernel) (pa_cons (pv 0) pa_nil)) pa_nil))) (fun _ _ => rfl)) pa_nil))))), ?_⟩
    refine ⟨.ref a, rfl, a, _, rfl, .inl hS, rfl, _, rfl, ite2 (fun e => ?_) (fun e => ?_)⟩
    · exact q H 0 (Dr.refl hd) (.inl rfl)
    · have hne : ns ≠ [] := fun z => by
        subst z
        exact e (decide_eq_true rfl)
      have hl : 0 < ns.length := by cases ns with | nil => exact absurd rfl hne | cons x r => exact Nat.succ_pos _
      refine ⟨.ref a, rfl, .ref d, rfl, .ref a, rfl, a, _, rfl, .inl hS, d, _, rfl, hd, by rw [List.length_map]; omega, fun H1 r r1 h0 h1 => ?_⟩
      rw [List.length_map] at h1
      have hS1 : SqL K H1 a (ns.map V.int) := hK H1 r1
      exact ⟨a, _, r, _, rfl, rfl, hS1, atM_pos h0 h1, .inl ⟨_, rfl, q H1 _ r1 (.inr (List.getElem_mem _))⟩⟩
end
/-- the word of a number, sign by sign -/
def wcps : Nat → Int → List Nat → List Nat
  | 0, _, acc => acc
  | f + 1, n, acc => if n < 1 then acc else wcps f ((n - 1) / 26) ((97 + ((n - 1) % 26).toNat) :: acc)
def wordS (n : Int) : Str := ⟨(wcps 60 n []).toArray⟩
theorem wcps_stop : ∀ (f : Nat) (n : Int) (acc : List Nat), n < 1 → wcps f n acc = acc
  | 0, _, _, _ => rfl
  | f + 1, n, acc, h => by
    show (if n < 1 then acc else _) = acc
    rw [if_pos h]
def abc : Str := "abcdefghijklmnopqrstuvwxyz"
theorem abc_at : ∀ j : Nat, j < 26 → abc.cps.toList[j]? = some (97 + j) := by decide +kernel
theorem abc_len : abc.cps.toList.length = 26 := by decide +kernel
theorem wcps_isW : ∀ (f : Nat) (n : Int) (acc : List Nat), (∀ c ∈ acc, 97 ≤ c ∧ c ≤ 122) → (∀ c ∈ wcps f n acc, 97 ≤ c ∧ c ≤ 122) ∧ (wcps f n acc).length ≤ f + acc.length ∧ (acc ≠ [] → wcps f n acc ≠ [])
  | 0, n, acc, h => ⟨h, by show acc.length ≤ _; omega, fun z => z⟩
  | f + 1, n, acc, h => by
    by_cases c : n < 1
    · rw [wcps_stop _ _ _ c]
      exact ⟨h, by omega, fun z => z⟩
    · have e : wcps (f + 1) n acc = wcps f ((n - 1) / 26) ((97 + ((n - 1) % 26).toNat) :: acc) := if_neg c
      have h0 : 0 ≤ (n - 1) % 26 := Int.emod_nonneg _ (by decide)
      have h1 : (n - 1) % 26 < 26 := Int.emod_lt_of_pos _ (by decide)
      obtain ⟨a, b, d⟩ := wcps_isW f ((n - 1) / 26) ((97 + ((n - 1) % 26).toNat) :: acc) (fun x hx => by
        rcases List.mem_cons.mp hx with z | z
        · omega
        · exact h x z)
      rw [e]
      exact ⟨a, by simp only [List.length_cons] at b; omega, fun _ => d (List.cons_ne_nil _ _)⟩
theorem wordS_isW {n : Int} (h : 1 ≤ n) : IsW (wordS n) := by
  have e : wcps 60 n [] = wcps 59 ((n - 1) / 26) [97 + ((n - 1) % 26).toNat] := if_neg (by omega)
  have h0 : 0 ≤ (n - 1) % 26 := Int.emod_nonneg _ (by decide)
  have h1 : (n - 1) % 26 < 26 := Int.emod_lt_of_pos _ (by decide)
  obtain ⟨a, b, d⟩ := wcps_isW 59 ((n - 1) / 26) [97 + ((n - 1) % 26).toNat] (fun x hx => by
    rw [List.mem_singleton.mp hx]
    omega)
  rw [← e] at a b d
  refine ⟨by simpa [wordS] using d (by simp), by simpa [wordS] using a, ?_⟩
  show (wcps 60 n []).toArray.size ≤ 200
  simp only [List.size_toArray]
  simp only [List.length_cons, List.length_nil] at b
  omega
def sp_l_word (K : PySem.W.Frag) : Sp := fun vs H Q _ => ∃ n : Int, vs = [.int n] ∧ Q (.str (wordS n)) H
section
variable {P : Program} {w : World} {K : PySem.W.Frag} {mg : Str → Option Value} {base : Heap}
theorem ok_l_word (T : Ctx K mg) : FnOk P w K mg base CX0 1 T.f_l_word T.fd_l_word ["number"] (sp_l_word K) := by
  refine T.F_l_word.ok sc_l_word (fun vs H Q E h => ?_) (fun cdv A outer s H vs Q E hr h => ?_)
  · obtain ⟨n, rfl, _⟩ := h
    rfl
  · obtain ⟨n, rfl, q⟩ := h
    refine ⟨_, (pss_cons (ps_set (i := 1) sc_l_word.nd rfl (.inl rfl) pe_str)
      (pss_cons (ps_for PassesOwn.never rfl (pi_range1 (by rfl) T.m_range (pa_cons pe_int pa_nil)) (pg_name (i := 2) sc_l_word.nd rfl (.inl rfl))
        (pss_cons (ps_if (pt_cmpR op_lt (pv 0) pe_int (nomark _))
        (pss_one ps_break)
        pss_nil)
      (pss_cons (ps_set (i := 1) sc_l_word.nd rfl (.inl rfl) (pe_op op_add_str (pe_ix ix_str pe_str (pe_op op_mod (pe_callTy call_int1 (by rfl) T.m_int (by decide +kernel) (pa_cons (pe_op op_sub (pv 0) pe_int) pa_nil)) pe_int) (fun _ _ => rfl)) (pv 1)))
      (pss_one (ps_set (i := 0) sc_l_word.nd rfl (.inl rfl) (pe_op op_fdiv (pe_op op_sub (pv 0) pe_int) pe_int))))))
      (pss_one (ps_ret (pv 1))))), ?_⟩
    refine ⟨60, rfl, by decide, by decide, ?_⟩
    refine for_range (lo := 0) (n := 60) (fun i σ H3 => ∃ (m : Int) (acc : List Nat) (y2 : Option V), σ = [some (.int m), some (.str ⟨acc.toArray⟩), y2] ∧ H3 = H ∧ wcps 60 n [] = wcps (60 - i) m acc ∧ acc.length ≤ i) ⟨n, [], none, rfl, rfl, rfl, Nat.le_refl 0⟩ (fun i σ H3 hi hp => ?_) (fun σ H3 hp => ?_)
    · obtain ⟨m, acc, y2, rfl, rfl, hw, hl⟩ := hp
      refine ⟨.int m, rfl, _, _, rfl, rfl, _, rfl, ite2 (fun e => ?_) (fun e => ?_)⟩
      · have hm : m < 1 := of_decide_eq_true e
        rw [wcps_stop _ _ _ hm] at hw
        refine ⟨.str ⟨acc.toArray⟩, rfl, ?_⟩
        rw [← hw]
        exact q
      · have hm : ¬ m < 1 := fun z => e (decide_eq_true z)
        have h0 : 0 ≤ (m - 1) % 26 := Int.emod_nonneg _ (by decide)
        have h1 : (m - 1) % 26 < 26 := Int.emod_lt_of_pos _ (by decide)
        have hat : atI abc.cps.toList ((m - 1) % 26) = some (97 + ((m - 1) % 26).toNat) := by
          have ez : (m - 1) % 26 = (((m - 1) % 26).toNat : Int) := by omega
          have q := abc_at ((m - 1) % 26).toNat (by omega)
          rw [ez]
          exact atI_nat q
        refine ⟨.int m, rfl, _, _, rfl, rfl, .inl ⟨_, rfl, _, _, rfl, rfl, (show (0 : Int) < 26 by decide), abc, _, _, rfl, rfl, by decide +kernel, hat, .str ⟨acc.toArray⟩, rfl, _, _, rfl, rfl, ?_, .int m, rfl, _, _, rfl, rfl, _, _, rfl, rfl, ⟨by decide, by decide⟩, ?_⟩⟩
        · show 1 + acc.toArray.size ≤ sizeLine
          have : acc.toArray.size = acc.length := by simp
          rw [this]
          exact small' (by omega)
        · refine ⟨(m - 1) / 26, (97 + ((m - 1) % 26).toNat) :: acc, some (.int (0 + (i : Int))), ?_, rfl, ?_, by simp only [List.length_cons]; omega⟩
          · have ea : (⟨#[97 + ((m - 1) % 26).toNat]⟩ : Str) ++ ⟨acc.toArray⟩ = ⟨((97 + ((m - 1) % 26).toNat) :: acc).toArray⟩ := by
              show Str.mk (#[97 + ((m - 1) % 26).toNat] ++ acc.toArray) = _
              congr 1
              simp
            rw [ea]
            rfl
          · rw [hw]
            have ef : 60 - i = (60 - (i + 1)) + 1 := by omega
            rw [ef]
            show (if m < 1 then acc else _) = _
            rw [if_neg hm]
    · obtain ⟨m, acc, y2, rfl, rfl, hw, hl⟩ := hp
      refine ⟨.str ⟨acc.toArray⟩, rfl, ?_⟩
      have e : wordS n = ⟨acc.toArray⟩ := by
        unfold wordS
        rw [hw]
        rfl
      rw [← e]
      exact q
end
theorem isW_cat {a b : Str} (ha : ∀ c ∈ a.cps.toList, 97 ≤ c ∧ c ≤ 122) (hl : a.length ≤ 60) (hb : IsW b) (hb2 : b.length ≤ 100) : IsW (a ++ b) := by
  have e : (a ++ b).cps.toList = a.cps.toList ++ b.cps.toList := by
    show (a.cps ++ b.cps).toList = _
    simp
  refine ⟨?_, ?_, ?_⟩
  · rw [e]
    intro z
    exact hb.1 (List.append_eq_nil_iff.mp z).2
  · rw [e]
    intro c hc
    rcases List.mem_append.mp hc with z | z
    · exact ha c z
    · exact hb.2.1 c z
  · show (a.cps ++ b.cps).size ≤ 200
    rw [Array.size_append]
    have h1 : a.cps.size ≤ 60 := hl
    have h2 : b.cps.size ≤ 100 := hb2
    omega
theorem wordS_len (n : Int) : (wordS n).length ≤ 60 := by
  show (wcps 60 n []).toArray.size ≤ 60
  simp only [List.size_toArray]
  have h := (wcps_isW 60 n [] (fun _ z => nomatch z)).2.1
  simpa using h
theorem ljkl_ok : ∀ c ∈ (Str.ofString "abcdefghijkl").cps.toList, 97 ≤ c ∧ c ≤ 122 := by decide +kernel
theorem ljkl_len : (Str.ofString "abcdefghijkl").length ≤ 60 := by decide +kernel
def sp_l_some_word (K : PySem.W.Frag) : Sp := fun vs H Q _ => ∃ d : Addr, vs = [.ref d] ∧ DrA H d ∧ ∀ H' w, Dr d H H' → IsW w → Q (.str w) H'
section
variable {P : Program} {w : World} {K : PySem.W.Frag} {mg : Str → Option Value} {base : Heap}
theorem ok_l_some_word (T : Ctx K mg) : FnOk P w K mg base CX0 2 T.f_l_some_word T.fd_l_some_word ["draws"] (sp_l_some_word K) := by
  refine T.F_l_some_word.ok sc_l_some_word (fun vs H Q E h => ?_) (fun cdv A outer s H vs Q E hr h => ?_)
  · obtain ⟨d, rfl, _⟩ := h
    rfl
  · obtain ⟨d, rfl, hd, q⟩ := h
    refine ⟨_, (pss_cons (ps_set (i := 1) sc_l_some_word.nd rfl (.inl rfl) (pe_call (ok_l_take T) (hr.mono (by decide)) (by rfl) T.g_l_take T.F_l_take.kp T.b_l_take .nil pass0 (pa_cons (pv 0) (pa_cons pe_int pa_nil))))
      (pss_cons (ps_if (pt_cmpR op_lt (pv 1) pe_int (nomark _))
        (pss_one (ps_ret (pe_call (ok_l_word T) (hr.mono (by decide)) (by rfl) T.g_l_word T.F_l_word.kp T.b_l_word .nil pass0 (pa_cons (pe_op op_add (pe_op op_add pe_int (pe_op op_mod (pv 1) pe_int)) (pe_op op_mul pe_int (pe_op op_mod (pe_op op_fdiv (pv 1) pe_int) pe_int))) pa_nil))))
        pss_nil)
      (pss_cons (ps_if (pt_cmpR op_lt (pv 1) pe_int (nomark _))
        (pss_one (ps_ret (pe_call (ok_l_word T) (hr.mono (by decide)) (by rfl) T.g_l_word T.F_l_word.kp T.b_l_word .nil pass0 (pa_cons (pe_op op_add pe_int (pe_call (ok_l_take T) (hr.mono (by decide)) (by rfl) T.g_l_take T.F_l_take.kp T.b_l_take .nil pass0 (pa_cons (pv 0) (pa_cons pe_int pa_nil)))) pa_nil))))
        pss_nil)
      (pss_cons (ps_if (pt_cmpR op_lt (pv 1) pe_int (nomark _))
        (pss_one (ps_ret (pe_op op_add_str pe_str (pe_call (ok_l_word T) (hr.mono (by decide)) (by rfl) T.g_l_word T.F_l_word.kp T.b_l_word .nil pass0 (pa_cons (pe_op op_add pe_int (pe_call (ok_l_take T) (hr.mono (by decide)) (by rfl) T.g_l_take T.F_l_take.kp T.b_l_take .nil pass0 (pa_cons (pv 0) (pa_cons pe_int pa_nil)))) pa_nil)))))
        pss_nil)
      (pss_cons (ps_set (i := 2) sc_l_some_word.nd rfl (.inl rfl) (pe_op op_add (pe_op op_mul pe_int (pe_call (ok_l_take T) (hr.mono (by decide)) (by rfl) T.g_l_take T.F_l_take.kp T.b_l_take .nil pass0 (pa_cons (pv 0) (pa_cons pe_int pa_nil)))) (pe_op op_mul pe_int (pe_call (ok_l_take T) (hr.mono (by decide)) (by rfl) T.g_l_take T.F_l_take.kp T.b_l_take .nil pass0 (pa_cons (pv 0) (pa_cons pe_int pa_nil))))))
      (pss_cons (ps_if (pt_cmpR op_ge (pv 1) pe_int (nomark _))
        (pss_one (ps_set (i := 2) sc_l_some_word.nd rfl (.inl rfl) (pe_op op_mul (pv 2) (pe_op op_pow pe_int pe_int))))
        pss_nil)
      (pss_one (ps_ret (pe_call (ok_l_word T) (hr.mono (by decide)) (by rfl) T.g_l_word T.F_l_word.kp T.b_l_word .nil pass0 (pa_cons (pe_op op_add (pe_op op_add pe_int (pv 2)) (pe_call (ok_l_take T) (hr.mono (by decide)) (by rfl) T.g_l_take T.F_l_take.kp T.b_l_take .nil pass0 (pa_cons (pv 0) (pa_cons pe_int pa_nil)))) pa_nil)))))))))), ?_⟩
    refine ⟨.ref d, rfl, d, _, rfl, hd, by decide, fun H1 u r1 u0 u1 => ?_⟩
    refine ⟨_, rfl, _, _, rfl, rfl, _, rfl, ite2 (fun e => ?_) (fun e => ?_)⟩
    · exact ⟨_, rfl, _, _, rfl, rfl, (show (0 : Int) < 6 by decide), _, _, rfl, rfl, _, rfl, _, _, rfl, rfl, ⟨by decide, by decide⟩, _, _, rfl, rfl, (show (0 : Int) < 2 by decide), _, _, rfl, rfl, .inl ⟨by decide, by decide⟩, _, _, rfl, rfl, _, rfl, q _ _ r1 (wordS_isW (by omega))⟩
    refine ⟨_, rfl, _, _, rfl, rfl, _, rfl, ite2 (fun e => ?_) (fun e => ?_)⟩
    · exact ⟨.ref d, rfl, d, _, rfl, r1.at_, by decide, fun H2 v r2 v0 v1 => ⟨_, _, rfl, rfl, _, rfl, q _ _ (r1.trans r2) (wordS_isW (by omega))⟩⟩
    refine ⟨_, rfl, _, _, rfl, rfl, _, rfl, ite2 (fun e => ?_) (fun e => ?_)⟩
    · exact ⟨.ref d, rfl, d, _, rfl, r1.at_, by decide, fun H2 v r2 v0 v1 => ⟨_, _, rfl, rfl, _, rfl, _, _, rfl, rfl, small' (by have := ljkl_len; have := wordS_len (1 + v); omega), q _ _ (r1.trans r2) (isW_cat ljkl_ok ljkl_len (wordS_isW (by omega)) (by have := wordS_len (1 + v); omega))⟩⟩
    refine ⟨.ref d, rfl, d, _, rfl, r1.at_, by decide, fun H2 v r2 v0 v1 => ?_⟩
    refine ⟨_, _, rfl, rfl, .inl ⟨by decide, by decide⟩, .ref d, rfl, d, _, rfl, r2.at_, by decide, fun H3 x r3 x0 x1 => ?_⟩
    refine ⟨_, _, rfl, rfl, .inl ⟨by decide, by decide⟩, _, _, rfl, rfl, ?_⟩
    refine ⟨_, rfl, _, _, rfl, rfl, _, rfl, ite2 (fun e => ?_) (fun e => ?_)⟩
    · refine ⟨_, rfl, _, _, rfl, rfl, ⟨by decide, by decide, by decide⟩, _, _, rfl, rfl, .inl ⟨by omega, by omega⟩, ?_⟩
      refine ⟨_, rfl, _, _, rfl, rfl, .ref d, rfl, d, _, rfl, r3.at_, by decide, fun H4 y r4 y0 y1 => ⟨_, _, rfl, rfl, _, rfl, q _ _ (((r1.trans r2).trans r3).trans r4) (wordS_isW ?_)⟩⟩
      have z : 0 ≤ (1000000 * v + 1000 * x) * 10 ^ (15 : Int).toNat := Int.mul_nonneg (by omega) (by decide)
      omega
    · refine ⟨_, rfl, _, _, rfl, rfl, .ref d, rfl, d, _, rfl, r3.at_, by decide, fun H4 y r4 y0 y1 => ⟨_, _, rfl, rfl, _, rfl, q _ _ (((r1.trans r2).trans r3).trans r4) (wordS_isW (by omega))⟩⟩
end
def sp_l_plan (K : PySem.W.Frag) : Sp := fun vs H Q _ => ∃ (d : Addr) (c : Int), vs = [.ref d, .int c] ∧ DrA H d ∧
  ∀ H' p tm ts P, Dr d H H' → PlanAt H' p tm ts P → PlanOk c P → (∀ m ∈ P.ms, IsW m.name) → Q (.ref p) H'
section
variable {P : Program} {w : World} {K : PySem.W.Frag} {mg : Str → Option Value} {base : Heap}
theorem ok_l_plan (T : Ctx K mg) : FnOk P w K mg base CX0 3 T.f_l_plan T.fd_l_plan ["draws", "cell"] (sp_l_plan K) := by
  refine T.F_l_plan.ok sc_l_plan (fun vs H Q E h => ?_) (fun cdv A outer s H vs Q E hr h => ?_)
  · obtain ⟨d, c, rfl, _⟩ := h
    rfl
  · obtain ⟨d, c, rfl, hd, q⟩ := h
    refine ⟨_, (pss_cons (ps_set (i := 2) sc_l_plan.nd rfl (.inl rfl) (pe_op op_add pe_int (pe_call (ok_l_take T) (hr.mono (by decide)) (by rfl) T.g_l_take T.F_l_take.kp T.b_l_take .nil pass0 (pa_cons (pv 0) (pa_cons pe_int pa_nil)))))
      (pss_cons (ps_if (pt_cmpR op_eq (pe_call (ok_l_take T) (hr.mono (by decide)) (by rfl) T.g_l_take T.F_l_take.kp T.b_l_take .nil pass0 (pa_cons (pv 0) (pa_cons pe_int pa_nil))) pe_int (nomark _))
        (pss_one (ps_set (i := 2) sc_l_plan.nd rfl (.inl rfl) (pe_op op_add (pv 2) pe_int)))
        pss_nil)
      (pss_cons (ps_set (i := 3) sc_l_plan.nd rfl (.inl rfl) (pe_lst pa_nil))
      (pss_cons (ps_for PassesOwn.never rfl (pi_list (pe_callB (Tset.cr_sortedSetS rfl) (by rfl) T.m_sorted (by decide +kernel) (pa_cons (pe_callTy (Tset.cr_setOfS rfl) (by rfl) T.m_set (by decide +kernel) (pa_cons (pe_lc (own := [("k", 8)]) (g := gName 8) (by rfl) sc_l_plan.nd (pi_range1 (by rfl) T.m_range (pa_cons (pv 2) pa_nil)) (blkOk_by (own := [("k", 8)]) (N := ["draws", "cell", "many", "meters", "name", "low", "wide", "length", "k"]) (sc := defScope s_l_plan) (by decide +kernel)) (fun _ _ _ _ _ => pg_name (i := 8) sc_l_plan.nd rfl (Or.inl rfl)) (fun _ _ _ _ _ => pts_nil) (fun _ _ _ _ _ => (pe_call (ok_l_some_word T) (hr.mono (by decide)) (by rfl) T.g_l_some_word T.F_l_some_word.kp T.b_l_some_word .nil pass0 (pa_cons (pv 0) pa_nil)))) pa_nil)) pa_nil))) (pg_name (i := 4) sc_l_plan.nd rfl (.inl rfl))
        (pss_cons (ps_set (i := 5) sc_l_plan.nd rfl (.inl rfl) (pe_ix ix_list (pe_lst (pa_cons (pe_op op_sub (pe_call (ok_l_take T) (hr.mono (by decide)) (by rfl) T.g_l_take T.F_l_take.kp T.b_l_take .nil pass0 (pa_cons (pv 0) (pa_cons pe_int pa_nil))) pe_int) (pa_cons (pv 1) pa_nil))) (pe_op op_fdiv (pe_call (ok_l_take T) (hr.mono (by decide)) (by rfl) T.g_l_take T.F_l_take.kp T.b_l_take .nil pass0 (pa_cons (pv 0) (pa_cons pe_int pa_nil))) pe_int) (fun _ _ => rfl)))
      (pss_cons (ps_set (i := 6) sc_l_plan.nd rfl (.inl rfl) (pe_ix ix_list (pe_lst (pa_cons pe_int (pa_cons pe_int (pa_cons pe_int (pa_cons pe_int (pa_cons pe_int (pa_cons pe_int (pa_cons (pe_op op_pow pe_int pe_int) (pa_cons (pe_callB call_abs (by rfl) T.m_abs (by decide +kernel) (pa_cons (pv 1) pa_nil)) pa_nil))))))))) (pe_call (ok_l_take T) (hr.mono (by decide)) (by rfl) T.g_l_take T.F_l_take.kp T.b_l_take .nil pass0 (pa_cons (pv 0) (pa_cons pe_int pa_nil))) (fun _ _ => rfl)))
      (pss_one (ps_expr (pe_bm PySem.F.plainAttrs_list PySem.F.slot_list_append PySem.F.type_list_append mt_append (pv 3) (pa_cons (pe_tup (pa_cons (pv 4) (pa_cons (pv 5) (pa_cons (pe_op op_add (pv 5) (pv 6)) (pa_cons (pe_ix ix_list (pe_lst (pa_cons pe_int (pa_cons pe_int (pa_cons pe_int (pa_cons pe_int (pa_cons pe_int (pa_cons pe_int pa_nil))))))) (pe_call (ok_l_take T) (hr.mono (by decide)) (by rfl) T.g_l_take T.F_l_take.kp T.b_l_take .nil pass0 (pa_cons (pv 0) (pa_cons pe_int pa_nil))) (fun _ _ => rfl)) pa_nil))))) pa_nil)))))))
      (pss_cons (ps_set (i := 7) sc_l_plan.nd rfl (.inl rfl) (pe_ix ix_list (pe_lst (pa_cons pe_int (pa_cons pe_int (pa_cons pe_int (pa_cons pe_int (pa_cons pe_int (pa_cons (pe_op op_add pe_int (pe_callB call_abs (by rfl) T.m_abs (by decide +kernel) (pa_cons (pv 1) pa_nil))) pa_nil))))))) (pe_call (ok_l_take T) (hr.mono (by decide)) (by rfl) T.g_l_take T.F_l_take.kp T.b_l_take .nil pass0 (pa_cons (pv 0) (pa_cons pe_int pa_nil))) (fun _ _ => rfl)))
      (pss_one (ps_ret (pe_tup (pa_cons (pv 7) (pa_cons (pe_callTy call_tuple_of (by rfl) T.m_tuple (by decide +kernel) (pa_cons (pv 3) pa_nil)) pa_nil)))))))))), ?_⟩
    refine ⟨.ref d, rfl, d, _, rfl, hd, by decide, fun H1 u r1 u0 u1 => ⟨_, _, rfl, rfl, ?_⟩⟩
    refine ⟨.ref d, rfl, d, _, rfl, r1.at_, by decide, fun H2 v r2 v0 v1 => ⟨rfl, _, rfl, ite2 (fun e => ?c1) (fun e => ?c2)⟩⟩
    case' c1 =>
      refine ⟨_, rfl, _, _, rfl, rfl, ?_⟩
      dsimp only
      obtain ⟨mn, emn, m0, m1⟩ : ∃ mn : Int, mn = 1 + u + 3 ∧ 1 ≤ mn ∧ mn ≤ 6 := ⟨_, rfl, by omega, by omega⟩
      rw [← emn]
    case' c2 =>
      dsimp only
      obtain ⟨mn, emn, m0, m1⟩ : ∃ mn : Int, mn = 1 + u ∧ 1 ≤ mn ∧ mn ≤ 6 := ⟨_, rfl, by omega, by omega⟩
      rw [← emn]
    all_goals (
      refine ⟨Nat.zero_le _, fun M nM => ?_⟩
      have r12 := r1.trans r2
      have rM : Dr d H (upd H2 M (.lst [])) := r12.then (same_new nM)
      have nMd : M ≠ d := r12.ne nM
      refine ⟨.int mn, rfl, mn, rfl, by omega, by omega, fun C nC => ?_⟩
      have nCd : C ≠ d := rM.ne nC
      have nCM : C ≠ M := fun z => by rw [z, upd_same] at nC; cases nC
      refine lc_range (lo := 0) (n := mn.toNat) (fun i H3 => Dr d H H3 ∧ H3 M = some (.lst []) ∧ ∃ ws : List Str, H3 C = some (.lst (ws.map V.str)) ∧ ws.length = i ∧ ∀ w ∈ ws, IsW w) ⟨rM.then (same_new nC), by rw [upd_ne nCM.symm, upd_same], [], upd_same, rfl, fun _ z => nomatch z⟩ (fun i H3 hi hp => ?_) (fun H3 hp => ?_)
      · obtain ⟨r3, hM3, ws, hC3, hwl, hws⟩ := hp
        refine ⟨rfl, .ref d, rfl, d, rfl, r3.at_, fun H4 wd r4 hw => ⟨_, r4.keep _ _ nCd hC3, ?_, r3.trans r4 |>.keepNew nCd ?_, ?_, ws ++ [wd], ?_, ?_, ?_⟩⟩
        · rw [List.length_map]
          exact small (by omega)
        · exact rM.free hd nC
        · rw [upd_ne nCM.symm]
          exact r4.keep _ _ nMd hM3
        · rw [upd_same, List.map_append]
          rfl
        · rw [List.length_append, hwl]
          rfl
        · intro w hm
          rcases List.mem_append.mp hm with z | z
          · exact hws w z
          · rw [List.mem_singleton.mp z]
            exact hw
      · obtain ⟨r3, hM3, ws, hC3, hwl, hws⟩ := hp
        refine ⟨C, ws, rfl, .inl (.inl hC3), by omega, fun S ls nS hm hll => ⟨S, ls, rfl, upd_same, by omega, fun ys L pm nd so nL => ?_⟩⟩
        have nSd : S ≠ d := r3.ne nS
        have rS := r3.then (same_new (o := Tset.SetS P w S ls) nS)
        have nLd : L ≠ d := rS.ne nL
        have nMS : M ≠ S := ne_of_none hM3 nS
        have hMS : upd H3 S (Tset.SetS P w S ls) M = some (.lst []) := by rw [upd_ne nMS]; exact hM3
        have nML : M ≠ L := ne_of_none hMS nL
        have ysW : ∀ y ∈ ys, IsW y := fun y hy => hws y ((hm y).mp (pm.mem_iff.mp hy))
        have ysl : ys.length ≤ 6 := by rw [pm.length_eq]; omega
        have ysne : ys ≠ [] := fun z => by
          rw [z] at pm
          have e0 : ls = [] := List.length_eq_zero_iff.mp (by have := pm.length_eq; simpa using this.symm)
          have : 0 < ws.length := by omega
          cases ws with
          | nil => exact absurd this (by decide)
          | cons x r =>
            have := (hm x).mpr List.mem_cons_self
            rw [e0] at this
            cases this
        refine ⟨L, rfl, ⟨_, .inl (.inl upd_same)⟩, for_list (K := K) (a := L) (xs := ys.map V.str) (fun i σ H4 => ∃ (y4 y5 y6 y7 : Option V) (ts : List Addr) (ms : List Mt), σ = [some (.ref d), some (.int c), some (.int mn), some (.ref M), y4, y5, y6, y7, none] ∧
          Dr d H H4 ∧ H4 L = some (.lst (ys.map V.str)) ∧ H4 M = some (.lst (ts.map V.ref)) ∧ Paired (MtAt H4) ts ms ∧ ms.map Mt.name = ys.take i ∧ (∀ m ∈ ms, MtOk c m)) ?_ (fun i σ H4 _ hp => ?_) (fun i x σ H4 hx hp => ?_) (fun σ H4 hp => ?_)⟩
        · exact ⟨none, none, none, none, [], [], rfl, rS.then (same_new nL), upd_same, by rw [upd_ne nML]; exact hMS, .nil, rfl, fun _ z => nomatch z⟩
        · obtain ⟨_, _, _, _, _, _, _, _, hL, _⟩ := hp
          exact .inl (.inl hL)
        · obtain ⟨y4, y5, y6, y7, ts, ms, rfl, r4, hL4, hM4, hP4, hn4, ho4⟩ := hp
          obtain ⟨hlt, hx'⟩ := List.getElem?_eq_some_iff.mp hx
          rw [List.length_map] at hlt
          have ex : x = .str ys[i] := by rw [← hx', List.getElem_map]
          subst ex
          have hml : ms.length = i := by
            have := congrArg List.length hn4
            rw [List.length_map, List.length_take] at this
            omega
          have htl : ts.length = i := by rw [← hml]; exact hP4.length
          -- low
          refine ⟨.ref d, rfl, d, _, rfl, r4.at_, by decide, fun H5 x5 r5 x50 x51 => ⟨_, _, rfl, rfl, .int c, rfl, small' (n := 2) (by decide), fun p5 n5 => ?_⟩⟩
          have r45 := r4.trans r5
          have q5 := r45.then (same_new (o := .lst [.int (x5 - 3), .int c]) n5)
          have n5d : p5 ≠ d := r45.ne n5
          refine ⟨.ref d, rfl, d, _, rfl, q5.at_, by decide, fun H6 x6 r6 x60 x61 => ?_⟩
          have h6 : H6 p5 = some (.lst [.int (x5 - 3), .int c]) := r6.keep _ _ n5d upd_same
          obtain ⟨lv, lvm, lva⟩ := pick (xs := [x5 - 3, c]) (vs := [.int (x5 - 3), .int c]) (k := x6 / 8) rfl (by omega) (by show x6 / 8 < 2; omega)
          have lvB : lv.natAbs ≤ c.natAbs + 3 := by
            rcases List.mem_cons.mp lvm with z | z
            · omega
            · rw [List.mem_singleton.mp z]; omega
          refine ⟨_, _, rfl, rfl, ⟨by decide, by decide⟩, p5, _, _, _, rfl, rfl, .inl (.inl h6), lva, ?_⟩
          -- wide
          refine ⟨_, _, rfl, rfl, ⟨by decide, by decide, by decide⟩, .int c, rfl, c, rfl, small' (n := 8) (by decide), fun p7 n7 => ?_⟩
          rw [abs_eq]
          have q6 := q5.trans r6
          have q7 := q6.then (same_new (o := .lst [.int 0, .int 1, .int 1, .int 2, .int 5, .int 40, .int (10 ^ (20 : Int).toNat), .int (c.natAbs : Int)]) n7)
          have n7d : p7 ≠ d := q6.ne n7
          refine ⟨.ref d, rfl, d, _, rfl, q7.at_, by decide, fun H8 x8 r8 x80 x81 => ?_⟩
          have h8 : H8 p7 = some (.lst [.int 0, .int 1, .int 1, .int 2, .int 5, .int 40, .int (10 ^ (20 : Int).toNat), .int (c.natAbs : Int)]) := r8.keep _ _ n7d upd_same
          obtain ⟨wv, wvm, wva⟩ := pick (xs := [0, 1, 1, 2, 5, 40, 10 ^ (20 : Int).toNat, (c.natAbs : Int)]) (vs := [.int 0, .int 1, .int 1, .int 2, .int 5, .int 40, .int (10 ^ (20 : Int).toNat), .int (c.natAbs : Int)]) (k := x8) rfl (by omega) (by show x8 < 8; omega)
          have wvB : 0 ≤ wv ∧ wv ≤ c.natAbs + 10 ^ 20 := by
            have et : (10 : Int) ^ (20 : Int).toNat = 10 ^ 20 := rfl
            rw [et] at wvm
            simp only [List.mem_cons, List.not_mem_nil, or_false] at wvm
            omega
          refine ⟨p7, _, _, _, rfl, rfl, .inl (.inl h8), wva, ?_⟩
          -- the meter
          have q8 := q7.trans r8
          have hM8 : H8 M = some (.lst (ts.map V.ref)) := by
            have a5 : H5 M = some (.lst (ts.map V.ref)) := r5.keep _ _ nMd hM4
            have a6 := r6.keep _ _ nMd (show upd H5 p5 _ M = some (.lst (ts.map V.ref)) by rw [upd_ne (ne_of_none a5 n5)]; exact a5)
            exact r8.keep _ _ nMd (by rw [upd_ne (ne_of_none a6 n7)]; exact a6)
          have hL8 : H8 L = some (.lst (ys.map V.str)) := by
            have a5 : H5 L = some (.lst (ys.map V.str)) := r5.keep _ _ nLd hL4
            have a6 := r6.keep _ _ nLd (show upd H5 p5 _ L = some (.lst (ys.map V.str)) by rw [upd_ne (ne_of_none a5 n5)]; exact a5)
            exact r8.keep _ _ nLd (by rw [upd_ne (ne_of_none a6 n7)]; exact a6)
          have hP8 : Paired (MtAt H8) ts ms :=
            r8.mts q7.at_ (same_mts (same_new n7) (r6.mts q5.at_ (same_mts (same_new n5) (r5.mts r4.at_ hP4))))
          refine ⟨.ref M, rfl, .inl ⟨rfl, _, .inl (.inl hM8)⟩, .str ys[i], rfl, .int lv, rfl, .int lv, rfl, .int wv, rfl, _, _, rfl, rfl, small' (n := 6) (by decide), fun p9 n9 => ?_⟩
          have n9d : p9 ≠ d := q8.ne n9
          have q9 := q8.then (same_new (o := .lst [.int 0, .int 0, .int 1, .int 2, .int 7, .int 60]) n9)
          refine ⟨.ref d, rfl, d, _, rfl, q9.at_, by decide, fun HA xA rA xA0 xA1 => ?_⟩
          have hA : HA p9 = some (.lst [.int 0, .int 0, .int 1, .int 2, .int 7, .int 60]) := rA.keep _ _ n9d upd_same
          obtain ⟨ev, evm, eva⟩ := pick (xs := [0, 0, 1, 2, 7, 60]) (vs := [.int 0, .int 0, .int 1, .int 2, .int 7, .int 60]) (k := xA) rfl (by omega) (by show xA < 6; omega)
          have evB : 0 ≤ ev ∧ ev ≤ 60 := by
            simp only [List.mem_cons, List.not_mem_nil, or_false] at evm
            omega
          refine ⟨p9, _, _, _, rfl, rfl, .inl (.inl hA), eva, small' (n := 4) (by decide), fun t nt => ?_⟩
          have qA := q9.trans rA
          have hMA : HA M = some (.lst (ts.map V.ref)) := rA.keep _ _ nMd (by rw [upd_ne (ne_of_none hM8 n9)]; exact hM8)
          have hLA : HA L = some (.lst (ys.map V.str)) := rA.keep _ _ nLd (by rw [upd_ne (ne_of_none hL8 n9)]; exact hL8)
          have hPA : Paired (MtAt HA) ts ms := rA.mts q9.at_ (same_mts (same_new n9) hP8)
          have qT := qA.then (same_new (o := .tup [.str ys[i], .int lv, .int (lv + wv), .int ev]) nt)
          have nMt : M ≠ t := ne_of_none hMA nt
          have nLt : L ≠ t := ne_of_none hLA nt
          have nMfree : H M = none := r12.free hd nM
          refine ⟨M, _, _, rfl, rfl, by rw [upd_ne nMt]; exact hMA, by rw [List.length_map, htl]; exact small (by omega), ?_⟩
          have kp : Same HA (upd HA t (.tup [.str ys[i], .int lv, .int (lv + wv), .int ev])) := same_new nt
          refine ⟨_, _, _, _, ts ++ [t], ms ++ [⟨ys[i], lv, lv + wv, ev⟩], rfl, qT.keepNew nMd nMfree, ?_, ?_, ?_, ?_, ?_⟩
          · rw [upd_ne (show L ≠ M from nML.symm), upd_ne nLt]
            exact hLA
          · rw [upd_same, map_snoc]
          · have tupM : ∀ b xs, (upd HA t (.tup [.str ys[i], .int lv, .int (lv + wv), .int ev])) b = some (.tup xs) → upd (upd HA t (.tup [.str ys[i], .int lv, .int (lv + wv), .int ev])) M (.lst (ts.map V.ref ++ [V.ref t])) b = some (.tup xs) := fun b xs z => by
              have nb : b ≠ M := fun zz => by
                rw [zz, upd_ne nMt, hMA] at z
                cases z
              rw [upd_ne nb]
              exact z
            have lift : ∀ {us : List Addr} {ls : List Mt}, Paired (MtAt HA) us ls → Paired (MtAt (upd (upd HA t (.tup [.str ys[i], .int lv, .int (lv + wv), .int ev])) M (.lst (ts.map V.ref ++ [V.ref t])))) us ls := fun {us ls} z => L2.Paired.mapP z fun a b y => tupM _ _ (kp _ _ y)
            exact (lift hPA).snoc (tupM t _ upd_same)
          · rw [List.map_append, hn4, List.take_add_one, List.getElem?_eq_getElem hlt]
            rfl
          · intro m hm
            rcases List.mem_append.mp hm with z | z
            · exact ho4 m z
            · rw [List.mem_singleton.mp z]
              exact ⟨by show lv ≤ lv + wv; omega, evB.1, evB.2, lvB, by show (lv + wv).natAbs ≤ _; omega⟩
        · obtain ⟨y4, y5, y6, y7, ts, ms, rfl, r4, hL4, hM4, hP4, hn4, ho4⟩ := hp
          rw [List.length_map, List.take_length] at hn4
          refine ⟨.int c, rfl, c, rfl, _, _, rfl, rfl, small' (n := 6) (by decide), fun p5 n5 => ?_⟩
          rw [abs_eq]
          have n5d : p5 ≠ d := r4.ne n5
          have q5 := r4.then (same_new (o := .lst [.int 1, .int 2, .int 5, .int 10, .int 60, .int (1 + (c.natAbs : Int))]) n5)
          refine ⟨.ref d, rfl, d, _, rfl, q5.at_, by decide, fun H6 x6 r6 x60 x61 => ?_⟩
          have h6 : H6 p5 = some (.lst [.int 1, .int 2, .int 5, .int 10, .int 60, .int (1 + (c.natAbs : Int))]) := r6.keep _ _ n5d upd_same
          obtain ⟨lv, lvm, lva⟩ := pick (xs := [1, 2, 5, 10, 60, 1 + (c.natAbs : Int)]) (vs := [.int 1, .int 2, .int 5, .int 10, .int 60, .int (1 + (c.natAbs : Int))]) (k := x6) rfl (by omega) (by show x6 < 6; omega)
          have lvB : 1 ≤ lv ∧ lv ≤ c.natAbs + 60 := by
            simp only [List.mem_cons, List.not_mem_nil, or_false] at lvm
            omega
          refine ⟨p5, _, _, _, rfl, rfl, .inl (.inl h6), lva, ?_⟩
          have q6 := q5.trans r6
          have hM6 : H6 M = some (.lst (ts.map V.ref)) := r6.keep _ _ nMd (by rw [upd_ne (ne_of_none hM4 n5)]; exact hM4)
          have hP6 : Paired (MtAt H6) ts ms := r6.mts q5.at_ (same_mts (same_new n5) hP4)
          refine ⟨.int lv, rfl, .ref M, rfl, M, _, rfl, .inl ⟨.inl (.inl hM6), fun tm ntm => ⟨small' (n := 2) (by decide), fun p np => ?_⟩⟩⟩
          have s1 := same_new (o := .tup (ts.map V.ref)) ntm
          have s2 := same_new (o := .tup [.int lv, .ref tm]) np
          have nn : tm ≠ p := fun z => by
            rw [← z, upd_same] at np
            cases np
          refine q _ p tm ts ⟨lv, ms⟩ ((q6.then s1).then s2) ⟨upd_same, by rw [upd_ne nn, upd_same], same_mts s2 (same_mts s1 hP6)⟩ ⟨lvB.1, lvB.2, fun z => ysne ?_, ?_, ?_, ho4⟩ fun m hm => ysW _ ?_
          · have z' : ms = [] := z
            rw [z'] at hn4
            exact hn4.symm
          · have := congrArg List.length hn4
            rw [List.length_map] at this
            show ms.length ≤ 6
            omega
          · show Risen (ms.map Mt.name)
            rw [hn4]
            exact ⟨so, nd⟩
          · rw [← hn4]
            exact List.mem_map_of_mem hm)
end
def sp_l_number (K : PySem.W.Frag) : Sp := fun vs H Q _ => ∃ (d : Addr) (c : Int), vs = [.ref d, .int c] ∧ DrA H d ∧ c.natAbs + 2 ≤ 10 ^ 60 ∧ ∀ H' x, Dr d H H' → x.natAbs + 2 ≤ 10 ^ 60 → Q (.int x) H'
section
variable {P : Program} {w : World} {K : PySem.W.Frag} {mg : Str → Option Value} {base : Heap}
theorem ok_l_number (T : Ctx K mg) : FnOk P w K mg base CX0 2 T.f_l_number T.fd_l_number ["draws", "cell"] (sp_l_number K) := by
  refine T.F_l_number.ok sc_l_number (fun vs H Q E h => ?_) (fun cdv A outer s H vs Q E hr h => ?_)
  · obtain ⟨d, c, rfl, _⟩ := h
    rfl
  · obtain ⟨d, c, rfl, hd, hc, q⟩ := h
    refine ⟨_, (pss_one (ps_ret (pe_ix ix_list (pe_lst (pa_cons pe_int (pa_cons pe_int (pa_cons (pe_call (ok_l_take T) (hr.mono (by decide)) (by rfl) T.g_l_take T.F_l_take.kp T.b_l_take .nil pass0 (pa_cons (pv 0) (pa_cons pe_int pa_nil))) (pa_cons (pe_op op_sub (pe_un un_neg pe_int) (pe_call (ok_l_take T) (hr.mono (by decide)) (by rfl) T.g_l_take T.F_l_take.kp T.b_l_take .nil pass0 (pa_cons (pv 0) (pa_cons pe_int pa_nil)))) (pa_cons (pv 1) (pa_cons (pe_un un_neg (pv 1)) pa_nil))))))) (pe_call (ok_l_take T) (hr.mono (by decide)) (by rfl) T.g_l_take T.F_l_take.kp T.b_l_take .nil pass0 (pa_cons (pv 0) (pa_cons pe_int pa_nil))) (fun _ _ => rfl)))), ?_⟩
    refine ⟨.ref d, rfl, d, _, rfl, hd, by decide, fun H1 u r1 u0 u1 => ⟨_, rfl, .ref d, rfl, d, _, rfl, r1.at_, by decide, fun H2 v r2 v0 v1 => ?_⟩⟩
    have r12 := r1.trans r2
    refine ⟨_, _, rfl, rfl, .int c, rfl, .int c, rfl, _, rfl, small' (n := 6) (by decide), fun p np => ?_⟩
    have npd : p ≠ d := r12.ne np
    have q3 := r12.then (same_new (o := .lst [.int 0, .int 1, .int u, .int (-1 - v), .int c, .int (-c)]) np)
    refine ⟨.ref d, rfl, d, _, rfl, q3.at_, by decide, fun H4 x r4 x0 x1 => ?_⟩
    have h4 : H4 p = some (.lst [.int 0, .int 1, .int u, .int (-1 - v), .int c, .int (-c)]) := r4.keep _ _ npd upd_same
    obtain ⟨lv, lvm, lva⟩ := pick (xs := [0, 1, u, -1 - v, c, -c]) (vs := [.int 0, .int 1, .int u, .int (-1 - v), .int c, .int (-c)]) (k := x) rfl (by omega) (by show x < 6; omega)
    have lvB : lv.natAbs + 2 ≤ 10 ^ 60 := by
      simp only [List.mem_cons, List.not_mem_nil, or_false] at lvm
      omega
    exact ⟨p, _, _, _, rfl, rfl, .inl (.inl h4), lva, q _ _ (q3.trans r4) lvB⟩
end
def sp_l_letter (K : PySem.W.Frag) : Sp := fun vs H Q _ => ∃ (d : Addr) (n : Str) (c : Int), vs = [.ref d, .str n, .int c] ∧ DrA H d ∧ IsW n ∧ c.natAbs + 2 ≤ 10 ^ 60 ∧ ∀ H' t l, Dr d H H' → LtAt H' t l → l.Ok → l.name = n → Q (.ref t) H'
theorem abs_nr {x : Int} (h : x.natAbs + 2 ≤ 10 ^ 60) : Nr (x.natAbs : Int) := by
  show (x.natAbs : Int).natAbs < 10 ^ 60
  omega
section
variable {P : Program} {w : World} {K : PySem.W.Frag} {mg : Str → Option Value} {base : Heap}
theorem ok_l_letter (T : Ctx K mg) : FnOk P w K mg base CX0 3 T.f_l_letter T.fd_l_letter ["draws", "name", "cell"] (sp_l_letter K) := by
  refine T.F_l_letter.ok sc_l_letter (fun vs H Q E h => ?_) (fun cdv A outer s H vs Q E hr h => ?_)
  · obtain ⟨d, n, c, rfl, _⟩ := h
    rfl
  · obtain ⟨d, n, c, rfl, hd, hn, hc, q⟩ := h
    refine ⟨_, (pss_cons (ps_set (i := 3) sc_l_letter.nd rfl (.inl rfl) (pe_call (ok_l_take T) (hr.mono (by decide)) (by rfl) T.g_l_take T.F_l_take.kp T.b_l_take .nil pass0 (pa_cons (pv 0) (pa_cons pe_int pa_nil))))
      (pss_cons (ps_set (i := 4) sc_l_letter.nd rfl (.inl rfl) (pe_callB call_abs (by rfl) T.m_abs (by decide +kernel) (pa_cons (pe_call (ok_l_number T) (hr.mono (by decide)) (by rfl) T.g_l_number T.F_l_number.kp T.b_l_number .nil pass0 (pa_cons (pv 0) (pa_cons (pv 2) pa_nil))) pa_nil)))
      (pss_cons (ps_set (i := 5) sc_l_letter.nd rfl (.inl rfl) (pe_callB call_abs (by rfl) T.m_abs (by decide +kernel) (pa_cons (pe_call (ok_l_number T) (hr.mono (by decide)) (by rfl) T.g_l_number T.F_l_number.kp T.b_l_number .nil pass0 (pa_cons (pv 0) (pa_cons (pv 2) pa_nil))) pa_nil)))
      (pss_cons (ps_set (i := 6) sc_l_letter.nd rfl (.inl rfl) (pe_call (ok_l_number T) (hr.mono (by decide)) (by rfl) T.g_l_number T.F_l_number.kp T.b_l_number .nil pass0 (pa_cons (pv 0) (pa_cons (pv 2) pa_nil))))
      (pss_cons (ps_if (pt_cmpR op_eq (pv 3) pe_int (nomark _))
        (pss_one (ps_ret (pe_tup (pa_cons pe_str (pa_cons (pv 1) (pa_cons (pe_op op_add pe_int (pv 4)) (pa_cons (pv 5) (pa_cons (pv 6) (pa_cons (pe_ix ix_list (pe_lst (pa_cons pe_non (pa_cons (pe_call (ok_l_number T) (hr.mono (by decide)) (by rfl) T.g_l_number T.F_l_number.kp T.b_l_number .nil pass0 (pa_cons (pv 0) (pa_cons (pv 2) pa_nil))) pa_nil))) (pe_call (ok_l_take T) (hr.mono (by decide)) (by rfl) T.g_l_take T.F_l_take.kp T.b_l_take .nil pass0 (pa_cons (pv 0) (pa_cons pe_int pa_nil))) (fun _ _ => rfl)) pa_nil)))))))))
        pss_nil)
      (pss_cons (ps_if (pt_cmpR op_eq (pv 3) pe_int (nomark _))
        (pss_one (ps_ret (pe_tup (pa_cons pe_str (pa_cons (pv 1) (pa_cons (pv 4) (pa_cons (pv 6) (pa_cons (pv 5) pa_nil))))))))
        pss_nil)
      (pss_one (ps_ret (pe_tup (pa_cons pe_str (pa_cons (pv 1) (pa_cons (pv 6) (pa_cons (pe_call (ok_l_number T) (hr.mono (by decide)) (by rfl) T.g_l_number T.F_l_number.kp T.b_l_number .nil pass0 (pa_cons (pv 0) (pa_cons (pv 2) pa_nil))) pa_nil))))))))))))), ?_⟩
    refine ⟨.ref d, rfl, d, _, rfl, hd, by decide, fun H1 kind r1 k0 k1 => ?_⟩
    refine ⟨.ref d, rfl, .int c, rfl, d, c, rfl, r1.at_, hc, fun H2 a r2 ha => ⟨a, rfl, ?_⟩⟩
    rw [abs_eq]
    refine ⟨.ref d, rfl, .int c, rfl, d, c, rfl, r2.at_, hc, fun H3 b r3 hb => ⟨b, rfl, ?_⟩⟩
    rw [abs_eq]
    refine ⟨.ref d, rfl, .int c, rfl, d, c, rfl, r3.at_, hc, fun H4 s r4 hs => ?_⟩
    have r14 := ((r1.trans r2).trans r3).trans r4
    have na := abs_nr ha
    have nb := abs_nr hb
    have ns : Nr s := by show s.natAbs < 10 ^ 60; omega
    have na1 : Nr (1 + (a.natAbs : Int)) := by show (1 + (a.natAbs : Int)).natAbs < 10 ^ 60; omega
    refine ⟨.int kind, rfl, rfl, _, rfl, ite2 (fun e => ?_) (fun e => ?_)⟩
    · refine ⟨.str n, rfl, _, rfl, _, _, rfl, rfl, _, rfl, _, rfl, .ref d, rfl, .int c, rfl, d, c, rfl, r14.at_, hc, fun H5 v r5 hv => ⟨small' (n := 2) (by decide), fun p np => ?_⟩⟩
      have npd : p ≠ d := r5.ne np
      have q5 := (r14.trans r5).then (same_new (o := .lst [.non, .int v]) np)
      refine ⟨.ref d, rfl, d, _, rfl, q5.at_, by decide, fun H6 x r6 x0 x1 => ?_⟩
      have h6 : H6 p = some (.lst [.non, .int v]) := r6.keep _ _ npd upd_same
      obtain ⟨o, ho, hat⟩ : ∃ o : Option Int, (∀ i, o = some i → Nr i) ∧ atI [V.non, .int v] x = some (optV o) := by
        have : x = 0 ∨ x = 1 := by omega
        rcases this with rfl | rfl
        · exact ⟨none, (fun _ z => nomatch z), atI_nat (j := 0) rfl⟩
        · refine ⟨some v, fun i z => ?_, atI_nat (j := 1) rfl⟩
          cases z
          show v.natAbs < 10 ^ 60
          omega
      refine ⟨p, _, _, _, rfl, rfl, .inl (.inl h6), hat, small' (n := 6) (by decide), fun t nt => ?_⟩
      exact q _ t (.read n (1 + (a.natAbs : Int)) (b.natAbs : Int) s o) ((q5.trans r6).then (same_new nt)) upd_same ⟨hn, by omega, by omega, na1, nb, ns, ho⟩ rfl
    refine ⟨.int kind, rfl, rfl, _, rfl, ite2 (fun e => ?_) (fun e => ?_)⟩
    · refine ⟨.str n, rfl, _, rfl, _, rfl, _, rfl, small' (n := 5) (by decide), fun t nt => ?_⟩
      exact q _ t (.close n (a.natAbs : Int) s (b.natAbs : Int)) (r14.then (same_new nt)) upd_same ⟨hn, by omega, by omega, na, ns, nb⟩ rfl
    · refine ⟨.str n, rfl, _, rfl, .ref d, rfl, .int c, rfl, d, c, rfl, r14.at_, hc, fun H5 v r5 hv => ⟨small' (n := 4) (by decide), fun t nt => ?_⟩⟩
      exact q _ t (.clock n s v) ((r14.trans r5).then (same_new nt)) upd_same ⟨hn, ns, by show v.natAbs < 10 ^ 60; omega⟩ rfl
end
def sp_l_line (K : PySem.W.Frag) : Sp := fun vs H Q _ => ∃ (t : Addr) (l : Lt), vs = [.ref t] ∧ LtAt H t l ∧ l.Ok ∧ Q (.str l.line) H
section
variable {P : Program} {w : World} {K : PySem.W.Frag} {mg : Str → Option Value} {base : Heap}
theorem ok_l_line (T : Ctx K mg) : FnOk P w K mg base CX0 1 T.f_l_line T.fd_l_line ["letter"] (sp_l_line K) := by
  refine T.F_l_line.ok sc_l_line (fun vs H Q E h => ?_) (fun cdv A outer s H vs Q E hr h => ?_)
  · obtain ⟨t, l, rfl, _⟩ := h
    rfl
  · obtain ⟨t, l, rfl, hl, ok, q⟩ := h
    refine ⟨_, (pss_cons (ps_if (pt_cmpR op_eq (pe_ix ix_tup (pv 0) pe_int (fun _ _ => rfl)) pe_str (nomark _))
        (pss_one (ps_ret (pe_joined (.cons pe_str (.cons (pe_fmt (pe_ix ix_tup (pv 0) pe_int (fun _ _ => rfl))) (.cons pe_str (.cons (pe_fmt (pe_ix ix_tup (pv 0) pe_int (fun _ _ => rfl))) (.cons pe_str (.cons (pe_fmt (pe_ix ix_tup (pv 0) pe_int (fun _ _ => rfl))) (.cons pe_str (.cons (pe_fmt (pe_ix ix_tup (pv 0) pe_int (fun _ _ => rfl))) .nil)))))))))))
        pss_nil)
      (pss_cons (ps_if (pt_cmpR op_eq (pe_ix ix_tup (pv 0) pe_int (fun _ _ => rfl)) pe_str (nomark _))
        (pss_one (ps_ret (pe_joined (.cons pe_str (.cons (pe_fmt (pe_ix ix_tup (pv 0) pe_int (fun _ _ => rfl))) (.cons pe_str (.cons (pe_fmt (pe_ix ix_tup (pv 0) pe_int (fun _ _ => rfl))) (.cons pe_str (.cons (pe_fmt (pe_ix ix_tup (pv 0) pe_int (fun _ _ => rfl))) .nil)))))))))
        pss_nil)
      (pss_cons (ps_set (i := 1) sc_l_line.nd rfl (.inl rfl) pe_str)
      (pss_cons (ps_if (pt_cmpR op_notN (pe_ix ix_tup (pv 0) pe_int (fun _ _ => rfl)) pe_non (nomark _))
        (pss_one (ps_set (i := 1) sc_l_line.nd rfl (.inl rfl) (pe_callTy call_str_int (by rfl) T.m_str (by decide +kernel) (pa_cons (pe_ix ix_tup (pv 0) pe_int (fun _ _ => rfl)) pa_nil))))
        pss_nil)
      (pss_one (ps_ret (pe_joined (.cons pe_str (.cons (pe_fmt (pe_ix ix_tup (pv 0) pe_int (fun _ _ => rfl))) (.cons pe_str (.cons (pe_fmt (pe_ix ix_tup (pv 0) pe_int (fun _ _ => rfl))) (.cons pe_str (.cons (pe_fmt (pe_ix ix_tup (pv 0) pe_int (fun _ _ => rfl))) (.cons pe_str (.cons (pe_fmt (pe_ix ix_tup (pv 0) pe_int (fun _ _ => rfl))) (.cons pe_str (.cons (pe_fmt (pv 1)) .nil))))))))))))))))), ?_⟩
    have c0 : Str.empty.length = 0 := rfl
    have w := ok.word.2.2
    cases l with
    | close n f a v =>
      obtain ⟨hn, _, _, a1, a2, a3⟩ := ok
      have b1 : (Str.ofString (toString f)).length ≤ 61 := a1.len
      have b2 : (Str.ofString (toString a)).length ≤ 61 := a2.len
      have b3 : (Str.ofString (toString v)).length ≤ 61 := a3.len
      have w' : n.length ≤ 200 := w
      have d0 : ((("close " : Str))).length ≤ 10 := by decide +kernel
      have d1 : (((" after " : Str))).length ≤ 10 := by decide +kernel
      have d2 : (((" at " : Str))).length ≤ 10 := by decide +kernel
      have d3 : (((" with " : Str))).length ≤ 10 := by decide +kernel
      have hS : SqT K H t [.str "close", .str n, .int f, .int a, .int v] := .inl (.inl hl)
      refine ⟨.ref t, rfl, t, _, 0, _, rfl, rfl, hS, atI_nat (j := 0) rfl, rfl, _, rfl, ite2 (fun e => ?_) (fun e => absurd (decide_eq_true rfl) e)⟩
      refine ⟨_, rfl, small' (by simp only [len_app]; omega), .ref t, rfl, t, _, 1, _, rfl, rfl, hS, atI_nat (j := 1) rfl, .inl ⟨_, rfl, small' (by omega), _, rfl, small' (by simp only [len_app]; omega), _, rfl, small' (by simp only [len_app]; omega), .ref t, rfl, t, _, 2, _, rfl, rfl, hS, atI_nat (j := 2) rfl, .inr ⟨_, rfl, a1.log, _, rfl, small' (by simp only [len_app]; omega), _, rfl, small' (by simp only [len_app]; omega), .ref t, rfl, t, _, 3, _, rfl, rfl, hS, atI_nat (j := 3) rfl, .inr ⟨_, rfl, a2.log, _, rfl, small' (by simp only [len_app]; omega), _, rfl, small' (by simp only [len_app]; omega), .ref t, rfl, t, _, 4, _, rfl, rfl, hS, atI_nat (j := 4) rfl, .inr ⟨_, rfl, a3.log, _, rfl, small' (by simp only [len_app]; omega), ?_⟩⟩⟩⟩⟩
      rw [line_close] at q
      rw [empty_app]
      exact q
    | clock n lo hi =>
      obtain ⟨hn, a1, a2⟩ := ok
      have b1 : (Str.ofString (toString lo)).length ≤ 61 := a1.len
      have b2 : (Str.ofString (toString hi)).length ≤ 61 := a2.len
      have w' : n.length ≤ 200 := w
      have d0 : ((("clock " : Str))).length ≤ 10 := by decide +kernel
      have d1 : (((" from " : Str))).length ≤ 10 := by decide +kernel
      have d2 : (((" to " : Str))).length ≤ 10 := by decide +kernel
      have hS : SqT K H t [.str "clock", .str n, .int lo, .int hi] := .inl (.inl hl)
      refine ⟨.ref t, rfl, t, _, 0, _, rfl, rfl, hS, atI_nat (j := 0) rfl, rfl, _, rfl, ite2 (fun e => absurd e (by decide +kernel)) (fun e => ?_)⟩
      refine ⟨.ref t, rfl, t, _, 0, _, rfl, rfl, hS, atI_nat (j := 0) rfl, rfl, _, rfl, ite2 (fun e => ?_) (fun e => absurd (decide_eq_true rfl) e)⟩
      refine ⟨_, rfl, small' (by simp only [len_app]; omega), .ref t, rfl, t, _, 1, _, rfl, rfl, hS, atI_nat (j := 1) rfl, .inl ⟨_, rfl, small' (by omega), _, rfl, small' (by simp only [len_app]; omega), _, rfl, small' (by simp only [len_app]; omega), .ref t, rfl, t, _, 2, _, rfl, rfl, hS, atI_nat (j := 2) rfl, .inr ⟨_, rfl, a1.log, _, rfl, small' (by simp only [len_app]; omega), _, rfl, small' (by simp only [len_app]; omega), .ref t, rfl, t, _, 3, _, rfl, rfl, hS, atI_nat (j := 3) rfl, .inr ⟨_, rfl, a2.log, _, rfl, small' (by simp only [len_app]; omega), ?_⟩⟩⟩⟩
      rw [line_clock] at q
      rw [empty_app]
      exact q
    | read n s v a x =>
      obtain ⟨hn, _, _, a1, a2, a3, a4⟩ := ok
      have b1 : (Str.ofString (toString s)).length ≤ 61 := a1.len
      have b2 : (Str.ofString (toString v)).length ≤ 61 := a2.len
      have b3 : (Str.ofString (toString a)).length ≤ 61 := a3.len
      have b4 := optT_len a4
      have w' : n.length ≤ 200 := w
      have d0 : ((("read " : Str))).length ≤ 10 := by decide +kernel
      have d1 : (((" slot " : Str))).length ≤ 10 := by decide +kernel
      have d2 : (((" version " : Str))).length ≤ 10 := by decide +kernel
      have d3 : (((" at " : Str))).length ≤ 10 := by decide +kernel
      have d4 : (((" is " : Str))).length ≤ 10 := by decide +kernel
      have hS : SqT K H t [.str "read", .str n, .int s, .int v, .int a, optV x] := .inl (.inl hl)
      refine ⟨.ref t, rfl, t, _, 0, _, rfl, rfl, hS, atI_nat (j := 0) rfl, rfl, _, rfl, ite2 (fun e => absurd e (by decide +kernel)) (fun e => ?_)⟩
      refine ⟨.ref t, rfl, t, _, 0, _, rfl, rfl, hS, atI_nat (j := 0) rfl, rfl, _, rfl, ite2 (fun e => absurd e (by decide +kernel)) (fun e => ?_)⟩
      refine ⟨.ref t, rfl, t, _, 5, _, rfl, rfl, hS, atI_nat (j := 5) rfl, rfl, ?_⟩
      have fin : ∀ y, y = optT x → Q (.str (("read " : Str) ++ n ++ (" slot " : Str) ++ intT s ++ (" version " : Str) ++ intT v ++ (" at " : Str) ++ intT a ++ (" is " : Str) ++ y)) H := by
        rintro y rfl
        rw [line_read] at q
        exact q
      cases x with
      | none =>
        refine ⟨_, rfl, iteF ?_⟩
        have fin' := fin "void" rfl
        have b5 : (("void" : Str)).length ≤ 61 := b4
        refine ⟨_, rfl, small' (by simp only [len_app]; omega), .ref t, rfl, t, _, 1, _, rfl, rfl, hS, atI_nat (j := 1) rfl, .inl ⟨_, rfl, small' (by omega), _, rfl, small' (by simp only [len_app]; omega), _, rfl, small' (by simp only [len_app]; omega), .ref t, rfl, t, _, 2, _, rfl, rfl, hS, atI_nat (j := 2) rfl, .inr ⟨_, rfl, a1.log, _, rfl, small' (by simp only [len_app]; omega), _, rfl, small' (by simp only [len_app]; omega), .ref t, rfl, t, _, 3, _, rfl, rfl, hS, atI_nat (j := 3) rfl, .inr ⟨_, rfl, a2.log, _, rfl, small' (by simp only [len_app]; omega), _, rfl, small' (by simp only [len_app]; omega), .ref t, rfl, t, _, 4, _, rfl, rfl, hS, atI_nat (j := 4) rfl, .inr ⟨_, rfl, a3.log, _, rfl, small' (by simp only [len_app]; omega), _, rfl, small' (by simp only [len_app]; omega), .str _, rfl, .inl ⟨_, rfl, small' (by omega), _, rfl, small' (by simp only [len_app]; omega), ?_⟩⟩⟩⟩⟩⟩
        rw [empty_app]
        exact fin'
      | some z =>
        refine ⟨_, rfl, iteT ?_⟩
        have b5 : (Str.ofString (toString z)).length ≤ 61 := b4
        refine ⟨.ref t, rfl, t, _, 5, _, rfl, rfl, hS, atI_nat (j := 5) rfl, z, rfl, (a4 z rfl).log, ?_⟩
        refine ⟨_, rfl, small' (by simp only [len_app]; omega), .ref t, rfl, t, _, 1, _, rfl, rfl, hS, atI_nat (j := 1) rfl, .inl ⟨_, rfl, small' (by omega), _, rfl, small' (by simp only [len_app]; omega), _, rfl, small' (by simp only [len_app]; omega), .ref t, rfl, t, _, 2, _, rfl, rfl, hS, atI_nat (j := 2) rfl, .inr ⟨_, rfl, a1.log, _, rfl, small' (by simp only [len_app]; omega), _, rfl, small' (by simp only [len_app]; omega), .ref t, rfl, t, _, 3, _, rfl, rfl, hS, atI_nat (j := 3) rfl, .inr ⟨_, rfl, a2.log, _, rfl, small' (by simp only [len_app]; omega), _, rfl, small' (by simp only [len_app]; omega), .ref t, rfl, t, _, 4, _, rfl, rfl, hS, atI_nat (j := 4) rfl, .inr ⟨_, rfl, a3.log, _, rfl, small' (by simp only [len_app]; omega), _, rfl, small' (by simp only [len_app]; omega), .str _, rfl, .inl ⟨_, rfl, small' (by omega), _, rfl, small' (by simp only [len_app]; omega), ?_⟩⟩⟩⟩⟩⟩
        rw [empty_app]
        exact fin _ rfl
end
def sp_l_drawn_bag (K : PySem.W.Frag) : Sp := fun vs H Q _ => ∃ (d p tm : Addr) (ts : List Addr) (P : Pl) (m c : Int), vs = [.ref d, .ref p, .int m, .int c] ∧ DrA H d ∧ PlanAt H p tm ts P ∧ P.ms ≠ [] ∧ (∀ m ∈ P.ms, IsW m.name) ∧ 0 ≤ m ∧ m ≤ 15 ∧ c.natAbs + 2 ≤ 10 ^ 60 ∧
  ∀ H' g us ls, Dr d H H' → g ≠ d → H g = none → H' g = some (.lst (us.map V.ref)) → Paired (LtAt H') us ls → (∀ l ∈ ls, l.Ok ∧ l.name ∈ P.ms.map Mt.name) → us.length ≤ 30 → Q (.ref g) H'
theorem lst_tup {H : Hp} {G : Addr} {xs ys : List V} (hG : H G = some (.lst xs)) : ∀ b zs, H b = some (.tup zs) → upd H G (.lst ys) b = some (.tup zs) := fun b zs e => by
  rw [upd_ne (ne_of e hG (fun z => nomatch z))]
  exact e
theorem lts_push {H : Hp} {G u : Addr} {xs ys : List V} {us : List Addr} {ls : List Lt} {l : Lt} (hG : H G = some (.lst xs)) (hp : Paired (LtAt H) us ls) (hl : LtAt H u l) : Paired (LtAt (upd H G (.lst ys))) (us ++ [u]) (ls ++ [l]) :=
  (lts_kept (lst_tup hG) hp).snoc (lst_tup hG _ _ hl)
section
variable {P : Program} {w : World} {K : PySem.W.Frag} {mg : Str → Option Value} {base : Heap}
theorem ok_l_drawn_bag (T : Ctx K mg) : FnOk P w K mg base CX0 4 T.f_l_drawn_bag T.fd_l_drawn_bag ["draws", "plan", "most", "great"] (sp_l_drawn_bag K) := by
  refine T.F_l_drawn_bag.ok sc_l_drawn_bag (fun vs H Q E h => ?_) (fun cdv A outer s H vs Q E hr h => ?_)
  · obtain ⟨d, p, tm, ts, P, m, c, rfl, _⟩ := h
    rfl
  · obtain ⟨d, p, tm, ts, P, m, c, rfl, hd, pa, po, iw, m0, m1, hc, q⟩ := h
    refine ⟨_, (pss_cons (ps_set (i := 4) sc_l_drawn_bag.nd rfl (.inl rfl) (pe_lst pa_nil))
      (pss_cons (ps_for PassesOwn.never rfl (pi_range1 (by rfl) T.m_range (pa_cons (pe_call (ok_l_take T) (hr.mono (by decide)) (by rfl) T.g_l_take T.F_l_take.kp T.b_l_take .nil pass0 (pa_cons (pv 0) (pa_cons (pe_op op_add (pv 2) pe_int) pa_nil))) pa_nil)) (pg_name (i := 5) sc_l_drawn_bag.nd rfl (.inl rfl))
        (pss_cons (ps_set (i := 6) sc_l_drawn_bag.nd rfl (.inl rfl) (pe_ix ix_tup (pe_ix ix_tup (pe_ix ix_tup (pv 1) pe_int (fun _ _ => rfl)) (pe_call (ok_l_take T) (hr.mono (by decide)) (by rfl) T.g_l_take T.F_l_take.kp T.b_l_take .nil pass0 (pa_cons (pv 0) (pa_cons (pe_callB call_len_seq (by rfl) T.m_len (by decide +kernel) (pa_cons (pe_ix ix_tup (pv 1) pe_int (fun _ _ => rfl)) pa_nil)) pa_nil))) (fun _ _ => rfl)) pe_int (fun _ _ => rfl)))
      (pss_cons (ps_expr (pe_bm PySem.F.plainAttrs_list PySem.F.slot_list_append PySem.F.type_list_append mt_append (pv 4) (pa_cons (pe_call (ok_l_letter T) (hr.mono (by decide)) (by rfl) T.g_l_letter T.F_l_letter.kp T.b_l_letter .nil pass0 (pa_cons (pv 0) (pa_cons (pv 6) (pa_cons (pv 3) pa_nil)))) pa_nil)))
      (pss_one (ps_if (pt_cmpR op_eq (pe_call (ok_l_take T) (hr.mono (by decide)) (by rfl) T.g_l_take T.F_l_take.kp T.b_l_take .nil pass0 (pa_cons (pv 0) (pa_cons pe_int pa_nil))) pe_int (nomark _))
        (pss_one (ps_expr (pe_bm PySem.F.plainAttrs_list PySem.F.slot_list_append PySem.F.type_list_append mt_append (pv 4) (pa_cons (pe_ix ix_list (pv 4) pe_int (fun _ _ => rfl)) pa_nil))))
        pss_nil)))))
      (pss_one (ps_ret (pv 4))))), ?_⟩
    refine ⟨small' (n := 0) (by decide), fun G nG => ?_⟩
    have nGd : G ≠ d := (Dr.refl hd).ne nG
    have r0 : Dr d H (upd H G (.lst [])) := (Dr.refl hd).then (same_new nG)
    refine ⟨.ref d, rfl, .int m, rfl, _, _, rfl, rfl, d, _, rfl, r0.at_, by omega, fun H1 kk r1 k0 k1 => ⟨kk, rfl, by omega, by omega, ?_⟩⟩
    refine for_range (lo := 0) (n := kk.toNat) (fun i σ H3 => ∃ (y5 y6 : Option V) (us : List Addr) (ls : List Lt), σ = [some (.ref d), some (.ref p), some (.int m), some (.int c), some (.ref G), y5, y6] ∧ Dr d H H3 ∧ H3 G = some (.lst (us.map V.ref)) ∧ Paired (LtAt H3) us ls ∧ (∀ l ∈ ls, l.Ok ∧ l.name ∈ P.ms.map Mt.name) ∧ us.length ≤ 2 * i)
      ⟨none, none, [], [], rfl, r0.trans r1, r1.keep _ _ nGd upd_same, .nil, (fun _ z => nomatch z), Nat.zero_le _⟩ (fun i σ H3 hi hp => ?_) (fun σ H3 hp => ?_)
    · obtain ⟨y5, y6, us, ls, rfl, r3, hG3, hp3, ok3, len3⟩ := hp
      have pa3 := r3.plan hd pa
      have tl : ts.length = P.ms.length := pa.low.length
      have p0 : 0 < P.ms.length := List.length_pos_iff.mpr po
      refine ⟨.ref p, rfl, p, _, 1, _, rfl, rfl, .inl (.inl pa3.top), atI_nat (j := 1) rfl, .ref d, rfl, .ref p, rfl, p, _, 1, _, rfl, rfl, .inl (.inl pa3.top), atI_nat (j := 1) rfl, tm, _, rfl, .inr (.inl (.inl pa3.mid)), d, _, rfl, r3.at_, by rw [List.length_map]; omega, fun H4 x r4 x0 x1 => ?_⟩
      rw [List.length_map] at x1
      have r34 := r3.trans r4
      have pa4 := r4.plan r3.at_ pa3
      have xl : x.toNat < ts.length := by omega
      obtain ⟨mt, hmt, hat⟩ := mts_at pa4.low (List.getElem?_eq_getElem xl)
      have ax : atI (ts.map V.ref) x = some (.ref ts[x.toNat]) := atI_z (j := x.toNat) (by omega) (by rw [List.getElem?_map, List.getElem?_eq_getElem xl]; rfl)
      refine ⟨tm, _, x, _, rfl, rfl, .inl (.inl pa4.mid), ax, ts[x.toNat], _, 0, _, rfl, rfl, .inl (.inl hat), atI_nat (j := 0) rfl, ?_⟩
      have hG4 : H4 G = some (.lst (us.map V.ref)) := r4.keep _ _ nGd hG3
      refine ⟨.ref G, rfl, .inl ⟨rfl, _, .inl (.inl hG4)⟩, .ref d, rfl, .str mt.name, rfl, .int c, rfl, d, mt.name, c, rfl, r4.at_, iw mt (List.mem_of_getElem? hmt), hc, fun H5 t l r5 hl okl0 hnm => ?_⟩
      have okl : l.Ok ∧ l.name ∈ P.ms.map Mt.name := ⟨okl0, by rw [hnm]; exact List.mem_map_of_mem (List.mem_of_getElem? hmt)⟩
      have hG5 : H5 G = some (.lst (us.map V.ref)) := r5.keep _ _ nGd hG4
      have hp5 : Paired (LtAt H5) us ls := r5.lts r4.at_ (r4.lts r3.at_ hp3)
      refine ⟨G, _, _, rfl, rfl, hG5, by rw [List.length_map]; exact small (by omega), ?_⟩
      have hp6 := lts_push (ys := us.map V.ref ++ [V.ref t]) hG5 hp5 hl
      have hG6 : upd H5 G (.lst (us.map V.ref ++ [V.ref t])) G = some (.lst ((us ++ [t]).map V.ref)) := by rw [upd_same, map_snoc]
      have r6 : Dr d H (upd H5 G (.lst (us.map V.ref ++ [V.ref t]))) := (r34.trans r5).keepNew nGd nG
      have ok6 : ∀ l' ∈ ls ++ [l], l'.Ok ∧ l'.name ∈ P.ms.map Mt.name := fun l' hl' => by
        rcases List.mem_append.mp hl' with z | z
        · exact ok3 l' z
        · rw [List.mem_singleton.mp z]
          exact okl
      generalize upd H5 G (.lst (us.map V.ref ++ [V.ref t])) = H6 at hp6 hG6 r6
      refine ⟨.ref d, rfl, d, _, rfl, r6.at_, by decide, fun H7 u r7 u0 u1 => ⟨rfl, _, rfl, ite2 (fun e => ?_) (fun e => ?_)⟩⟩
      · have hG7 : H7 G = some (.lst ((us ++ [t]).map V.ref)) := r7.keep _ _ nGd hG6
        have hp7 := r7.lts r6.at_ hp6
        have l0 : 0 < (us ++ [t]).length := by rw [List.length_append]; exact Nat.succ_pos _
        obtain ⟨z, hz, hzt⟩ := lts_at hp7 (List.getElem?_eq_getElem l0)
        have a0 : atI ((us ++ [t]).map V.ref) 0 = some (.ref (us ++ [t])[0]) := atI_nat (j := 0) (by rw [List.getElem?_map, List.getElem?_eq_getElem l0]; rfl)
        refine ⟨.ref G, rfl, .inl ⟨rfl, _, .inl (.inl hG7)⟩, .ref G, rfl, G, _, _, _, rfl, rfl, .inl (.inl hG7), a0, G, _, _, rfl, rfl, hG7, by rw [List.length_map, List.length_append]; exact small (by show _ + 1 ≤ _; omega), ?_⟩
        refine ⟨_, _, us ++ [t] ++ [(us ++ [t])[0]], ls ++ [l] ++ [z], rfl, (r6.trans r7).keepNew nGd nG, by rw [upd_same, map_snoc], lts_push hG7 hp7 hzt, fun l' hl' => ?_, by rw [List.length_append, List.length_append]; show _ + 1 + 1 ≤ _; omega⟩
        rcases List.mem_append.mp hl' with y | y
        · exact ok6 l' y
        · rw [List.mem_singleton.mp y]
          exact ok6 z (List.mem_of_getElem? hz)
      · exact ⟨_, _, us ++ [t], ls ++ [l], rfl, r6.trans r7, r7.keep _ _ nGd hG6, r7.lts r6.at_ hp6, ok6, by rw [List.length_append]; show _ + 1 ≤ _; omega⟩
    · obtain ⟨y5, y6, us, ls, rfl, r3, hG3, hp3, ok3, len3⟩ := hp
      exact ⟨.ref G, rfl, q _ _ us ls r3 nGd nG hG3 hp3 ok3 (by omega)⟩
end
theorem tyTup {K : PySem.W.Frag} {H : Hp} {a : Addr} {xs : List V} (h : SqT K H a xs) : TyX K H (.ref a) (.type "tuple") := by
  rcases h with (h | ⟨o, h⟩) | ⟨o, its, n, h, c, _⟩
  · exact .base (.tup h)
  · exact .fTuple h
  · exact .kTuple h c
theorem lt_flat (l : Lt) : ∀ v ∈ l.vals, v = .non ∨ (∃ i, v = .int i) ∨ ∃ z, v = .str z := by
  have ho : ∀ x : Option Int, optV x = .non ∨ (∃ i, optV x = .int i) ∨ ∃ z, optV x = .str z := fun x => by
    cases x with
    | none => exact .inl rfl
    | some i => exact .inr (.inl ⟨i, rfl⟩)
  intro v hv
  cases l with
  | read n s w a x =>
    simp only [Lt.vals, List.mem_cons, List.not_mem_nil, or_false] at hv
    rcases hv with rfl | rfl | rfl | rfl | rfl | rfl
    · exact .inr (.inr ⟨_, rfl⟩)
    · exact .inr (.inr ⟨_, rfl⟩)
    · exact .inr (.inl ⟨_, rfl⟩)
    · exact .inr (.inl ⟨_, rfl⟩)
    · exact .inr (.inl ⟨_, rfl⟩)
    · exact ho x
  | close n f a w =>
    simp only [Lt.vals, List.mem_cons, List.not_mem_nil, or_false] at hv
    rcases hv with rfl | rfl | rfl | rfl | rfl
    · exact .inr (.inr ⟨_, rfl⟩)
    · exact .inr (.inr ⟨_, rfl⟩)
    · exact .inr (.inl ⟨_, rfl⟩)
    · exact .inr (.inl ⟨_, rfl⟩)
    · exact .inr (.inl ⟨_, rfl⟩)
  | clock n lo hi =>
    simp only [Lt.vals, List.mem_cons, List.not_mem_nil, or_false] at hv
    rcases hv with rfl | rfl | rfl | rfl
    · exact .inr (.inr ⟨_, rfl⟩)
    · exact .inr (.inr ⟨_, rfl⟩)
    · exact .inr (.inl ⟨_, rfl⟩)
    · exact .inr (.inl ⟨_, rfl⟩)
theorem vals_le (l : Lt) : l.vals.length ≤ 6 := by
  cases l
  · exact (by decide : 6 ≤ 6)
  · exact (by decide : 5 ≤ 6)
  · exact (by decide : 4 ≤ 6)
def sp_l_is_letter (K : PySem.W.Frag) : Sp := fun vs H Q _ => ∃ (t u : Addr) (l : Lt), vs = [.ref t, .ref u] ∧ LtAt H t l ∧ LtAt H u l ∧ Q (.bl true) H
section
variable {P : Program} {w : World} {K : PySem.W.Frag} {mg : Str → Option Value} {base : Heap}
theorem ok_l_is_letter (T : Ctx K mg) : FnOk P w K mg base CX0 1 T.f_l_is_letter T.fd_l_is_letter ["actual", "due"] (sp_l_is_letter K) := by
  refine T.F_l_is_letter.ok sc_l_is_letter (fun vs H Q E h => ?_) (fun cdv A outer s H vs Q E hr h => ?_)
  · obtain ⟨t, u, l, rfl, _⟩ := h
    rfl
  · obtain ⟨t, u, l, rfl, ht, hu, q⟩ := h
    refine ⟨_, (pss_cons (ps_if (PW.pt (pw_or (pt_not (pt_val (pe_callB call_isi (by rfl) T.m_isinstance (by decide +kernel) (pa_cons (pv 0) (pa_cons (pe_bltn (v := .ty "tuple") (by rfl) T.m_tuple (by decide +kernel) rfl) pa_nil))))) (pw_or1 (pt_cmpR op_ne (pe_callB call_len_seq (by rfl) T.m_len (by decide +kernel) (pa_cons (pv 0) pa_nil)) (pe_callB call_len_seq (by rfl) T.m_len (by decide +kernel) (pa_cons (pv 1) pa_nil)) (nomark _)))))
        (pss_one (ps_ret pe_bl))
        pss_nil)
      (pss_cons (ps_for PassesOwn.never rfl (pi_range1 (by rfl) T.m_range (pa_cons (pe_callB call_len_seq (by rfl) T.m_len (by decide +kernel) (pa_cons (pv 1) pa_nil)) pa_nil)) (pg_name (i := 2) sc_l_is_letter.nd rfl (.inl rfl))
        (pss_one (ps_if (pt_cmpR op_isN (pe_ix ix_tup (pv 1) (pv 2) (fun _ _ => rfl)) pe_non (nomark _))
        (pss_one (ps_if (pt_cmpR op_notN (pe_ix ix_tup (pv 0) (pv 2) (fun _ _ => rfl)) pe_non (nomark _))
        (pss_one (ps_ret pe_bl))
        pss_nil))
        (pss_one (ps_if (pt_val (pe_callB call_isi (by rfl) T.m_isinstance (by decide +kernel) (pa_cons (pe_ix ix_tup (pv 1) (pv 2) (fun _ _ => rfl)) (pa_cons (pe_bltn (v := .ty "str") (by rfl) T.m_str (by decide +kernel) rfl) pa_nil))))
        (pss_one (ps_if (PW.pt (pw_or (pt_not (pt_val (pe_callB call_isi (by rfl) T.m_isinstance (by decide +kernel) (pa_cons (pe_ix ix_tup (pv 0) (pv 2) (fun _ _ => rfl)) (pa_cons (pe_bltn (v := .ty "str") (by rfl) T.m_str (by decide +kernel) rfl) pa_nil))))) (pw_or1 (pt_cmpR op_ne (pe_ix ix_tup (pv 0) (pv 2) (fun _ _ => rfl)) (pe_ix ix_tup (pv 1) (pv 2) (fun _ _ => rfl)) (nomark _)))))
        (pss_one (ps_ret pe_bl))
        pss_nil))
        (pss_one (ps_if (PW.pt (pw_or (pt_not (pt_val (pe_callB call_isi (by rfl) T.m_isinstance (by decide +kernel) (pa_cons (pe_ix ix_tup (pv 0) (pv 2) (fun _ _ => rfl)) (pa_cons (pe_bltn (v := .ty "int") (by rfl) T.m_int (by decide +kernel) rfl) pa_nil))))) (pw_or (pt_val (pe_callB call_isi (by rfl) T.m_isinstance (by decide +kernel) (pa_cons (pe_ix ix_tup (pv 0) (pv 2) (fun _ _ => rfl)) (pa_cons (pe_bltn (v := .ty "bool") (by rfl) T.m_bool (by decide +kernel) rfl) pa_nil)))) (pw_or1 (pt_cmpR op_ne (pe_ix ix_tup (pv 0) (pv 2) (fun _ _ => rfl)) (pe_ix ix_tup (pv 1) (pv 2) (fun _ _ => rfl)) (nomark _))))))
        (pss_one (ps_ret pe_bl))
        pss_nil)))))))
      (pss_one (ps_ret pe_bl)))), ?_⟩
    have ll := vals_le l
    have hT : SqT K H t l.vals := .inl (.inl ht)
    have hU : SqT K H u l.vals := .inl (.inl hu)
    have fls : ∀ a : V, ¬ (!decide (a = a)) = true := fun a => by
      rw [decide_eq_true rfl]
      exact Bool.false_ne_true
    refine ⟨.ref t, rfl, .ref t, .ty "tuple", .type "tuple", .type "tuple", true, rfl, .ty _, tyTup hT, kit_ty (by decide +kernel), true, rfl, iteF ?_⟩
    refine ⟨.ref t, rfl, t, _, rfl, .inr hT, .ref u, rfl, u, _, rfl, .inr hU, rfl, _, rfl, ite2 (fun e => absurd e (fls _)) (fun _ => ?_)⟩
    refine ⟨.ref u, rfl, u, _, rfl, .inr hU, (l.vals.length : Int), rfl, by omega, by omega, for_range (lo := 0) (n := l.vals.length) (fun i σ H' => ∃ y2 : Option V, σ = [some (.ref t), some (.ref u), y2] ∧ H' = H) ⟨none, rfl, rfl⟩ (fun i σ H' hi hp => ?_) (fun σ H' hp => ?_)⟩
    · obtain ⟨y2, rfl, rfl⟩ := hp
      obtain ⟨v, hv⟩ : ∃ v, l.vals[i]? = some v := ⟨_, List.getElem?_eq_getElem hi⟩
      have at_ : atI l.vals (0 + (i : Int)) = some v := atI_z (j := i) (by omega) hv
      rcases lt_flat l v (List.mem_of_getElem? hv) with rfl | ⟨n, rfl⟩ | ⟨z, rfl⟩
      · refine ⟨.ref u, rfl, .int (0 + (i : Int)), rfl, u, _, _, _, rfl, rfl, hU, at_, rfl, true, rfl, iteT ?_⟩
        exact ⟨.ref t, rfl, .int (0 + (i : Int)), rfl, t, _, _, _, rfl, rfl, hT, at_, rfl, false, rfl, iteF ⟨_, rfl, rfl⟩⟩
      · refine ⟨.ref u, rfl, .int (0 + (i : Int)), rfl, u, _, _, _, rfl, rfl, hU, at_, rfl, false, rfl, iteF ?_⟩
        refine ⟨.ref u, rfl, .int (0 + (i : Int)), rfl, u, _, _, _, rfl, rfl, hU, at_, .int n, .ty "str", .type "int", .type "str", false, rfl, .ty _, .base (.int _), kit_ty (by decide +kernel), false, rfl, iteF ?_⟩
        refine ⟨.ref t, rfl, .int (0 + (i : Int)), rfl, t, _, _, _, rfl, rfl, hT, at_, .int n, .ty "int", .type "int", .type "int", true, rfl, .ty _, .base (.int _), kit_ty (by decide +kernel), true, rfl, iteF ?_⟩
        refine ⟨.ref t, rfl, .int (0 + (i : Int)), rfl, t, _, _, _, rfl, rfl, hT, at_, .int n, .ty "bool", .type "int", .type "bool", false, rfl, .ty _, .base (.int _), kit_ty (by decide +kernel), false, rfl, iteF ?_⟩
        exact ⟨.ref t, rfl, .int (0 + (i : Int)), rfl, t, _, _, _, rfl, rfl, hT, at_, .ref u, rfl, .int (0 + (i : Int)), rfl, u, _, _, _, rfl, rfl, hU, at_, rfl, _, rfl, ite2 (fun e => absurd e (fls _)) (fun _ => ⟨_, rfl, rfl⟩)⟩
      · refine ⟨.ref u, rfl, .int (0 + (i : Int)), rfl, u, _, _, _, rfl, rfl, hU, at_, rfl, false, rfl, iteF ?_⟩
        refine ⟨.ref u, rfl, .int (0 + (i : Int)), rfl, u, _, _, _, rfl, rfl, hU, at_, .str z, .ty "str", .type "str", .type "str", true, rfl, .ty _, .base (.str _), kit_ty (by decide +kernel), true, rfl, iteT ?_⟩
        refine ⟨.ref t, rfl, .int (0 + (i : Int)), rfl, t, _, _, _, rfl, rfl, hT, at_, .str z, .ty "str", .type "str", .type "str", true, rfl, .ty _, .base (.str _), kit_ty (by decide +kernel), true, rfl, iteF ?_⟩
        exact ⟨.ref t, rfl, .int (0 + (i : Int)), rfl, t, _, _, _, rfl, rfl, hT, at_, .ref u, rfl, .int (0 + (i : Int)), rfl, u, _, _, _, rfl, rfl, hU, at_, rfl, _, rfl, ite2 (fun e => absurd e (fls _)) (fun _ => ⟨_, rfl, rfl⟩)⟩
    · obtain ⟨y2, rfl, rfl⟩ := hp
      exact q
end
def knownL : List Str := ["read", "slot", "version", "at", "is", "void", "close", "after", "with", "clock", "from", "to"]
theorem known_isW : ∀ w ∈ knownL, IsW w := by
  show ∀ w ∈ knownL, w.cps.toList ≠ [] ∧ (∀ c ∈ w.cps.toList, 97 ≤ c ∧ c ≤ 122) ∧ w.length ≤ 200
  decide +kernel
def sp_l_named (K : PySem.W.Frag) : Sp := fun vs H Q _ => ∃ (d p tm : Addr) (ts : List Addr) (P : Pl), vs = [.ref d, .ref p] ∧ DrA H d ∧ PlanAt H p tm ts P ∧ P.ms ≠ [] ∧ P.ms.length ≤ 6 ∧ (∀ m ∈ P.ms, IsW m.name) ∧
  ∀ H' p' tm' ts' P', Dr d H H' → PlanAt H' p' tm' ts' P' → P'.ms ≠ [] → P'.ms.length ≤ 7 → (∀ m ∈ P'.ms, IsW m.name) → Q (.ref p') H'
section
variable {P : Program} {w : World} {K : PySem.W.Frag} {mg : Str → Option Value} {base : Heap}
theorem ok_l_named (T : Ctx K mg) : FnOk P w K mg base CX0 2 T.f_l_named T.fd_l_named ["draws", "plan"] (sp_l_named K) := by
  refine T.F_l_named.ok sc_l_named (fun vs H Q E h => ?_) (fun cdv A outer s H vs Q E hr h => ?_)
  · obtain ⟨d, p, tm, ts, P, rfl, _⟩ := h
    rfl
  · obtain ⟨d, p, tm, ts, P, rfl, hd, pa, ne, few, iw, q⟩ := h
    refine ⟨_, (pss_cons (ps_set (i := 2) sc_l_named.nd rfl (.inl rfl) (pe_lst (pa_cons pe_str (pa_cons pe_str (pa_cons pe_str (pa_cons pe_str (pa_cons pe_str (pa_cons pe_str (pa_cons pe_str (pa_cons pe_str (pa_cons pe_str (pa_cons pe_str (pa_cons pe_str (pa_cons pe_str pa_nil))))))))))))))
      (pss_cons (ps_set (i := 3) sc_l_named.nd rfl (.inl rfl) (pe_ix ix_list (pv 2) (pe_call (ok_l_take T) (hr.mono (by decide)) (by rfl) T.g_l_take T.F_l_take.kp T.b_l_take .nil pass0 (pa_cons (pv 0) (pa_cons pe_int pa_nil))) (fun _ _ => rfl)))
      (pss_cons (ps_if (pt_cmpR op_in_seq (pv 3) (pe_lc (own := [("meter", 4)]) (g := gName 4) (by rfl) sc_l_named.nd (pi_tup (pe_ix ix_tup (pv 1) pe_int (fun _ _ => rfl))) (blkOk_by (own := [("meter", 4)]) (N := ["draws", "plan", "known", "name", "meter"]) (sc := defScope s_l_named) (by decide +kernel)) (fun _ _ _ _ _ => pg_name (i := 4) sc_l_named.nd rfl (Or.inl rfl)) (fun _ _ _ _ _ => pts_nil) (fun _ _ _ _ _ => (pe_ix (show IxR _ (rIxT K) from ix_tup) (pv 4) pe_int (fun _ _ => rfl)))) rfl)
        (pss_one (ps_ret (pv 1)))
        pss_nil)
      (pss_one (ps_ret (pe_tup (pa_cons (pe_ix ix_tup (pv 1) pe_int (fun _ _ => rfl)) (pa_cons (pe_callTy call_tuple_of (by rfl) T.m_tuple (by decide +kernel) (pa_cons (pe_callB Row4.cr_sortRows (by rfl) T.m_sorted (by decide +kernel) (pa_cons (pe_op op_cat (pe_callTy call_list_of (by rfl) T.m_list (by decide +kernel) (pa_cons (pe_ix ix_tup (pv 1) pe_int (fun _ _ => rfl)) pa_nil)) (pe_lst (pa_cons (pe_tup (pa_cons (pv 3) (pa_cons pe_int (pa_cons pe_int (pa_cons pe_int pa_nil))))) pa_nil))) pa_nil)) pa_nil)) pa_nil)))))))), ?_⟩
    have tl : ts.length = P.ms.length := pa.low.length
    refine ⟨small' (n := 12) (by decide), fun L nL => ?_⟩
    have nLd : L ≠ d := (Dr.refl hd).ne nL
    have r0 : Dr d H (upd H L (.lst (knownL.map V.str))) := (Dr.refl hd).then (same_new nL)
    refine ⟨.ref L, rfl, .ref d, rfl, d, _, rfl, r0.at_, by decide, fun H2 x r2 x0 x1 => ?_⟩
    have hL2 : H2 L = some (.lst (knownL.map V.str)) := r2.keep _ _ nLd upd_same
    have xl : x.toNat < knownL.length := by show x.toNat < 12; omega
    have ax : atI (knownL.map V.str) x = some (.str knownL[x.toNat]) := atI_z (j := x.toNat) (by omega) (by rw [List.getElem?_map, List.getElem?_eq_getElem xl]; rfl)
    have wn := known_isW _ (List.getElem_mem xl)
    generalize knownL[x.toNat] = nm at ax wn
    refine ⟨L, _, x, _, rfl, rfl, .inl (.inl hL2), ax, ?_⟩
    have r02 := r0.trans r2
    have pa2 := r02.plan hd pa
    refine ⟨.str nm, rfl, .ref p, rfl, p, _, 1, _, rfl, rfl, .inl (.inl pa2.top), atI_nat (j := 1) rfl, tm, rfl, ⟨_, .inl (.inl pa2.mid)⟩, fun C nC => lc_tup (K := K) (a := tm) (xs := ts.map V.ref) (fun i H' => Same H2 H' ∧ H' C = some (.lst (((P.ms.map Mt.name).take i).map V.str))) ⟨same_new nC, by rw [upd_same]; simp⟩ (fun i H' _ z => .inl (.inl (z.1 _ _ pa2.mid))) (fun i y H' hy z => ?_) (fun H' z => ?_)⟩
    · obtain ⟨s1, hC⟩ := z
      have il : i < ts.length := by
        have := (List.getElem?_eq_some_iff.mp hy).1
        rw [List.length_map] at this
        exact this
      have ey : y = .ref ts[i] := by
        rw [List.getElem?_map, List.getElem?_eq_getElem il] at hy
        exact (Option.some.inj hy).symm
      subst ey
      obtain ⟨m, hm, hat⟩ := mts_at pa2.low (List.getElem?_eq_getElem il)
      refine ⟨rfl, .ref ts[i], rfl, ts[i], _, 0, _, rfl, rfl, .inl (.inl (s1 _ _ hat)), atI_nat (j := 0) rfl, _, hC, ?_, fun b o e => ?_, ?_⟩
      · rw [List.length_map, List.length_take, List.length_map]
        exact small (by omega)
      · rw [upd_ne (ne_of_none e nC)]
        exact s1 _ _ e
      · rw [upd_same, List.take_add_one, List.getElem?_map, hm, List.map_append]
        rfl
    · obtain ⟨s3, hC⟩ := z
      have r3 := r02.then s3
      have pa3 := pa2.same s3
      refine ⟨C, _, rfl, .inl (.inl (.inl hC)), rfl, flat_names _, _, rfl, ite2 (fun _ => ?_) (fun _ => ?_)⟩
      · exact ⟨.ref p, rfl, q _ p tm ts P r3 pa3 ne (by omega) iw⟩
      · refine ⟨.ref p, rfl, p, _, 0, _, rfl, rfl, .inl (.inl pa3.top), atI_nat (j := 0) rfl, .ref p, rfl, p, _, 1, _, rfl, rfl, .inl (.inl pa3.top), atI_nat (j := 1) rfl, tm, _, rfl, .inr (.inl (.inl pa3.mid)), fun A nA => ?_⟩
        refine ⟨.str nm, rfl, small' (n := 4) (by decide), fun t nt => ⟨small' (n := 1) (by decide), fun B nB => ?_⟩⟩
        have s4 := ((same_new (o := .lst (ts.map V.ref)) nA).trans (same_new (o := .tup [.str nm, .int 0, .int 9, .int 1]) nt)).trans (same_new (o := .lst [.ref t]) nB)
        have hA4 : upd (upd (upd H' A (.lst (ts.map V.ref))) t (.tup [.str nm, .int 0, .int 9, .int 1])) B (.lst [.ref t]) A = some (.lst (ts.map V.ref)) := same_new nB _ _ (same_new nt _ _ upd_same)
        have hB4 : upd (upd (upd H' A (.lst (ts.map V.ref))) t (.tup [.str nm, .int 0, .int 9, .int 1])) B (.lst [.ref t]) B = some (.lst [.ref t]) := upd_same
        have ht4 : MtAt (upd (upd (upd H' A (.lst (ts.map V.ref))) t (.tup [.str nm, .int 0, .int 9, .int 1])) B (.lst [.ref t])) t ⟨nm, 0, 9, 1⟩ := same_new nB _ _ upd_same
        generalize upd (upd (upd H' A (.lst (ts.map V.ref))) t (.tup [.str nm, .int 0, .int 9, .int 1])) B (.lst [.ref t]) = H4 at s4 hA4 hB4 ht4
        have pa4 := pa3.same s4
        refine ⟨A, B, _, _, rfl, rfl, hA4, hB4, by rw [List.length_map]; exact small' (by show _ + 1 ≤ _; omega), fun E' nE => ?_⟩
        have eE : ts.map V.ref ++ [V.ref t] = (ts ++ [t]).map V.ref := map_snoc
        rw [eE]
        have s5 := same_new (o := .lst ((ts ++ [t]).map V.ref)) nE
        have ms5 : Paired (MtAt (upd H4 E' (.lst ((ts ++ [t]).map V.ref)))) (ts ++ [t]) (P.ms ++ [⟨nm, 0, 9, 1⟩]) := (same_mts s5 pa4.low).snoc (s5 _ _ ht4)
        obtain ⟨em, at5⟩ := mts_map ms5
        refine ⟨E', _, rfl, .inl (.inl upd_same), fun v hv => ?_, fun ys S pm nS => ?_⟩
        · obtain ⟨u, hu, rfl⟩ := List.mem_map.mp hv
          exact ⟨u, _, [_, _, _], rfl, .inl (.inl (at5 u hu))⟩
        obtain ⟨us, rfl, pu⟩ := refs_perm pm
        refine ⟨S, _, rfl, .inl ⟨.inl (.inl upd_same), fun tq ntq => ⟨small' (n := 2) (by decide), fun p2 np2 => ?_⟩⟩⟩
        have s6 := same_new (o := .lst (us.map V.ref)) nS
        have s7 := same_new (o := .tup (us.map V.ref)) ntq
        have s8 := same_new (o := .tup [.int P.len, .ref tq]) np2
        have s68 := (s6.trans s7).trans s8
        have nq : tq ≠ p2 := fun z => by
          rw [← z, upd_same] at np2
          cases np2
        have at8 : ∀ u ∈ us, MtAt (upd (upd (upd (upd H4 E' (.lst ((ts ++ [t]).map V.ref))) S (.lst (us.map V.ref))) tq (.tup (us.map V.ref))) p2 (.tup [.int P.len, .ref tq])) u (mtOf (upd H4 E' (.lst ((ts ++ [t]).map V.ref))) u) := fun u hu => s68 _ _ (at5 u (pu.mem_iff.mp hu))
        have low8 : Paired (MtAt (upd (upd (upd (upd H4 E' (.lst ((ts ++ [t]).map V.ref))) S (.lst (us.map V.ref))) tq (.tup (us.map V.ref))) p2 (.tup [.int P.len, .ref tq]))) us (us.map (mtOf (upd H4 E' (.lst ((ts ++ [t]).map V.ref))))) := by
          have e : us.map (mtOf (upd H4 E' (.lst ((ts ++ [t]).map V.ref)))) = us.map (mtOf (upd (upd (upd (upd H4 E' (.lst ((ts ++ [t]).map V.ref))) S (.lst (us.map V.ref))) tq (.tup (us.map V.ref))) p2 (.tup [.int P.len, .ref tq]))) := List.map_congr_left fun u hu => (mtOf_at (at8 u hu)).symm
          rw [e]
          exact mts_of us fun u hu => by
            rw [mtOf_at (at8 u hu)]
            exact at8 u hu
        refine q _ p2 tq us ⟨P.len, us.map (mtOf (upd H4 E' (.lst ((ts ++ [t]).map V.ref))))⟩ (((r3.then s4).then s5).then s68) ⟨upd_same, by rw [upd_ne nq, upd_same], low8⟩ (fun z => ?_) ?_ fun m hm => ?_
        · have e1 : us = [] := List.map_eq_nil_iff.mp z
          rw [e1] at pu
          have := pu.length_eq
          simp at this
        · show (us.map _).length ≤ 7
          rw [List.length_map, pu.length_eq, List.length_append]
          show _ + 1 ≤ 7
          omega
        · obtain ⟨u, hu, rfl⟩ := List.mem_map.mp hm
          have hm2 : mtOf (upd H4 E' (.lst ((ts ++ [t]).map V.ref))) u ∈ P.ms ++ [⟨nm, 0, 9, 1⟩] := by
            rw [em]
            exact List.mem_map_of_mem (pu.mem_iff.mp hu)
          rcases List.mem_append.mp hm2 with z | z
          · exact iw _ z
          · rw [List.mem_singleton.mp z]
            exact wn
end
def sp_law (K : PySem.W.Frag) : Sp := fun vs H Q _ => ∃ (a : Addr) (ns : List Int), vs = [.ref a] ∧ SqL K H a (ns.map V.int) ∧ ns.length ≤ 63 ∧ ∀ H', Q (.bl true) H'
section
variable {P : Program} {w : World} {K : PySem.W.Frag} {mg : Str → Option Value} {base : Heap}
set_option maxHeartbeats 2000000
theorem ok_law (T : Ctx K mg) (hW : WordsAt K w T.aW) (hD0 : ∃ es n, KDict K w T.aW es n) : FnOk P w K mg base CX0 5 T.f_law T.fd_law ["script"] (sp_law K) := by
  refine T.F_law.ok sc_law (fun vs H Q E h => ?_) (fun cdv A outer s H vs Q E hr h => ?_)
  · obtain ⟨a, ns, rfl, _⟩ := h
    rfl
  · obtain ⟨a, ns, rfl, hS, hlen, q⟩ := h
    refine ⟨_, (pss_cons (ps_set (i := 1) sc_law.nd rfl (.inl rfl) (pe_call (ok_l_draws T) (hr.mono (by decide)) (by rfl) T.g_l_draws T.F_l_draws.kp T.b_l_draws .nil pass0 (pa_cons (pv 0) (pa_cons pe_int pa_nil))))
      (pss_cons (ps_set (i := 2) sc_law.nd rfl (.inl rfl) (pe_call (ok_l_cell T) (hr.mono (by decide)) (by rfl) T.g_l_cell T.F_l_cell.kp T.b_l_cell .nil pass0 (pa_cons (pv 0) (pa_cons (pv 1) pa_nil))))
      (pss_cons (ps_set (i := 3) sc_law.nd rfl (.inl rfl) (pe_ix ix_list (pe_lst (pa_cons (pe_op op_mod (pe_callB call_abs (by rfl) T.m_abs (by decide +kernel) (pa_cons (pv 2) pa_nil)) (pe_op op_pow pe_int pe_int)) (pa_cons (pe_op op_sub (pe_op op_pow pe_int pe_int) pe_int) pa_nil))) (pe_call (ok_l_take T) (hr.mono (by decide)) (by rfl) T.g_l_take T.F_l_take.kp T.b_l_take .nil pass0 (pa_cons (pv 1) (pa_cons pe_int pa_nil))) (fun _ _ => rfl)))
      (pss_cons (ps_set (i := 4) sc_law.nd rfl (.inl rfl) (pe_call (ok_l_named T) (hr.mono (by decide)) (by rfl) T.g_l_named T.F_l_named.kp T.b_l_named .nil pass0 (pa_cons (pv 1) (pa_cons (pe_call (ok_l_plan T) (hr.mono (by decide)) (by rfl) T.g_l_plan T.F_l_plan.kp T.b_l_plan .nil pass0 (pa_cons (pv 1) (pa_cons (pv 2) pa_nil))) pa_nil))))
      (pss_cons (ps_set (i := 5) sc_law.nd rfl (.inl rfl) (pe_call (ok_l_drawn_bag T) (hr.mono (by decide)) (by rfl) T.g_l_drawn_bag T.F_l_drawn_bag.kp T.b_l_drawn_bag .nil pass0 (pa_cons (pv 1) (pa_cons (pv 4) (pa_cons pe_int (pa_cons (pv 3) pa_nil))))))
      (pss_cons (ps_if (pt_cmpR op_eq (pe_call (ok_l_take T) (hr.mono (by decide)) (by rfl) T.g_l_take T.F_l_take.kp T.b_l_take .nil pass0 (pa_cons (pv 1) (pa_cons pe_int pa_nil))) pe_int (nomark _))
        (pss_one (ps_set (i := 5) sc_law.nd rfl (.inl rfl) (pe_op op_rep (pe_slice sl_list (pv 5) po_none (po_some pe_int)) pe_int)))
        pss_nil)
      (pss_cons (ps_set (i := 6) sc_law.nd rfl (.inl rfl) (pe_join pe_str (pe_lc (own := [("letter", 9)]) (g := gName 9) (by rfl) sc_law.nd (pi_list (pv 5)) (blkOk_by (own := [("letter", 9)]) (N := ["script", "draws", "cell", "great", "plan", "letters", "text", "actual", "k", "letter"]) (sc := defScope s_law) (by decide +kernel)) (fun _ _ _ _ _ => pg_name (i := 9) sc_law.nd rfl (Or.inl rfl)) (fun _ _ _ _ _ => pts_nil) (fun _ _ _ _ _ => (pe_op op_add_str (pe_call (ok_l_line T) (hr.mono (by decide)) (by rfl) T.g_l_line T.F_l_line.kp T.b_l_line .nil pass0 (pa_cons (pv 9) pa_nil)) pe_str)))))
      (pss_cons (ps_set (i := 7) sc_law.nd rfl (.inl rfl) (pe_call (ok_read_bag T hW hD0) (hr.mono (by decide)) (by rfl) T.g_read_bag T.F_read_bag.kp T.b_read_bag .nil pass0 (pa_cons (pv 4) (pa_cons (pv 6) pa_nil))))
      (pss_cons (ps_if (PW.pt (pw_or (pt_not (pt_val (pe_callB call_isi (by rfl) T.m_isinstance (by decide +kernel) (pa_cons (pv 7) (pa_cons (pe_bltn (v := .ty "tuple") (by rfl) T.m_tuple (by decide +kernel) rfl) pa_nil))))) (pw_or1 (pt_cmpR op_ne (pe_callB call_len_seq (by rfl) T.m_len (by decide +kernel) (pa_cons (pv 7) pa_nil)) (pe_callB call_len_seq (by rfl) T.m_len (by decide +kernel) (pa_cons (pv 5) pa_nil)) (nomark _)))))
        (pss_one (ps_ret pe_bl))
        pss_nil)
      (pss_cons (ps_for PassesOwn.never rfl (pi_range1 (by rfl) T.m_range (pa_cons (pe_callB call_len_seq (by rfl) T.m_len (by decide +kernel) (pa_cons (pv 5) pa_nil)) pa_nil)) (pg_name (i := 8) sc_law.nd rfl (.inl rfl))
        (pss_one (ps_if (pt_not (pt_val (pe_call (ok_l_is_letter T) (hr.mono (by decide)) (by rfl) T.g_l_is_letter T.F_l_is_letter.kp T.b_l_is_letter .nil pass0 (pa_cons (pe_ix ix_tup (pv 7) (pv 8) (fun _ _ => rfl)) (pa_cons (pe_ix ix_list (pv 5) (pv 8) (fun _ _ => rfl)) pa_nil)))))
        (pss_one (ps_ret pe_bl))
        pss_nil)))
      (pss_one (ps_ret (pe_and (pe_cmpR op_eq (pe_call (ok_write_bag T hW) (hr.mono (by decide)) (by rfl) T.g_write_bag T.F_write_bag.kp T.b_write_bag .nil pass0 (pa_cons (pv 7) pa_nil)) (pv 6) (nomark _)) (pe_one (pe_cmpR (op_eqD hr.units) (pe_call (ok_read_bag T hW hD0) (hr.mono (by decide)) (by rfl) T.g_read_bag T.F_read_bag.kp T.b_read_bag .nil pass0 (pa_cons (pv 4) (pa_cons pe_str pa_nil))) (pe_tup pa_nil) (nomark _)))))))))))))))), ?_⟩
    refine ⟨.ref a, rfl, a, ns, 256, rfl, hS, by omega, by decide, fun H1 d s1 nd hd => ?_⟩
    refine ⟨.ref a, rfl, .ref d, rfl, a, d, ns, rfl, fun H' r => r.script hS nd s1, hd, fun H2 cell r2 hc => ?_⟩
    refine ⟨.int cell, rfl, cell, rfl, ?_⟩
    rw [abs_eq]
    refine ⟨_, _, rfl, rfl, ⟨by decide, by decide, by decide⟩, _, _, rfl, rfl, (show (0 : Int) < 10 ^ (59 : Int).toNat by decide), _, _, rfl, rfl, ⟨by decide, by decide, by decide⟩, _, _, rfl, rfl, small' (n := 2) (by decide), fun p np => ?_⟩
    have npd : p ≠ d := r2.ne np
    have q2 := r2.then (same_new (o := .lst [.int ((cell.natAbs : Int) % 10 ^ (59 : Int).toNat), .int (10 ^ (60 : Int).toNat - 2)]) np)
    refine ⟨.ref d, rfl, d, _, rfl, q2.at_, by decide, fun H3 x r3 x0 x1 => ?_⟩
    have h3 : H3 p = some (.lst [.int ((cell.natAbs : Int) % 10 ^ (59 : Int).toNat), .int (10 ^ (60 : Int).toNat - 2)]) := r3.keep _ _ npd upd_same
    obtain ⟨great, gm, ga⟩ := pick (xs := [(cell.natAbs : Int) % 10 ^ (59 : Int).toNat, 10 ^ (60 : Int).toNat - 2]) (vs := [.int ((cell.natAbs : Int) % 10 ^ (59 : Int).toNat), .int (10 ^ (60 : Int).toNat - 2)]) (k := x) rfl (by omega) (by show x < 2; omega)
    have hg : great.natAbs + 2 ≤ 10 ^ 60 := by
      have e1 : (10 : Int) ^ (59 : Int).toNat = 10 ^ 59 := rfl
      have e2 : (10 : Int) ^ (60 : Int).toNat = 10 ^ 60 := rfl
      rw [e1, e2] at gm
      simp only [List.mem_cons, List.not_mem_nil, or_false] at gm
      rcases gm with z | z
      · have b0 : 0 ≤ (cell.natAbs : Int) % 10 ^ 59 := Int.emod_nonneg _ (by decide)
        have b1 : (cell.natAbs : Int) % 10 ^ 59 < 10 ^ 59 := Int.emod_lt_of_pos _ (by decide)
        omega
      · omega
    refine ⟨p, _, _, _, rfl, rfl, .inl (.inl h3), ga, ?_⟩
    have q3 := q2.trans r3
    refine ⟨.ref d, rfl, .ref d, rfl, .int cell, rfl, d, cell, rfl, q3.at_, fun H4 pp0 tm0 ts0 P0 r40 pa0 po0 iw0 => ?_⟩
    refine ⟨d, pp0, tm0, ts0, P0, rfl, r40.at_, pa0, po0.some_, po0.few, iw0, fun H4 pp tm ts P r4 pa ne few iw => ?_⟩
    refine ⟨.ref d, rfl, .ref pp, rfl, .int great, rfl, d, pp, tm, ts, P, 12, great, rfl, r4.at_, pa, ne, iw, by decide, by decide, hg, fun H5 g us ls r5 ngd ng hG hp ok len => ?_⟩
    have c5 : ∀ xs : List V, cutV xs none (some 5) = xs.take 5 := fun xs => cutV_to xs 5
    have c1' : ∀ xs : List V, cutV xs none (some 1) = xs.take 1 := fun xs => cutV_to xs 1
    refine ⟨.ref d, rfl, d, _, rfl, r5.at_, by decide, fun H6 u r6 u0 u1 => ⟨rfl, _, rfl, ite2 (fun e => ?c1) (fun e => ?c2)⟩⟩
    case' c1 =>
      have hG6 : H6 g = some (.lst (us.map V.ref)) := r6.keep _ _ ngd hG
      refine ⟨.ref g, rfl, 5, rfl, g, _, rfl, .inl (.inl hG6), fun S nS => ⟨S, 40, _, rfl, rfl, upd_same, by decide, by decide, ?_, fun R nR => ?_⟩⟩
      · rw [c5, List.length_take, List.length_map]
        exact small' (by show min 5 us.length * 40 ≤ 2000; omega)
      have eR : (List.replicate (40 : Int).toNat (cutV (us.map V.ref) none (some 5))).flatten = ((List.replicate 40 (us.take 5)).flatten).map V.ref := by
        rw [c5, ← List.map_take, map_rep]
        rfl
      rw [eR]
      have nSR : S ≠ R := fun z => by
        rw [← z, upd_same] at nR
        cases nR
      have k6 : Same H6 (upd (upd H6 S (.lst (cutV (us.map V.ref) none (some 5)))) R (.lst (((List.replicate 40 (us.take 5)).flatten).map V.ref))) := (same_new nS).trans (same_new nR)
      have hp6 := same_lts k6 (r6.lts r5.at_ hp)
      obtain ⟨H7, vs, ks, eH, hG7, hp7, ok8, len7, pa7⟩ : ∃ (H7 : Hp) (vs : List Addr) (ks : List Lt), H7 = upd (upd H6 S (.lst (cutV (us.map V.ref) none (some 5)))) R (.lst (((List.replicate 40 (us.take 5)).flatten).map V.ref)) ∧ H7 R = some (.lst (vs.map V.ref)) ∧ Paired (LtAt H7) vs ks ∧ (∀ l ∈ ks, l.Ok ∧ l.name ∈ P.ms.map Mt.name) ∧ vs.length ≤ 200 ∧ PlanAt H7 pp tm ts P :=
        ⟨_, _, _, rfl, upd_same, paired_rep (paired_take 5 hp6) 40, fun l hl => ok l (List.mem_of_mem_take (mem_rep hl)), by rw [len_rep, List.length_take]; omega, ((r6.plan r5.at_ (r5.plan r4.at_ pa))).same k6⟩
      rw [← eH]
    case' c2 =>
      have hG6 : H6 g = some (.lst (us.map V.ref)) := r6.keep _ _ ngd hG
      obtain ⟨R, eR⟩ : ∃ R, R = g := ⟨_, rfl⟩
      obtain ⟨H7, vs, ks, eH, hG7, hp7, ok8, len7, pa7⟩ : ∃ (H7 : Hp) (vs : List Addr) (ks : List Lt), H7 = H6 ∧ H7 R = some (.lst (vs.map V.ref)) ∧ Paired (LtAt H7) vs ks ∧ (∀ l ∈ ks, l.Ok ∧ l.name ∈ P.ms.map Mt.name) ∧ vs.length ≤ 200 ∧ PlanAt H7 pp tm ts P := ⟨_, _, _, rfl, by rw [eR]; exact hG6, r6.lts r5.at_ hp, ok, by omega, r6.plan r5.at_ (r5.plan r4.at_ pa)⟩
      rw [← eH, ← eR]
    all_goals (
      clear eH
      have ok7 : ∀ l ∈ ks, l.Ok := fun l h => (ok8 l h).1
      have kl : ks.length = vs.length := hp7.length.symm
      have hL7 : SqL K H7 R (vs.map V.ref) := .inl (.inl hG7)
      have e0 : ((ks.take 0).map Lt.row).map V.str = [] := by simp
      refine ⟨⟨_, rfl⟩, .ref R, rfl, R, rfl, ⟨_, hL7⟩, fun C nC => lc_list (K := K) (a := R) (xs := vs.map V.ref) (fun i H' => Same H7 H' ∧ H' C = some (.lst (((ks.take i).map Lt.row).map V.str))) ⟨same_new nC, by rw [e0, upd_same]⟩ (fun i H' _ z => sqL_same z.1 hL7) (fun i x H' hx z => ?_) (fun H' z => ?_)⟩
      · obtain ⟨t, l, rfl, hat, hok, k⟩ := rows_step hp7 ok7 (by omega) nC hx z
        refine ⟨rfl, .ref t, rfl, t, l, rfl, hat, hok, _, _, rfl, rfl, ?_, k _ (Same.refl _)⟩
        have z1 := hok.row_len
        have e : l.row.length = l.line.length + ("\n" : Str).length := len_app _ _
        show l.line.length + ("\n" : Str).length ≤ sizeLine
        rw [← e]
        exact small' (by omega)
      · rw [List.length_map, ← kl, List.take_length] at z
        obtain ⟨s8, hC⟩ := z
        have hL8 : SqL K H' R (vs.map V.ref) := sqL_same s8 hL7
        have hp8 := same_lts s8 hp7
        refine ⟨_, C, ks.map Lt.row, rfl, rfl, .inl (.inl (.inl hC)), rows_fit ok7 (by omega) (by omega : 1900 ≤ 16000), ?_⟩
        have cR : Txt.join (Str.ofString "") (ks.map Lt.row) = rows ks := rfl
        rw [cR]
        have pa8 := pa7.same s8
        refine ⟨.ref pp, rfl, .str (rows ks), rfl, pp, tm, ts, P, ks, rfl, pa8, by omega, ok8, by omega, fun H9 b us9 s9 hb hp9 => ?_⟩
        have hB : SqT K H9 b (us9.map V.ref) := .inl (.inl hb)
        have hL9 := sqL_same s9 hL8
        have hp8' := same_lts s9 hp8
        have ul : us9.length = vs.length := by
          have := hp9.length
          omega
        have fls : ∀ a b : V, a = b → ¬ (!decide (a = b)) = true := fun a b h => by
          rw [decide_eq_true h]
          exact Bool.false_ne_true
        refine ⟨.ref b, rfl, .ref b, .ty "tuple", .type "tuple", .type "tuple", true, rfl, .ty _, tyTup hB, kit_ty (by decide +kernel), true, rfl, iteF ?_⟩
        refine ⟨.ref b, rfl, b, _, rfl, .inr hB, .ref R, rfl, R, _, rfl, .inl hL9, rfl, _, rfl, ite2 (fun e => absurd e (fls _ _ (by rw [List.length_map, List.length_map, ul]))) (fun _ => ?_)⟩
        refine ⟨.ref R, rfl, R, _, rfl, .inl hL9, ((vs.map V.ref).length : Int), rfl, by omega, by rw [List.length_map]; omega, for_range (lo := 0) (n := (vs.map V.ref).length) (fun i σ H2 => ∃ y8 y9 : Option V, σ = [some (.ref a), some (.ref d), some (.int cell), some (.int great), some (.ref pp), some (.ref R), some (.str (rows ks)), some (.ref b), y8, y9] ∧ H2 = H9) ⟨_, _, rfl, rfl⟩ (fun i σ H2 hi hp => ?_) (fun σ H2 hp => ?_)⟩
        · obtain ⟨y8, y9, rfl, rfl⟩ := hp
          rw [List.length_map] at hi
          have hi9 : i < us9.length := by omega
          have atb : atI (us9.map V.ref) (0 + (i : Int)) = some (.ref us9[i]) := atI_z (j := i) (by omega) (by rw [List.getElem?_map, List.getElem?_eq_getElem hi9]; rfl)
          have atR : atI (vs.map V.ref) (0 + (i : Int)) = some (.ref vs[i]) := atI_z (j := i) (by omega) (by rw [List.getElem?_map, List.getElem?_eq_getElem hi]; rfl)
          obtain ⟨l1, e1, h1⟩ := lts_at hp9 (List.getElem?_eq_getElem hi9)
          obtain ⟨l2, e2, h2⟩ := lts_at hp8' (List.getElem?_eq_getElem hi)
          rw [e1] at e2
          cases e2
          exact ⟨.ref b, rfl, .int (0 + (i : Int)), rfl, b, _, _, _, rfl, rfl, hB, atb, .ref R, rfl, .int (0 + (i : Int)), rfl, R, _, _, _, rfl, rfl, hL9, atR, us9[i], vs[i], l1, rfl, h1, h2, true, rfl, iteF ⟨_, _, rfl, rfl⟩⟩
        · obtain ⟨y8, y9, rfl, rfl⟩ := hp
          refine ⟨.ref b, rfl, b, us9, ks, rfl, .inr hB, hp9, ok7, by omega, fun HA sA => ?_⟩
          have tru : ∀ a b : V, a = b → decide (a = b) = true := fun a b h => decide_eq_true h
          refine ⟨.str (rows ks), rfl, rfl, _, rfl, ?_⟩
          rw [tru _ _ rfl]
          refine iteT ?_
          have paA := (pa8.same s9).same sA
          have r0e : V.str "" = V.str (rows []) := of_decide_eq_true (by decide +kernel)
          refine ⟨.ref pp, rfl, pp, tm, ts, P, [], by rw [r0e]; rfl, paA, by omega, (fun _ z => nomatch z), Nat.zero_le _, fun HB b2 us2 sB hb2 hp2 => ?_⟩
          cases hp2
          refine ⟨small' (n := 0) (by decide), fun e ne => ?_⟩
          have hb3 : upd HB e (.tup []) b2 = some (.tup []) := same_new ne _ _ hb2
          exact ⟨.tuple [], .tuple [], .tup (.inl (.inl hb3)) .nil, .tup (.inl (.inl upd_same)) .nil, by decide +kernel, by decide +kernel, q _⟩)
end
theorem all_mk {l : PySem.W.OpenLaw} {w : World} {K : PySem.W.Frag} {h : Heap} {mg : Str → Option Value} {fa : Addr} (X : K.In h) (G : h.Ns mainGlobals mg) (hfa : mg "law" = some (.ref fa)) 
    {f1 : Addr} {od1 an1 : Option Addr} {sl1 : Array (Option Value)} {oc1 kV1 dc1 pm1 cd1 ct1 : Value}
    {f2 : Addr} {od2 an2 : Option Addr} {sl2 : Array (Option Value)} {oc2 kV2 dc2 pm2 cd2 ct2 : Value}
    {f3 : Addr} {od3 an3 : Option Addr} {sl3 : Array (Option Value)} {oc3 kV3 dc3 pm3 cd3 ct3 : Value}
    {f4 : Addr} {od4 an4 : Option Addr} {sl4 : Array (Option Value)} {oc4 kV4 dc4 pm4 cd4 ct4 : Value}
    {f5 : Addr} {od5 an5 : Option Addr} {sl5 : Array (Option Value)} {oc5 kV5 dc5 pm5 cd5 ct5 : Value}
    {f6 : Addr} {od6 an6 : Option Addr} {sl6 : Array (Option Value)} {oc6 kV6 dc6 pm6 cd6 ct6 : Value}
    {f7 : Addr} {od7 an7 : Option Addr} {sl7 : Array (Option Value)} {oc7 kV7 dc7 pm7 cd7 ct7 : Value}
    {f8 : Addr} {od8 an8 : Option Addr} {sl8 : Array (Option Value)} {oc8 kV8 dc8 pm8 cd8 ct8 : Value}
    {f9 : Addr} {od9 an9 : Option Addr} {sl9 : Array (Option Value)} {oc9 kV9 dc9 pm9 cd9 ct9 : Value}
    {f10 : Addr} {od10 an10 : Option Addr} {sl10 : Array (Option Value)} {oc10 kV10 dc10 pm10 cd10 ct10 : Value}
    {f11 : Addr} {od11 an11 : Option Addr} {sl11 : Array (Option Value)} {oc11 kV11 dc11 pm11 cd11 ct11 : Value}
    {f12 : Addr} {od12 an12 : Option Addr} {sl12 : Array (Option Value)} {oc12 kV12 dc12 pm12 cd12 ct12 : Value}
    {f13 : Addr} {od13 an13 : Option Addr} {sl13 : Array (Option Value)} {oc13 kV13 dc13 pm13 cd13 ct13 : Value}
    {f14 : Addr} {od14 an14 : Option Addr} {sl14 : Array (Option Value)} {oc14 kV14 dc14 pm14 cd14 ct14 : Value}
    {f15 : Addr} {od15 an15 : Option Addr} {sl15 : Array (Option Value)} {oc15 kV15 dc15 pm15 cd15 ct15 : Value}
    {f16 : Addr} {od16 an16 : Option Addr} {sl16 : Array (Option Value)} {oc16 kV16 dc16 pm16 cd16 ct16 : Value}
    {f17 : Addr} {od17 an17 : Option Addr} {sl17 : Array (Option Value)} {oc17 kV17 dc17 pm17 cd17 ct17 : Value}
    {f18 : Addr} {od18 an18 : Option Addr} {sl18 : Array (Option Value)} {oc18 kV18 dc18 pm18 cd18 ct18 : Value}
    {f19 : Addr} {od19 an19 : Option Addr} {sl19 : Array (Option Value)} {oc19 kV19 dc19 pm19 cd19 ct19 : Value}
    {f20 : Addr} {od20 an20 : Option Addr} {sl20 : Array (Option Value)} {oc20 kV20 dc20 pm20 cd20 ct20 : Value}
    {f21 : Addr} {od21 an21 : Option Addr} {sl21 : Array (Option Value)} {oc21 kV21 dc21 pm21 cd21 ct21 : Value}
    {f22 : Addr} {od22 an22 : Option Addr} {sl22 : Array (Option Value)} {oc22 kV22 dc22 pm22 cd22 ct22 : Value}
    {aW : Addr} {vt : Tok} {esW : Array DictEntry} {nW : Nat}
    {tr : Addr} {dr : Option Addr} {nr : Nat} {sr : Array (Option Value)} {kr0 : Tok} {kr1 : Tok} {kr2 : Tok} {kr3 : Tok}
    {tc : Addr} {dc : Option Addr} {nc : Nat} {sc : Array (Option Value)} {kc0 : Tok} {kc1 : Tok} {kc2 : Tok}
    {tk : Addr} {dk : Option Addr} {nk : Nat} {sk : Array (Option Value)} {kk0 : Tok} {kk1 : Tok}
    {dt mt : Tok}
    (a1 : PySem.W.nsIn K mainGlobals "names_of" = some (some (.ref f1))) (l1 : K.lookup f1 = some ⟨oc1, od1, .func (PySem.W.fnOf "names_of" "names_of" (defArgs s_names_of) (defBody s_names_of) (defScope s_names_of) .none kV1 dc1 pm1 an1 cd1 ct1), sl1⟩) (c1 : PySem.W.codeIn K cd1 "names_of" = true) (k1 : PySem.W.keepIn K (.ref f1) = true)
    (a2 : PySem.W.nsIn K mainGlobals "check_letter" = some (some (.ref f2))) (l2 : K.lookup f2 = some ⟨oc2, od2, .func (PySem.W.fnOf "check_letter" "check_letter" (defArgs s_check_letter) (defBody s_check_letter) (defScope s_check_letter) .none kV2 dc2 pm2 an2 cd2 ct2), sl2⟩) (c2 : PySem.W.codeIn K cd2 "check_letter" = true) (k2 : PySem.W.keepIn K (.ref f2) = true)
    (a3 : PySem.W.nsIn K mainGlobals "_check_read" = some (some (.ref f3))) (l3 : K.lookup f3 = some ⟨oc3, od3, .func (PySem.W.fnOf "_check_read" "_check_read" (defArgs s_check_read) (defBody s_check_read) (defScope s_check_read) .none kV3 dc3 pm3 an3 cd3 ct3), sl3⟩) (c3 : PySem.W.codeIn K cd3 "_check_read" = true) (k3 : PySem.W.keepIn K (.ref f3) = true)
    (a4 : PySem.W.nsIn K mainGlobals "_check_close" = some (some (.ref f4))) (l4 : K.lookup f4 = some ⟨oc4, od4, .func (PySem.W.fnOf "_check_close" "_check_close" (defArgs s_check_close) (defBody s_check_close) (defScope s_check_close) .none kV4 dc4 pm4 an4 cd4 ct4), sl4⟩) (c4 : PySem.W.codeIn K cd4 "_check_close" = true) (k4 : PySem.W.keepIn K (.ref f4) = true)
    (a5 : PySem.W.nsIn K mainGlobals "write_bag" = some (some (.ref f5))) (l5 : K.lookup f5 = some ⟨oc5, od5, .func (PySem.W.fnOf "write_bag" "write_bag" (defArgs s_write_bag) (defBody s_write_bag) (defScope s_write_bag) .none kV5 dc5 pm5 an5 cd5 ct5), sl5⟩) (c5 : PySem.W.codeIn K cd5 "write_bag" = true) (k5 : PySem.W.keepIn K (.ref f5) = true)
    (a6 : PySem.W.nsIn K mainGlobals "_line_of" = some (some (.ref f6))) (l6 : K.lookup f6 = some ⟨oc6, od6, .func (PySem.W.fnOf "_line_of" "_line_of" (defArgs s_line_of) (defBody s_line_of) (defScope s_line_of) .none kV6 dc6 pm6 an6 cd6 ct6), sl6⟩) (c6 : PySem.W.codeIn K cd6 "_line_of" = true) (k6 : PySem.W.keepIn K (.ref f6) = true)
    (a7 : PySem.W.nsIn K mainGlobals "read_bag" = some (some (.ref f7))) (l7 : K.lookup f7 = some ⟨oc7, od7, .func (PySem.W.fnOf "read_bag" "read_bag" (defArgs s_read_bag) (defBody s_read_bag) (defScope s_read_bag) .none kV7 dc7 pm7 an7 cd7 ct7), sl7⟩) (c7 : PySem.W.codeIn K cd7 "read_bag" = true) (k7 : PySem.W.keepIn K (.ref f7) = true)
    (a8 : PySem.W.nsIn K mainGlobals "_letter_of" = some (some (.ref f8))) (l8 : K.lookup f8 = some ⟨oc8, od8, .func (PySem.W.fnOf "_letter_of" "_letter_of" (defArgs s_letter_of) (defBody s_letter_of) (defScope s_letter_of) .none kV8 dc8 pm8 an8 cd8 ct8), sl8⟩) (c8 : PySem.W.codeIn K cd8 "_letter_of" = true) (k8 : PySem.W.keepIn K (.ref f8) = true)
    (a9 : PySem.W.nsIn K mainGlobals "_number_of" = some (some (.ref f9))) (l9 : K.lookup f9 = some ⟨oc9, od9, .func (PySem.W.fnOf "_number_of" "_number_of" (defArgs s_number_of) (defBody s_number_of) (defScope s_number_of) .none kV9 dc9 pm9 an9 cd9 ct9), sl9⟩) (c9 : PySem.W.codeIn K cd9 "_number_of" = true) (k9 : PySem.W.keepIn K (.ref f9) = true)
    (a10 : PySem.W.nsIn K mainGlobals "_law_draws" = some (some (.ref f10))) (l10 : K.lookup f10 = some ⟨oc10, od10, .func (PySem.W.fnOf "_law_draws" "_law_draws" (defArgs s_l_draws) (defBody s_l_draws) (defScope s_l_draws) .none kV10 dc10 pm10 an10 cd10 ct10), sl10⟩) (c10 : PySem.W.codeIn K cd10 "_law_draws" = true) (k10 : PySem.W.keepIn K (.ref f10) = true)
    (a11 : PySem.W.nsIn K mainGlobals "_law_take" = some (some (.ref f11))) (l11 : K.lookup f11 = some ⟨oc11, od11, .func (PySem.W.fnOf "_law_take" "_law_take" (defArgs s_l_take) (defBody s_l_take) (defScope s_l_take) .none kV11 dc11 pm11 an11 cd11 ct11), sl11⟩) (c11 : PySem.W.codeIn K cd11 "_law_take" = true) (k11 : PySem.W.keepIn K (.ref f11) = true)
    (a12 : PySem.W.nsIn K mainGlobals "_law_cell" = some (some (.ref f12))) (l12 : K.lookup f12 = some ⟨oc12, od12, .func (PySem.W.fnOf "_law_cell" "_law_cell" (defArgs s_l_cell) (defBody s_l_cell) (defScope s_l_cell) .none kV12 dc12 pm12 an12 cd12 ct12), sl12⟩) (c12 : PySem.W.codeIn K cd12 "_law_cell" = true) (k12 : PySem.W.keepIn K (.ref f12) = true)
    (a13 : PySem.W.nsIn K mainGlobals "_law_word" = some (some (.ref f13))) (l13 : K.lookup f13 = some ⟨oc13, od13, .func (PySem.W.fnOf "_law_word" "_law_word" (defArgs s_l_word) (defBody s_l_word) (defScope s_l_word) .none kV13 dc13 pm13 an13 cd13 ct13), sl13⟩) (c13 : PySem.W.codeIn K cd13 "_law_word" = true) (k13 : PySem.W.keepIn K (.ref f13) = true)
    (a14 : PySem.W.nsIn K mainGlobals "_law_some_word" = some (some (.ref f14))) (l14 : K.lookup f14 = some ⟨oc14, od14, .func (PySem.W.fnOf "_law_some_word" "_law_some_word" (defArgs s_l_some_word) (defBody s_l_some_word) (defScope s_l_some_word) .none kV14 dc14 pm14 an14 cd14 ct14), sl14⟩) (c14 : PySem.W.codeIn K cd14 "_law_some_word" = true) (k14 : PySem.W.keepIn K (.ref f14) = true)
    (a15 : PySem.W.nsIn K mainGlobals "_law_plan" = some (some (.ref f15))) (l15 : K.lookup f15 = some ⟨oc15, od15, .func (PySem.W.fnOf "_law_plan" "_law_plan" (defArgs s_l_plan) (defBody s_l_plan) (defScope s_l_plan) .none kV15 dc15 pm15 an15 cd15 ct15), sl15⟩) (c15 : PySem.W.codeIn K cd15 "_law_plan" = true) (k15 : PySem.W.keepIn K (.ref f15) = true)
    (a16 : PySem.W.nsIn K mainGlobals "_law_number" = some (some (.ref f16))) (l16 : K.lookup f16 = some ⟨oc16, od16, .func (PySem.W.fnOf "_law_number" "_law_number" (defArgs s_l_number) (defBody s_l_number) (defScope s_l_number) .none kV16 dc16 pm16 an16 cd16 ct16), sl16⟩) (c16 : PySem.W.codeIn K cd16 "_law_number" = true) (k16 : PySem.W.keepIn K (.ref f16) = true)
    (a17 : PySem.W.nsIn K mainGlobals "_law_letter" = some (some (.ref f17))) (l17 : K.lookup f17 = some ⟨oc17, od17, .func (PySem.W.fnOf "_law_letter" "_law_letter" (defArgs s_l_letter) (defBody s_l_letter) (defScope s_l_letter) .none kV17 dc17 pm17 an17 cd17 ct17), sl17⟩) (c17 : PySem.W.codeIn K cd17 "_law_letter" = true) (k17 : PySem.W.keepIn K (.ref f17) = true)
    (a18 : PySem.W.nsIn K mainGlobals "_law_line" = some (some (.ref f18))) (l18 : K.lookup f18 = some ⟨oc18, od18, .func (PySem.W.fnOf "_law_line" "_law_line" (defArgs s_l_line) (defBody s_l_line) (defScope s_l_line) .none kV18 dc18 pm18 an18 cd18 ct18), sl18⟩) (c18 : PySem.W.codeIn K cd18 "_law_line" = true) (k18 : PySem.W.keepIn K (.ref f18) = true)
    (a19 : PySem.W.nsIn K mainGlobals "_law_drawn_bag" = some (some (.ref f19))) (l19 : K.lookup f19 = some ⟨oc19, od19, .func (PySem.W.fnOf "_law_drawn_bag" "_law_drawn_bag" (defArgs s_l_drawn_bag) (defBody s_l_drawn_bag) (defScope s_l_drawn_bag) .none kV19 dc19 pm19 an19 cd19 ct19), sl19⟩) (c19 : PySem.W.codeIn K cd19 "_law_drawn_bag" = true) (k19 : PySem.W.keepIn K (.ref f19) = true)
    (a20 : PySem.W.nsIn K mainGlobals "_law_is_letter" = some (some (.ref f20))) (l20 : K.lookup f20 = some ⟨oc20, od20, .func (PySem.W.fnOf "_law_is_letter" "_law_is_letter" (defArgs s_l_is_letter) (defBody s_l_is_letter) (defScope s_l_is_letter) .none kV20 dc20 pm20 an20 cd20 ct20), sl20⟩) (c20 : PySem.W.codeIn K cd20 "_law_is_letter" = true) (k20 : PySem.W.keepIn K (.ref f20) = true)
    (a21 : PySem.W.nsIn K mainGlobals "_law_named" = some (some (.ref f21))) (l21 : K.lookup f21 = some ⟨oc21, od21, .func (PySem.W.fnOf "_law_named" "_law_named" (defArgs s_l_named) (defBody s_l_named) (defScope s_l_named) .none kV21 dc21 pm21 an21 cd21 ct21), sl21⟩) (c21 : PySem.W.codeIn K cd21 "_law_named" = true) (k21 : PySem.W.keepIn K (.ref f21) = true)
    (a22 : PySem.W.nsIn K mainGlobals "law" = some (some (.ref f22))) (l22 : K.lookup f22 = some ⟨oc22, od22, .func (PySem.W.fnOf "law" "law" (defArgs s_law) (defBody s_law) (defScope s_law) .none kV22 dc22 pm22 an22 cd22 ct22), sl22⟩) (c22 : PySem.W.codeIn K cd22 "law" = true) (k22 : PySem.W.keepIn K (.ref f22) = true)
    (z23 : PySem.W.nsIn K mainGlobals "ValueError" = some none)
    (z24 : PySem.W.nsIn K mainGlobals "abs" = some none)
    (z25 : PySem.W.nsIn K mainGlobals "all" = some none)
    (z26 : PySem.W.nsIn K mainGlobals "bool" = some none)
    (z27 : PySem.W.nsIn K mainGlobals "enumerate" = some none)
    (z28 : PySem.W.nsIn K mainGlobals "int" = some none)
    (z29 : PySem.W.nsIn K mainGlobals "isinstance" = some none)
    (z30 : PySem.W.nsIn K mainGlobals "len" = some none)
    (z31 : PySem.W.nsIn K mainGlobals "list" = some none)
    (z32 : PySem.W.nsIn K mainGlobals "range" = some none)
    (z33 : PySem.W.nsIn K mainGlobals "set" = some none)
    (z34 : PySem.W.nsIn K mainGlobals "sorted" = some none)
    (z35 : PySem.W.nsIn K mainGlobals "str" = some none)
    (z36 : PySem.W.nsIn K mainGlobals "tuple" = some none)
    (z37 : PySem.W.nsIn K mainGlobals "zip" = some none)
    (gW : PySem.W.nsIn K mainGlobals "WORDS" = some (some (.ref aW))) (gV : PySem.W.nsIn K mainGlobals "VOID" = some (some (.str "void" vt))) (jW : K.lookup aW = some ⟨.type "dict", none, .dict esW nW, #[]⟩) (hW : PySem.W.KeysLit w.params esW.toList)
    (mr : PySem.W.nsIn K aW "read" = some (some (.ref tr))) (jr : K.lookup tr = some ⟨.type "tuple", dr, .seq #[.str "slot" kr0, .str "version" kr1, .str "at" kr2, .str "is" kr3] nr, sr⟩)
    (mc : PySem.W.nsIn K aW "close" = some (some (.ref tc))) (jc : K.lookup tc = some ⟨.type "tuple", dc, .seq #[.str "after" kc0, .str "at" kc1, .str "with" kc2] nc, sc⟩)
    (mk : PySem.W.nsIn K aW "clock" = some (some (.ref tk))) (jk : K.lookup tk = some ⟨.type "tuple", dk, .seq #[.str "from" kk0, .str "to" kk1] nk, sk⟩)
    (gD : PySem.W.nsIn K mainGlobals "DIGITS" = some (some (.str "0123456789" dt))) (gM : PySem.W.nsIn K mainGlobals "MOST_DIGITS" = some (some (.int 60 mt)))
    (lowW : (aW == sysModules) = false) :
    ∃ fd : FuncData, (∀ (s : Shared) (v : Value), BindsTo s fd ⟨[v], []⟩ [("script", v)]) ∧ ∀ base : Heap, K.In base → base.Ns mainGlobals mg →  FnOk l.prog w K mg base CX0 5 fa fd ["script"] (sp_law K) := by
  have e := hfa.symm.trans (PySem.W.mg_of X G a22)
  cases e
  have F1 := fun_mk (st := s_names_of) l1 c1 k1
  have B1 := F1.binds (ps := ["plan"]) (fun _ _ _ _ _ _ us hl => match us, hl with | [_], _ => rfl)
  have F2 := fun_mk (st := s_check_letter) l2 c2 k2
  have B2 := F2.binds (ps := ["plan", "letter"]) (fun _ _ _ _ _ _ us hl => match us, hl with | [_, _], _ => rfl)
  have F3 := fun_mk (st := s_check_read) l3 c3 k3
  have B3 := F3.binds (ps := ["numbers"]) (fun _ _ _ _ _ _ us hl => match us, hl with | [_], _ => rfl)
  have F4 := fun_mk (st := s_check_close) l4 c4 k4
  have B4 := F4.binds (ps := ["numbers"]) (fun _ _ _ _ _ _ us hl => match us, hl with | [_], _ => rfl)
  have F5 := fun_mk (st := s_write_bag) l5 c5 k5
  have B5 := F5.binds (ps := ["letters"]) (fun _ _ _ _ _ _ us hl => match us, hl with | [_], _ => rfl)
  have F6 := fun_mk (st := s_line_of) l6 c6 k6
  have B6 := F6.binds (ps := ["letter"]) (fun _ _ _ _ _ _ us hl => match us, hl with | [_], _ => rfl)
  have F7 := fun_mk (st := s_read_bag) l7 c7 k7
  have B7 := F7.binds (ps := ["plan", "text"]) (fun _ _ _ _ _ _ us hl => match us, hl with | [_, _], _ => rfl)
  have F8 := fun_mk (st := s_letter_of) l8 c8 k8
  have B8 := F8.binds (ps := ["plan", "line"]) (fun _ _ _ _ _ _ us hl => match us, hl with | [_, _], _ => rfl)
  have F9 := fun_mk (st := s_number_of) l9 c9 k9
  have B9 := F9.binds (ps := ["word", "part"]) (fun _ _ _ _ _ _ us hl => match us, hl with | [_, _], _ => rfl)
  have F10 := fun_mk (st := s_l_draws) l10 c10 k10
  have B10 := F10.binds (ps := ["script", "many"]) (fun _ _ _ _ _ _ us hl => match us, hl with | [_, _], _ => rfl)
  have F11 := fun_mk (st := s_l_take) l11 c11 k11
  have B11 := F11.binds (ps := ["draws", "many"]) (fun _ _ _ _ _ _ us hl => match us, hl with | [_, _], _ => rfl)
  have F12 := fun_mk (st := s_l_cell) l12 c12 k12
  have B12 := F12.binds (ps := ["script", "draws"]) (fun _ _ _ _ _ _ us hl => match us, hl with | [_, _], _ => rfl)
  have F13 := fun_mk (st := s_l_word) l13 c13 k13
  have B13 := F13.binds (ps := ["number"]) (fun _ _ _ _ _ _ us hl => match us, hl with | [_], _ => rfl)
  have F14 := fun_mk (st := s_l_some_word) l14 c14 k14
  have B14 := F14.binds (ps := ["draws"]) (fun _ _ _ _ _ _ us hl => match us, hl with | [_], _ => rfl)
  have F15 := fun_mk (st := s_l_plan) l15 c15 k15
  have B15 := F15.binds (ps := ["draws", "cell"]) (fun _ _ _ _ _ _ us hl => match us, hl with | [_, _], _ => rfl)
  have F16 := fun_mk (st := s_l_number) l16 c16 k16
  have B16 := F16.binds (ps := ["draws", "cell"]) (fun _ _ _ _ _ _ us hl => match us, hl with | [_, _], _ => rfl)
  have F17 := fun_mk (st := s_l_letter) l17 c17 k17
  have B17 := F17.binds (ps := ["draws", "name", "cell"]) (fun _ _ _ _ _ _ us hl => match us, hl with | [_, _, _], _ => rfl)
  have F18 := fun_mk (st := s_l_line) l18 c18 k18
  have B18 := F18.binds (ps := ["letter"]) (fun _ _ _ _ _ _ us hl => match us, hl with | [_], _ => rfl)
  have F19 := fun_mk (st := s_l_drawn_bag) l19 c19 k19
  have B19 := F19.binds (ps := ["draws", "plan", "most", "great"]) (fun _ _ _ _ _ _ us hl => match us, hl with | [_, _, _, _], _ => rfl)
  have F20 := fun_mk (st := s_l_is_letter) l20 c20 k20
  have B20 := F20.binds (ps := ["actual", "due"]) (fun _ _ _ _ _ _ us hl => match us, hl with | [_, _], _ => rfl)
  have F21 := fun_mk (st := s_l_named) l21 c21 k21
  have B21 := F21.binds (ps := ["draws", "plan"]) (fun _ _ _ _ _ _ us hl => match us, hl with | [_, _], _ => rfl)
  have F22 := fun_mk (st := s_law) l22 c22 k22
  have B22 := F22.binds (ps := ["script"]) (fun _ _ _ _ _ _ us hl => match us, hl with | [_], _ => rfl)
  have hWd : WordsAt K w aW := ⟨tr, tc, tk, ⟨esW, nW, _, jW, hW, mr, rfl⟩, ⟨esW, nW, _, jW, hW, mc, rfl⟩, ⟨esW, nW, _, jW, hW, mk, rfl⟩, fun _ => .inr ⟨_, _, _, jr, rfl, rfl, (show 4 ≤ sizeLine by decide), .cons ⟨_, rfl⟩ (.cons ⟨_, rfl⟩ (.cons ⟨_, rfl⟩ (.cons ⟨_, rfl⟩ .nil)))⟩, fun _ => .inr ⟨_, _, _, jc, rfl, rfl, (show 3 ≤ sizeLine by decide), .cons ⟨_, rfl⟩ (.cons ⟨_, rfl⟩ (.cons ⟨_, rfl⟩ .nil))⟩, fun _ => .inr ⟨_, _, _, jk, rfl, rfl, (show 2 ≤ sizeLine by decide), .cons ⟨_, rfl⟩ (.cons ⟨_, rfl⟩ .nil)⟩⟩
  have hDd : ∃ es n, KDict K w aW es n := ⟨esW, nW, jW, hW, lowW⟩
  let T : Ctx K mg := { f_names_of := f1, fd_names_of := _, F_names_of := F1, b_names_of := B1, g_names_of := PySem.W.mg_of X G a1, f_check_letter := f2, fd_check_letter := _, F_check_letter := F2, b_check_letter := B2, g_check_letter := PySem.W.mg_of X G a2, f_check_read := f3, fd_check_read := _, F_check_read := F3, b_check_read := B3, g_check_read := PySem.W.mg_of X G a3, f_check_close := f4, fd_check_close := _, F_check_close := F4, b_check_close := B4, g_check_close := PySem.W.mg_of X G a4, f_write_bag := f5, fd_write_bag := _, F_write_bag := F5, b_write_bag := B5, g_write_bag := PySem.W.mg_of X G a5, f_line_of := f6, fd_line_of := _, F_line_of := F6, b_line_of := B6, g_line_of := PySem.W.mg_of X G a6, f_read_bag := f7, fd_read_bag := _, F_read_bag := F7, b_read_bag := B7, g_read_bag := PySem.W.mg_of X G a7, f_letter_of := f8, fd_letter_of := _, F_letter_of := F8, b_letter_of := B8, g_letter_of := PySem.W.mg_of X G a8, f_number_of := f9, fd_number_of := _, F_number_of := F9, b_number_of := B9, g_number_of := PySem.W.mg_of X G a9, f_l_draws := f10, fd_l_draws := _, F_l_draws := F10, b_l_draws := B10, g_l_draws := PySem.W.mg_of X G a10, f_l_take := f11, fd_l_take := _, F_l_take := F11, b_l_take := B11, g_l_take := PySem.W.mg_of X G a11, f_l_cell := f12, fd_l_cell := _, F_l_cell := F12, b_l_cell := B12, g_l_cell := PySem.W.mg_of X G a12, f_l_word := f13, fd_l_word := _, F_l_word := F13, b_l_word := B13, g_l_word := PySem.W.mg_of X G a13, f_l_some_word := f14, fd_l_some_word := _, F_l_some_word := F14, b_l_some_word := B14, g_l_some_word := PySem.W.mg_of X G a14, f_l_plan := f15, fd_l_plan := _, F_l_plan := F15, b_l_plan := B15, g_l_plan := PySem.W.mg_of X G a15, f_l_number := f16, fd_l_number := _, F_l_number := F16, b_l_number := B16, g_l_number := PySem.W.mg_of X G a16, f_l_letter := f17, fd_l_letter := _, F_l_letter := F17, b_l_letter := B17, g_l_letter := PySem.W.mg_of X G a17, f_l_line := f18, fd_l_line := _, F_l_line := F18, b_l_line := B18, g_l_line := PySem.W.mg_of X G a18, f_l_drawn_bag := f19, fd_l_drawn_bag := _, F_l_drawn_bag := F19, b_l_drawn_bag := B19, g_l_drawn_bag := PySem.W.mg_of X G a19, f_l_is_letter := f20, fd_l_is_letter := _, F_l_is_letter := F20, b_l_is_letter := B20, g_l_is_letter := PySem.W.mg_of X G a20, f_l_named := f21, fd_l_named := _, F_l_named := F21, b_l_named := B21, g_l_named := PySem.W.mg_of X G a21, f_law := fa, fd_law := _, F_law := F22, b_law := B22, g_law := PySem.W.mg_of X G a22, m_ValueError := PySem.W.mg_none_of X G z23, m_abs := PySem.W.mg_none_of X G z24, m_all := PySem.W.mg_none_of X G z25, m_bool := PySem.W.mg_none_of X G z26, m_enumerate := PySem.W.mg_none_of X G z27, m_int := PySem.W.mg_none_of X G z28, m_isinstance := PySem.W.mg_none_of X G z29, m_len := PySem.W.mg_none_of X G z30, m_list := PySem.W.mg_none_of X G z31, m_range := PySem.W.mg_none_of X G z32, m_set := PySem.W.mg_none_of X G z33, m_sorted := PySem.W.mg_none_of X G z34, m_str := PySem.W.mg_none_of X G z35, m_tuple := PySem.W.mg_none_of X G z36, m_zip := PySem.W.mg_none_of X G z37, aW := aW, vt := vt, g_WORDS := PySem.W.mg_of X G gW, g_VOID := PySem.W.mg_of X G gV, dt := dt, mt := mt, g_DIGITS := PySem.W.mg_of X G gD, g_MOST := PySem.W.mg_of X G gM }
  exact ⟨PySem.W.fnOf "law" "law" (defArgs s_law) (defBody s_law) (defScope s_law) .none kV22 dc22 pm22 an22 cd22 ct22, fun s v => .of_eq rfl, fun base _ _  => ok_law T hWd hDd⟩
end Tw
open PySem PySem.W PyProof.Rows
set_option maxHeartbeats 0 in
theorem PySem.Challenge.cw_toldwhensure_k06_bags_read_back_holds : PySem.Challenge.rw_toldwhensure_k06_bags_read_back.Holds := by
  w_on; o_law; k_head; (case hw => w_witness2)
  k_fill
  refine L2.walk_of (l := PySem.Challenge.rw_toldwhensure_k06_bags_read_back) (n := 63) (k := 5) (x := "script") (CX := fun _ => L2.CX0) (sp := fun w => Tw.sp_law _) rfl (by decide) rfl ⟨rfl, by decide, by decide⟩ (fun w h Y => PySem.W.kIn_of Y) ?F
    (fun _ _ a ns hl _ hS => ⟨a, ns, rfl, hS, hl, fun _ => rfl⟩) (fun _ _ _ _ _ h => h)
  case F =>
    intro w mg fa h KX G hmg
    refine' Tw.all_mk KX G hmg  ?a1 ?l1 ?c1 ?k1 ?a2 ?l2 ?c2 ?k2 ?a3 ?l3 ?c3 ?k3 ?a4 ?l4 ?c4 ?k4 ?a5 ?l5 ?c5 ?k5 ?a6 ?l6 ?c6 ?k6 ?a7 ?l7 ?c7 ?k7 ?a8 ?l8 ?c8 ?k8 ?a9 ?l9 ?c9 ?k9 ?a10 ?l10 ?c10 ?k10 ?a11 ?l11 ?c11 ?k11 ?a12 ?l12 ?c12 ?k12 ?a13 ?l13 ?c13 ?k13 ?a14 ?l14 ?c14 ?k14 ?a15 ?l15 ?c15 ?k15 ?a16 ?l16 ?c16 ?k16 ?a17 ?l17 ?c17 ?k17 ?a18 ?l18 ?c18 ?k18 ?a19 ?l19 ?c19 ?k19 ?a20 ?l20 ?c20 ?k20 ?a21 ?l21 ?c21 ?k21 ?a22 ?l22 ?c22 ?k22 ?z23 ?z24 ?z25 ?z26 ?z27 ?z28 ?z29 ?z30 ?z31 ?z32 ?z33 ?z34 ?z35 ?z36 ?z37 ?gW ?gV ?jW ?hW ?mr ?jr ?mc ?jc ?mk ?jk ?gD ?gM ?lowW
    (case a1 => k_is); (case l1 => k_is); (case c1 => k_is); (case k1 => k_is); (case a2 => k_is); (case l2 => k_is); (case c2 => k_is); (case k2 => k_is); (case a3 => k_is); (case l3 => k_is); (case c3 => k_is); (case k3 => k_is); (case a4 => k_is); (case l4 => k_is); (case c4 => k_is); (case k4 => k_is); (case a5 => k_is); (case l5 => k_is); (case c5 => k_is); (case k5 => k_is); (case a6 => k_is); (case l6 => k_is); (case c6 => k_is); (case k6 => k_is); (case a7 => k_is); (case l7 => k_is); (case c7 => k_is); (case k7 => k_is); (case a8 => k_is); (case l8 => k_is); (case c8 => k_is); (case k8 => k_is); (case a9 => k_is); (case l9 => k_is); (case c9 => k_is); (case k9 => k_is); (case a10 => k_is); (case l10 => k_is); (case c10 => k_is); (case k10 => k_is); (case a11 => k_is); (case l11 => k_is); (case c11 => k_is); (case k11 => k_is); (case a12 => k_is); (case l12 => k_is); (case c12 => k_is); (case k12 => k_is); (case a13 => k_is); (case l13 => k_is); (case c13 => k_is); (case k13 => k_is); (case a14 => k_is); (case l14 => k_is); (case c14 => k_is); (case k14 => k_is); (case a15 => k_is); (case l15 => k_is); (case c15 => k_is); (case k15 => k_is); (case a16 => k_is); (case l16 => k_is); (case c16 => k_is); (case k16 => k_is); (case a17 => k_is); (case l17 => k_is); (case c17 => k_is); (case k17 => k_is); (case a18 => k_is); (case l18 => k_is); (case c18 => k_is); (case k18 => k_is); (case a19 => k_is); (case l19 => k_is); (case c19 => k_is); (case k19 => k_is); (case a20 => k_is); (case l20 => k_is); (case c20 => k_is); (case k20 => k_is); (case a21 => k_is); (case l21 => k_is); (case c21 => k_is); (case k21 => k_is); (case a22 => k_is); (case l22 => k_is); (case c22 => k_is); (case k22 => k_is); (case z23 => k_is); (case z24 => k_is); (case z25 => k_is); (case z26 => k_is); (case z27 => k_is); (case z28 => k_is); (case z29 => k_is); (case z30 => k_is); (case z31 => k_is); (case z32 => k_is); (case z33 => k_is); (case z34 => k_is); (case z35 => k_is); (case z36 => k_is); (case z37 => k_is); (case gW => k_is); (case gV => k_is); (case jW => k_is); (case hW => exact ⟨⟨_, _, rfl, rfl⟩, ⟨_, _, rfl, rfl⟩, ⟨_, _, rfl, rfl⟩, trivial⟩); (case mr => k_is); (case jr => k_is); (case mc => k_is); (case jc => k_is); (case mk => k_is); (case jk => k_is); (case gD => k_is); (case gM => k_is); (case lowW => first | rfl | decide +kernel)
